import PyProof.Rows.All
import Wide.All
import OpenK.AllK
import Wide.FinOn
import HandS.Base
import HandS.Call
import HandS.List
import HandS.Dict
import HandS.Words
import PyProof.Rows.ReprR
import HandS.Ends
import HandS.Exc
import HandS.ExcInit
import HandS.ExcIs
import KE.KExcIs
import HandS.ExcValue
import PyProof.ListStr
import HandS.ForMost
import HandS.Conv
import HandS.Walk
import HandS.Style
import KE.SortData
import PyProof.ReprLen
import HandS.Defaults
import KE.DataMinKey
import KE.DataMinMax
import PyProof.Rows.RuleIs
import HandS.IsInst
import PyProof.EqKinds
import PyProof.FactsAll.dict_1
import HandS.Lambda
import KE.GoesEnum
import HandS.Iter
import HandS.Strs
import KE.GoesMore
import KE.GoesZip
import HandS.TupAny
import HandS.Codes
import PyProof.NeKinds
import HandS.Text
import HandS.Zip
import HandS.Steps
import HandS.TupSets
import HandS.SetBool
import KE.KeyNested
import KE.KDictKeyed
import HandS.Comp
import KE.KDictZip
import PyProof.CollectIter
import PyProof.TupleOfGen
import HandS.Keys
import KE.KDictSum
import PyProof.TupleOfSeq
import PySem.Challenge.RW_wraptrails_k14_worlds_known_by_hand
set_option Elab.async false
set_option linter.all false
set_option maxRecDepth 100000
set_option maxHeartbeats 4000000
/-! repr of data: lists, tuples and dicts within one another. -/
namespace WT
open PySem
mutual
/-- the value v of the heap h is the data d; no dict of it is the one of all modules -/
inductive Sh (h : Heap) : Value → PyData → Prop
  | none : Sh h .none .none
  | bool (b) : Sh h (.bool b) (.bool b)
  | int (i t) : Sh h (.int i t) (.int i)
  | str (x t) : Sh h (.str x t) (.str x)
  | list {a o vs n xs} : h.get? a = some o → o.cls = .type "list" → o.data = .seq vs n → ShAll h vs.toList xs → Sh h (.ref a) (.list xs)
  | tuple {a o vs n xs} : h.get? a = some o → o.cls = .type "tuple" → o.data = .seq vs n → ShAll h vs.toList xs → Sh h (.ref a) (.tuple xs)
  | dict {a o es n ks vs} : h.get? a = some o → o.cls = .type "dict" → o.data = .dict es n → (a == sysModules) = false → ks.length = vs.length → ShAll h (es.toList.map (·.key)) ks → ShAll h (es.toList.map (·.val)) vs → Sh h (.ref a) (.dict (ks.zip vs))
inductive ShAll (h : Heap) : List Value → List PyData → Prop
  | nil : ShAll h [] []
  | cons {v vs d ds} : Sh h v d → ShAll h vs ds → ShAll h (v :: vs) (d :: ds)
end
theorem zip1 {α β : Type} : ∀ (ks : List α) (vs : List β), ks.length = vs.length → (ks.zip vs).map (·.1) = ks
  | [], _, _ => rfl
  | k :: ks, [], h => by cases h
  | k :: ks, v :: vs, h => by
    show k :: (ks.zip vs).map (·.1) = k :: ks
    rw [zip1 ks vs (Nat.succ.inj h)]
theorem zip2 {α β : Type} : ∀ (ks : List α) (vs : List β), ks.length = vs.length → (ks.zip vs).map (·.2) = vs
  | [], [], _ => rfl
  | [], v :: vs, h => by cases h
  | k :: ks, [], h => by cases h
  | k :: ks, v :: vs, h => by
    show v :: (ks.zip vs).map (·.2) = v :: vs
    rw [zip2 ks vs (Nat.succ.inj h)]
mutual
theorem Sh.reads {h : Heap} : ∀ {v : Value} {d : PyData}, Sh h v d → ∃ as, Reads h v d as
  | _, _, .none => ⟨_, .none⟩
  | _, _, .bool b => ⟨_, .bool b⟩
  | _, _, .int i t => ⟨_, .int i t⟩
  | _, _, .str x t => ⟨_, .str x t⟩
  | _, _, .list h1 h2 h3 h4 => let ⟨_, q⟩ := ShAll.reads h4; ⟨_, .list h1 h2 h3 q⟩
  | _, _, .tuple h1 h2 h3 h4 => let ⟨_, q⟩ := ShAll.reads h4; ⟨_, .tuple h1 h2 h3 q⟩
  | _, _, .dict (ks := ks) (vs := vs) h1 h2 h3 _ hl h4 h5 => by
    obtain ⟨_, q4⟩ := ShAll.reads h4
    obtain ⟨_, q5⟩ := ShAll.reads h5
    exact ⟨_, .dict h1 h2 h3 (by rw [zip1 ks vs hl]; exact q4) (by rw [zip2 ks vs hl]; exact q5)⟩
theorem ShAll.reads {h : Heap} : ∀ {vs : List Value} {ds : List PyData}, ShAll h vs ds → ∃ as, ReadsAll h vs ds as
  | _, _, .nil => ⟨_, .nil⟩
  | _, _, .cons r rs => let ⟨_, q⟩ := Sh.reads r; let ⟨_, q2⟩ := ShAll.reads rs; ⟨_, .cons q q2⟩
end
section
variable {prog : Program} {w : World} {h₀ : Heap}
mutual
theorem Sh.rk : ∀ {v : Value} {d : PyData}, Sh h₀ v d → d.showable = true → d.shown.length ≤ sizeLine → ∃ bs, ReadAtMost h₀ d.depth bs ∧ ReprK prog w bs h₀ d.depth v d.shown
  | _, _, .none, _, _ => ⟨[], fun _ z => (nomatch z), by rw [PyData.shown]; exact .of_is ReprIs.none _ _ _⟩
  | _, _, .bool b, _, _ => ⟨[], fun _ z => (nomatch z), by rw [PyData.shown]; exact .of_is (ReprIs.bool b) _ _ _⟩
  | _, _, .int i t, hs, _ => ⟨[], fun _ z => (nomatch z), by rw [PyData.shown]; exact .of_is (ReprIs.int t (by simpa [PyData.showable] using hs)) _ _ _⟩
  | _, _, .str x t, _, hz => ⟨[], fun _ z => (nomatch z), by rw [PyData.shown] at hz ⊢; exact .of_is (ReprIs.str x t hz) _ _ _⟩
  | _, _, .list (a := a) (vs := vs) (xs := xs) h1 h2 h3 h4, hs, hz => by
    rw [PyData.shown] at hz
    rw [PyData.showable] at hs
    obtain ⟨as, q4⟩ := ShAll.reads h4
    obtain ⟨bs, hb, hk⟩ := ShAll.rk h4 hs fun t ht => Nat.le_trans (listText_mem_le ht) hz
    have r : Reads h₀ (.ref a) (.list xs) (a :: as) := .list h1 h2 h3 q4
    have hna : a ∉ bs := not_mem_of_deeper r (by rw [PyData.depth]; omega) hb
    refine ⟨a :: bs, ReadAtMost.cons r (by rw [PyData.depth]; omega) hb, ?_⟩
    rw [PyData.depth, PyData.shown]
    obtain ⟨l⟩ := vs
    match l, h4, hk, h3 with
    | [], h4, _, h3 =>
      have h4' : ShAll h₀ [] xs := h4
      cases h4'
      rw [PyData.shownAll, listText_nil]
      exact ReprK.listEmpty h1 h2 h3
    | x :: l, _, hk, h3 => exact ReprK.list h1 h2 h3 hna (by simpa using hk.length_eq) fun i y e => hk.item i y (by simpa using e)
  | _, _, .tuple (a := a) (xs := xs) h1 h2 h3 h4, hs, hz => by
    rw [PyData.shown] at hz
    rw [PyData.showable] at hs
    obtain ⟨as, q4⟩ := ShAll.reads h4
    obtain ⟨bs, hb, hk⟩ := ShAll.rk h4 hs fun t ht => Nat.le_trans (tupleText_mem_le ht) hz
    have r : Reads h₀ (.ref a) (.tuple xs) as := .tuple h1 h2 h3 q4
    have hna : a ∉ bs := not_mem_of_deeper r (by rw [PyData.depth]; omega) hb
    refine ⟨a :: bs, ReadAtMost.cons r (by rw [PyData.depth]; omega) hb, ?_⟩
    rw [PyData.depth, PyData.shown]
    exact ReprK.tuple h1 h2 h3 hna hk
  | _, _, .dict (a := a) (es := es) (ks := ks) (vs := vs) h1 h2 h3 hsys hl h4 h5, hs, hz => by
    rw [PyData.shown] at hz
    rw [PyData.showable] at hs
    obtain ⟨as, q4⟩ := ShAll.reads h4
    obtain ⟨cs, q5⟩ := ShAll.reads h5
    have e1 := zip1 ks vs hl
    have e2 := zip2 ks vs hl
    obtain ⟨hs1, hs2⟩ := PyData.showableKv_split (ks.zip vs) hs
    rw [e1] at hs1
    rw [e2] at hs2
    obtain ⟨b1, hb1, k1⟩ := ShAll.rk h4 hs1 fun t ht => by
      obtain ⟨p, hp, hle⟩ := PyData.shownKv_key_le (ks.zip vs) t (by rw [e1]; exact ht)
      exact Nat.le_trans hle (Nat.le_trans (dictText_mem_le hp) hz)
    obtain ⟨b2, hb2, k2⟩ := ShAll.rk h5 hs2 fun t ht => by
      obtain ⟨p, hp, hle⟩ := PyData.shownKv_val_le (ks.zip vs) t (by rw [e2]; exact ht)
      exact Nat.le_trans hle (Nat.le_trans (dictText_mem_le hp) hz)
    have d1 := PyData.depthAll_keys_le (ks.zip vs)
    have d2 := PyData.depthAll_vals_le (ks.zip vs)
    rw [e1] at d1
    rw [e2] at d2
    have r : Reads h₀ (.ref a) (.dict (ks.zip vs)) (a :: as ++ cs) := .dict h1 h2 h3 (by rw [e1]; exact q4) (by rw [e2]; exact q5)
    have hb : ReadAtMost h₀ (PyData.depthKv (ks.zip vs)) (b1 ++ b2) := (hb1.mono d1).append (hb2.mono d2)
    have hna : a ∉ b1 ++ b2 := not_mem_of_deeper r (by rw [PyData.depth]; omega) hb
    refine ⟨a :: (b1 ++ b2), ReadAtMost.cons r (by rw [PyData.depth]; omega) hb, ?_⟩
    rw [PyData.depth, PyData.shown, PyData.shownKv_eq, e1, e2]
    exact ReprK.dict h1 h2 h3 hsys hna (ReprEntriesK.of_two es.toList _ _
      (k1.more_le (fun b hb => List.mem_append_left _ hb) d1) (k2.more_le (fun b hb => List.mem_append_right _ hb) d2))
theorem ShAll.rk : ∀ {vs : List Value} {ds : List PyData}, ShAll h₀ vs ds → PyData.showableAll ds = true → (∀ t ∈ PyData.shownAll ds, t.length ≤ sizeLine) →
    ∃ bs, ReadAtMost h₀ (PyData.depthAll ds) bs ∧ ReprAllK prog w bs h₀ (PyData.depthAll ds) vs (PyData.shownAll ds)
  | _, _, .nil, _, _ => ⟨[], fun _ z => (nomatch z), by rw [PyData.shownAll]; exact .nil⟩
  | _, _, .cons (d := d) (ds := ds) r rs, hs, hz => by
    rw [PyData.showableAll, Bool.and_eq_true] at hs
    rw [PyData.shownAll] at hz
    obtain ⟨b1, hb1, k1⟩ := Sh.rk r hs.1 (hz _ List.mem_cons_self)
    obtain ⟨b2, hb2, k2⟩ := ShAll.rk rs hs.2 fun t ht => hz t (List.mem_cons_of_mem _ ht)
    rw [PyData.depthAll, PyData.shownAll]
    exact ⟨b1 ++ b2, (hb1.mono (Nat.le_max_left _ _)).append (hb2.mono (Nat.le_max_right _ _)),
      .cons ((k1.more fun b hb => List.mem_append_left _ hb).level_le (Nat.le_max_left _ _)) (k2.more_le (fun b hb => List.mem_append_right _ hb) (Nat.le_max_right _ _))⟩
end
variable {A : Around} {E : Value → Shared → Prop} {s : Shared} {Q : Value → Shared → Prop}
theorem Sh.repr {v : Value} {d : PyData} (r : Sh s.heap v d) (hs : d.showable = true) (hz : d.shown.length ≤ sizeLine) (hg : A.guards = some []) (hu : A.units + (d.depth + 1) < cLine)
    (hQ : ∀ h' u tk, (∀ b o, s.heap.get? b = some o → h'.get? b = some o) → Q (.str d.shown u) { s with heap := h', toks := tk }) : wpAny (model prog w) A (call (.builtin "repr") [v]) Q E s := by
  have hid : ∀ b o, s.heap.get? b = some o → s.heap.get? b = some o := fun _ _ z => z
  cases r with
  | none =>
    rw [PyData.shown] at hQ
    exact PySem.P.repr_of_none (hQ s.heap _ _ hid)
  | bool b =>
    rw [PyData.shown] at hQ
    exact PySem.P.repr_of_bool (hQ s.heap _ _ hid)
  | int i t =>
    rw [PyData.shown] at hQ
    exact PySem.P.repr_of_int (by simpa [PyData.showable] using hs) (hQ s.heap _ _ hid)
  | str x t =>
    rw [PyData.shown] at hQ hz
    exact PySem.P.repr_of_str (hQ s.heap _ _ hid) hz
  | list h1 h2 h3 h4 =>
    rename_i a o vs n xs
    rw [PyData.shown] at hz hQ
    rw [PyData.showable] at hs
    rw [PyData.depth] at hu
    obtain ⟨as, q4⟩ := ShAll.reads h4
    obtain ⟨bs, hb, hk⟩ := ShAll.rk (prog := prog) (w := w) h4 hs fun t ht => Nat.le_trans (listText_mem_le ht) hz
    have hna : a ∉ bs := not_mem_of_deeper (.list h1 h2 h3 q4) (by rw [PyData.depth]; omega) hb
    refine call_repr_slot (by omega) ⟨o, h1, h2⟩ F.slot_list_repr.toG ?_
    obtain ⟨l⟩ := vs
    match l, h4, hk, h3 with
    | [], h4, _, h3 =>
      have h4' : ShAll s.heap [] xs := h4
      cases h4'
      rw [PyData.shownAll, listText_nil] at hQ
      exact call_list_repr_empty ⟨o, h1, h2⟩ h1 h3 ⟨_, _, rfl, hQ s.heap _ _ hid⟩
    | x :: l, _, hk, h3 =>
      exact call_list_reprK h1 h2 h3 hna (by simpa using hk.length_eq) (fun i y e => hk.item i y (by simpa using e)) hg (fun b _ => Clear.nil b) (by show A.units + 1 + _ < cLine; omega) hid (fun h' u tk hk => ⟨_, _, rfl, hQ h' u tk hk⟩) hz
  | tuple h1 h2 h3 h4 =>
    rename_i a o vs n xs
    rw [PyData.shown] at hz hQ
    rw [PyData.showable] at hs
    rw [PyData.depth] at hu
    obtain ⟨as, q4⟩ := ShAll.reads h4
    obtain ⟨bs, hb, hk⟩ := ShAll.rk (prog := prog) (w := w) h4 hs fun t ht => Nat.le_trans (tupleText_mem_le ht) hz
    have hna : a ∉ bs := not_mem_of_deeper (.tuple h1 h2 h3 q4) (by rw [PyData.depth]; omega) hb
    refine call_repr_slot (by omega) ⟨o, h1, h2⟩ F.slot_tuple_repr ?_
    exact call_tuple_reprK h1 h2 h3 hna hk hg (fun b _ => Clear.nil b) (by show A.units + 1 + _ < cLine; omega) hid (fun h' u tk hk => ⟨_, _, rfl, hQ h' u tk hk⟩) hz
  | dict h1 h2 h3 hsys hl h4 h5 =>
    rename_i a o es n ks vs
    rw [PyData.shown] at hz hQ
    rw [PyData.showable] at hs
    rw [PyData.depth] at hu
    obtain ⟨as, q4⟩ := ShAll.reads h4
    obtain ⟨cs, q5⟩ := ShAll.reads h5
    have e1 := zip1 ks vs hl
    have e2 := zip2 ks vs hl
    obtain ⟨hs1, hs2⟩ := PyData.showableKv_split (ks.zip vs) hs
    rw [e1] at hs1
    rw [e2] at hs2
    obtain ⟨b1, hb1, k1⟩ := ShAll.rk (prog := prog) (w := w) h4 hs1 fun t ht => by
      obtain ⟨p, hp, hle⟩ := PyData.shownKv_key_le (ks.zip vs) t (by rw [e1]; exact ht)
      exact Nat.le_trans hle (Nat.le_trans (dictText_mem_le hp) hz)
    obtain ⟨b2, hb2, k2⟩ := ShAll.rk (prog := prog) (w := w) h5 hs2 fun t ht => by
      obtain ⟨p, hp, hle⟩ := PyData.shownKv_val_le (ks.zip vs) t (by rw [e2]; exact ht)
      exact Nat.le_trans hle (Nat.le_trans (dictText_mem_le hp) hz)
    have d1 := PyData.depthAll_keys_le (ks.zip vs)
    have d2 := PyData.depthAll_vals_le (ks.zip vs)
    rw [e1] at d1
    rw [e2] at d2
    have hb : ReadAtMost s.heap (PyData.depthKv (ks.zip vs)) (b1 ++ b2) := (hb1.mono d1).append (hb2.mono d2)
    have hna : a ∉ b1 ++ b2 := not_mem_of_deeper (.dict h1 h2 h3 (by rw [e1]; exact q4) (by rw [e2]; exact q5)) (by rw [PyData.depth]; omega) hb
    rw [PyData.shownKv_eq, e1, e2] at hQ hz
    refine call_repr_slot (by omega) ⟨o, h1, h2⟩ F.slot_dict_repr ?_
    exact call_dict_reprK h1 h2 h3 hsys hna (ReprEntriesK.of_two es.toList _ _ (k1.more_le (fun b hb => List.mem_append_left _ hb) d1) (k2.more_le (fun b hb => List.mem_append_right _ hb) d2)) hg (fun b _ => Clear.nil b)
      (by show A.units + 1 + _ < cLine; omega) hid (fun h' u tk hk => ⟨_, _, rfl, hQ h' u tk hk⟩) hz
end
end WT

set_option Elab.async false
set_option linter.all false
set_option maxRecDepth 100000
set_option maxHeartbeats 4000000
/-! Defs that may ask repr of lists: called where no repr is under way (the guards are told to be empty). -/
namespace WT
open PySem PySem.Spec PyProof.Rows L2
structure FnG (P : Program) (w : World) (K : PySem.W.Frag) (mg : Str → Option Value) (base : Heap) (cx : CXT) (k : Nat) (f : Addr) (fd : FuncData) (ps : List Str) (sp : Sp) : Prop where
  len : ∀ vs H Q E, sp vs H Q E → vs.length = ps.length
  run : ∀ (A : Around) (outer : List Env) (s : Shared) (H : Hp) (args : Args) (us : List Value) (vs : List V) (Q : VK) (E : XK), A.guards = some [] → Room k A → Env0 P w K mg base A outer s H →
    BindsTo s fd args (ps.zip us) → Vals vs us → sp vs H Q E → codeAny (model P w) A (.call (.ref f) args) (CR cx outer P w H s Q E) s
section
variable {P : Program} {w : World} {K : PySem.W.Frag} {mg : Str → Option Value} {base : Heap} {cx : CXT} {j k : Nat} {f : Addr} {fd : FuncData} {ps : List Str} {sp sp' : Sp}
theorem FnG.of (G : FnOk P w K mg base cx k f fd ps sp) : FnG P w K mg base cx k f fd ps sp := ⟨G.len, fun A o s H a us vs Q E _ => G.run A o s H a us vs Q E⟩
theorem FnG.mono (G : FnG P w K mg base cx j f fd ps sp) (h : j ≤ k) : FnG P w K mg base cx k f fd ps sp :=
  ⟨G.len, fun A o s H a us vs Q E g hr => G.run A o s H a us vs Q E g (hr.mono h)⟩
theorem FnG.imp (G : FnG P w K mg base cx k f fd ps sp) (h : ∀ vs H Q E, sp' vs H Q E → sp vs H Q E) : FnG P w K mg base cx k f fd ps sp' :=
  ⟨fun vs H Q E q => G.len vs H Q E (h _ _ _ _ q), fun A o s H a us vs Q E g hr e hb hv hs => G.run A o s H a us vs Q E g hr e hb hv (h _ _ _ _ hs)⟩
/-- a def by its body -/
theorem fnG_of {name qual : Str} {params : Arguments} {body : List Stmt} {scope : Scope} {dV kV doc pm cdv ct oc : Value} {an od : Option Addr} {osl : Array (Option Value)} {N : List Str}
    (lk : K.lookup f = some ⟨oc, od, .func (PySem.W.fnOf name qual params body scope dV kV doc pm an cdv ct), osl⟩) (hcd : PySem.W.codeIn K cdv qual = true) (S : FnScope N ps scope)
    (hlen : ∀ vs H Q E, sp vs H Q E → vs.length = ps.length)
    (hbody : ∀ (A : Around) (outer : List Env) (s : Shared) (H : Hp) (vs : List V) (Q : VK) (E : XK), A.guards = some [] → Room k (A.deeper (envOfC qual scope s.heap.objs.size f cdv)) → sp vs H Q E →
      ∃ t, PSs (cxOf cx P w K mg base N qual scope f cdv A outer s H E) body t ∧ t { nx := fun _ H' => Q .non H', rt := Q } (start N vs) H) :
    FnG P w K mg base cx (k + 1) f (PySem.W.fnOf name qual params body scope dV kV doc pm an cdv ct) ps sp := by
  refine ⟨hlen, fun A outer s H args us vs Q E hgd hr e0 hb r hsp => ?_⟩
  have up : ∀ b o, base.get? b = some o → s.heap.get? b = some o := fun b o z => (e0.bs b o z).1
  have kin : K.In s.heap := e0.mod.kin.keeps up
  have lim : s.heap.NoLimit := e0.mod.nolimit.keeps up
  have kinds : ∀ y ∈ ps.zip us, scope.names.lookup y.1 = some .local ∨ (scope.names.lookup y.1 = some .cell ∧ ((cellsFrom (s.heap.objs.size + 1) scope.names []).lookup y.1).isSome = true) := by
    intro y hy
    obtain ⟨n, v⟩ := y
    exact (S.par n (List.of_mem_zip hy).1).imp id fun q => ⟨q, PySem.W.cellsFrom_some _ _ _ (.inl q)⟩
  refine codeAny_call_function hr.depth (kin _ _ lk) rfl S.co S.gen rfl (PySem.W.codeRec_of kin hcd) (hb _ _ _ _ ?_)
  refine wpAny_newFunctionEnv_cells S.kind kinds fun env he s1 y => ?_
  subst he
  refine ⟨lim.keeps y.toInCall.keep, codeAny_func ?_⟩
  obtain ⟨t, ht, hq⟩ := hbody A outer s H vs Q E hgd (hr.deeper _) hsp
  have J : Inv (cxOf cx P w K mg base N qual scope f cdv A outer s H E) [] (start N vs) H s1 := inv_start S hr.hd e0 (hlen _ _ _ _ hsp) r y
  refine wpAny_mono (ht.run [] s1 (start N vs) H _ J hq) (fun fl s' hs => ?_) fun e s' hs => hs
  cases fl with
  | ret u =>
    obtain ⟨v, σ', H', J', rv, q⟩ := hs
    exact ⟨v, H', J'.os, J'.bare, J'.base, J'.hok, rv, q⟩
  | next =>
    obtain ⟨σ', H', J', q⟩ := hs
    exact ⟨V.non, H', J'.os, J'.bare, J'.base, J'.hok, rfl, q⟩
  | brk =>
    obtain ⟨_, _, _, q⟩ := hs
    exact q.elim
  | cont =>
    obtain ⟨_, _, _, q⟩ := hs
    exact q.elim
/-- the body's rule for a def that lets nothing out -/
theorem okG {x qual : Str} {st : Stmt} {N : List Str} (F : Fun K x qual st f fd) (S : FnScope N ps (defScope st)) (hlen : ∀ vs H Q E, sp vs H Q E → vs.length = ps.length)
    (hbody : ∀ (cdv : Value) (A : Around) (outer : List Env) (s : Shared) (H : Hp) (vs : List V) (Q : VK) (E : XK), A.guards = some [] → Room k (A.deeper (envOfC qual (defScope st) s.heap.objs.size f cdv)) → sp vs H Q E →
      ∃ t, PSs (cxOf CX0 P w K mg base N qual (defScope st) f cdv A outer s H E).nox (defBody st) t ∧ t { nx := fun _ H' => Q .non H', rt := Q } (start N vs) H) : FnG P w K mg base CX0 (k + 1) f fd ps sp := by
  obtain ⟨oc, od, kV, doc, pm, an, cdv, ct, osl, rfl, lk, hcd⟩ := F.ex
  refine fnG_of lk hcd S hlen fun A outer s H vs Q E hgd hr hsp => ?_
  obtain ⟨t, h, q⟩ := hbody cdv A outer s H vs Q E hgd hr hsp
  exact ⟨t, h.nox, q⟩
/-- .. for one that may raise -/
theorem okGX {x qual : Str} {st : Stmt} {N : List Str} (F : Fun K x qual st f fd) (S : FnScope N ps (defScope st)) (hlen : ∀ vs H Q E, sp vs H Q E → vs.length = ps.length)
    (hbody : ∀ (cdv : Value) (A : Around) (outer : List Env) (s : Shared) (H : Hp) (vs : List V) (Q : VK) (E : XK), A.guards = some [] → Room k (A.deeper (envOfC qual (defScope st) s.heap.objs.size f cdv)) → sp vs H Q E →
      ∃ t, PSs (cxOf (L2.CX P w) P w K mg base N qual (defScope st) f cdv A outer s H E) (defBody st) t ∧ t { nx := fun _ H' => Q .non H', rt := Q } (start N vs) H) : FnG P w K mg base (L2.CX P w) (k + 1) f fd ps sp := by
  obtain ⟨oc, od, kV, doc, pm, an, cdv, ct, osl, rfl, lk, hcd⟩ := F.ex
  exact fnG_of lk hcd S hlen fun A outer s H vs Q E hgd hr hsp => hbody cdv A outer s H vs Q E hgd hr hsp
end
section
variable {X : Cx} {cx : CXT} {k : Nat} {f : Addr} {fd : FuncData} {ps : List Str} {sp : Sp} {E : XK} {x : Str} {p pos : Pos} {e : Expr} {es : List Expr} {t : TA}
theorem run_fnG {pins : List (Addr × Obj)} {σ : L2.St} {H : Hp} {s : Shared} {Q : VK} {us : List Value} {vs : List V} (hgd : X.A.guards = some []) (G : FnG X.prog X.w X.K X.mg X.base cx k f fd ps sp) (hr : Room k X.A) (hb : Binds X.K fd ps [])
    (hx : Passes cx X E) (I : Inv X pins σ H s) (r : Vals vs us) (h : sp vs H Q E) : wpAny (model X.prog X.w) X.A (call (.ref f) us) (EP X pins σ Q) X.xe s := by
  have hl : us.length = ps.length := (Vals.length r).symm.trans (G.len _ _ _ _ h)
  have hb' := hb s us I.kIn (by rw [List.append_nil]; exact hl)
  rw [List.append_nil] at hb'
  refine wpAny_call (codeAny_mono (G.run X.A X.stack s H ⟨us, []⟩ us vs Q E hgd hr I.env0 hb' r h) fun r s' hq => ?_)
  cases r with
  | error e => exact hx pins σ H s e s' I hq
  | ok fl =>
    cases fl with
    | ret u => exact I.after hq
    | next => exact hq.elim
    | brk => exact hq.elim
    | cont => exact hq.elim
/-- f(e, ..) -/
def tCallG (sp : Sp) (E : XK) (t : TA) : TE := fun σ H Q => t σ H fun vs H1 => sp vs H1 Q E
theorem pe_callG (hgd : X.A.guards = some []) (G : FnG X.prog X.w X.K X.mg X.base cx k f fd ps sp) (hr : Room k X.A) (hg : Gl X x) (hm : X.mg x = some (.ref f)) (hk : PySem.W.keepIn X.K (.ref f) = true) (hb : Binds X.K fd ps [])
    (hx : Passes cx X E) (ha : PA X (e :: es) t) (hdb : (x == ("__debug__" : Str)) = false := by decide) (he : starEach (e :: es) X.env = (false, eval e X.env) :: starEach es X.env := by rfl)
    (hpl : (backTo pos (starEach es X.env)).any (·.1) = false := by rfl) : PE X (.Call (.Name x p) (e :: es) [] pos) (tCallG sp E t) := by
  refine ⟨fun pins s σ H Q I h => ?_⟩
  refine wpAny_Call_Name_kw (ld_glob I hg hm ?_ hdb)
  exact PySem.W.callWith_K (h₀ := X.base) I.ok.mod.kin hk (thn (ha.run pos pins s σ H _ I h) fun us s1 ⟨vs, H1, I1, r, q⟩ => ⟨I1.kIn, run_fnG hgd G hr hb hx I1 r q⟩) he hpl
end
end WT

set_option Elab.async false
set_option linter.all false
set_option maxRecDepth 100000
set_option maxHeartbeats 4000000
namespace WT
open PySem PySem.Spec PyProof.Rows L2
def kD : Key → PyData
  | .inl i => .int i
  | .inr x => .str x
mutual
/-- data over the abstract heap, dicts among it -/
inductive Dt (K : PySem.W.Frag) (H : Hp) : V → PyData → Prop
  | non : Dt K H .non .none
  | bl (b : Bool) : Dt K H (.bl b) (.bool b)
  | int (i : Int) : Dt K H (.int i) (.int i)
  | str (x : Str) : Dt K H (.str x) (.str x)
  | lst {a : Addr} {xs : List V} {ds : List PyData} : SqL K H a xs → DtAll K H xs ds → Dt K H (.ref a) (.list ds)
  | tup {a : Addr} {xs : List V} {ds : List PyData} : SqT K H a xs → DtAll K H xs ds → Dt K H (.ref a) (.tuple ds)
  | dic {a : Addr} {kvs : List (Key × V)} {ds : List PyData} : Rd H a (.dK kvs) → DtAll K H (kvs.map (·.2)) ds → Dt K H (.ref a) (.dict ((kvs.map fun p => kD p.1).zip ds))
inductive DtAll (K : PySem.W.Frag) (H : Hp) : List V → List PyData → Prop
  | nil : DtAll K H [] []
  | cons {v : V} {vs : List V} {d : PyData} {ds : List PyData} : Dt K H v d → DtAll K H vs ds → DtAll K H (v :: vs) (d :: ds)
end
theorem DtAll.length {K : PySem.W.Frag} {H : Hp} : ∀ {vs : List V} {ds : List PyData}, DtAll K H vs ds → vs.length = ds.length
  | _, _, .nil => rfl
  | _, _, .cons _ t => congrArg Nat.succ (DtAll.length t)
theorem sameT {K : PySem.W.Frag} {H H' : Hp} {a : Addr} {xs : List V} (e : Same H H') (h : SqT K H a xs) : SqT K H' a xs := by
  rcases h with (h | ⟨o, h⟩) | h
  · exact .inl (.inl (e _ _ h))
  · exact .inl (.inr ⟨o, e _ _ h⟩)
  · exact .inr h
theorem sameR {H H' : Hp} {a : Addr} {u : HO} (e : Same H H') (h : Rd H a u) : Rd H' a u := by
  rcases h with h | ⟨o, h⟩
  · exact .inl (e _ _ h)
  · exact .inr ⟨o, e _ _ h⟩
mutual
theorem Dt.same {K : PySem.W.Frag} {H H' : Hp} (s : Same H H') : ∀ {v : V} {d : PyData}, Dt K H v d → Dt K H' v d
  | _, _, .non => .non
  | _, _, .bl b => .bl b
  | _, _, .int i => .int i
  | _, _, .str x => .str x
  | _, _, .lst h t => .lst (s.seq h) (DtAll.same s t)
  | _, _, .tup h t => .tup (sameT s h) (DtAll.same s t)
  | _, _, .dic h t => .dic (sameR s h) (DtAll.same s t)
theorem DtAll.same {K : PySem.W.Frag} {H H' : Hp} (s : Same H H') : ∀ {vs : List V} {ds : List PyData}, DtAll K H vs ds → DtAll K H' vs ds
  | _, _, .nil => .nil
  | _, _, .cons h t => .cons (Dt.same s h) (DtAll.same s t)
end
section
variable {X : Cx} {pins : List (Addr × Obj)} {σ : L2.St} {H : Hp} {s : Shared}
theorem pairs_sh {P : Program} {w : World} {h : Heap} : ∀ {es : List DictEntry} {kvs : List (Key × V)} {us : List (Key × Value)}, KV kvs us → Pairs (mixKind P w) es us → ShAll h (es.map (·.key)) (kvs.map fun p => kD p.1)
  | _, _, _, .nil, .nil => .nil
  | _, _, _, .cons r rs, .cons h1 _ hs => by
    refine .cons ?_ (pairs_sh rs hs)
    rcases keyIs_shape h1 with ⟨i, t, e1, e2⟩ | ⟨x, t, e1, e2⟩
    · dsimp only
      rw [e2, r.1, e1]
      exact .int i t
    · dsimp only
      rw [e2, r.1, e1]
      exact .str x t
theorem pairs_vals {P : Program} {w : World} : ∀ {es : List DictEntry} {kvs : List (Key × V)} {us : List (Key × Value)}, KV kvs us → Pairs (mixKind P w) es us → Vals (kvs.map (·.2)) (es.map (·.val))
  | _, _, _, .nil, .nil => .nil
  | _, _, _, .cons r rs, .cons _ h2 hs => .cons (by dsimp only; rw [h2]; exact r.2) (pairs_vals rs hs)
mutual
theorem Dt.sh (I : Inv X pins σ H s) : ∀ {v : V} {d : PyData} {u : Value}, Dt X.K H v d → RelV v u → Sh s.heap u d
  | _, _, _, .non, r => by
    cases r
    exact .none
  | _, _, _, .bl b, r => by
    cases r
    exact .bool b
  | _, _, _, .int i, r => by
    obtain ⟨t, rfl⟩ := r
    exact .int i t
  | _, _, _, .str x, r => by
    obtain ⟨t, rfl⟩ := r
    exact .str x t
  | _, _, _, .lst h t, r => by
    cases r
    obtain ⟨its, rv, ⟨o, n, ho, hc, _, hd⟩, _⟩ := I.list h
    exact .list ho hc hd (DtAll.sh I t rv)
  | _, _, _, .tup h t, r => by
    cases r
    obtain ⟨its, rv, ⟨o, ho, hc, n, hd⟩, _⟩ := I.tuple h
    exact .tuple ho hc hd (DtAll.sh I t rv)
  | _, _, _, .dic (kvs := kvs) (ds := ds) h t, r => by
    cases r
    obtain ⟨_, hsys, us, rel, o, es, ep, ho, hx, hd, _, hp, _⟩ := dk_rd I.hok h
    refine .dict ho hx.1 hd hsys ?_ (pairs_sh rel hp) (DtAll.sh I t (pairs_vals rel hp))
    rw [List.length_map, ← DtAll.length t, List.length_map]
theorem DtAll.sh (I : Inv X pins σ H s) : ∀ {vs : List V} {ds : List PyData} {us : List Value}, DtAll X.K H vs ds → Vals vs us → ShAll s.heap us ds
  | _, _, _, .nil, r => by
    cases r
    exact .nil
  | _, _, _, .cons h t, .cons r rs => .cons (Dt.sh I h r) (DtAll.sh I t rs)
end
/-- repr(x) -/
def rRepr (K : PySem.W.Frag) : List V → Hp → VK → Prop := fun xs H Q => ∃ (x : V) (d : PyData), xs = [x] ∧ Dt K H x d ∧ d.showable = true ∧ d.depth ≤ 60 ∧ d.shown.length ≤ sizeLine ∧ Q (.str d.shown) H
theorem call_repr (hgd : X.A.guards = some []) (hu : X.A.units + 64 < cLine) : CallR X (.builtin "repr") (rRepr X.K) := by
  intro pins s σ H xs us Q I r h
  obtain ⟨x, d, rfl, hd, hs, hde, hz, q⟩ := h
  obtain ⟨u, rfl, ru⟩ := vals1 r
  refine Sh.repr (hd.sh I ru) hs hz hgd (by omega) fun h' t tk kp => ?_
  exact ⟨.str d.shown, H, I.kept (t' := tk) kp, ⟨t, rfl⟩, q⟩
end
end WT

set_option Elab.async false
set_option linter.all false
set_option maxRecDepth 100000
set_option maxHeartbeats 4000000
namespace WT
open PySem PySem.Spec PyProof.Rows L2
section
variable {X : Cx}
/-- a power of any size that fits -/
def CPowW (i j : Int) : Prop := 0 ≤ j ∧ (Builtin.Int.intBits i : Int) * j ≤ 2 ^ 27
theorem op_powW : OpR X (binaryOp .Pow) (rI CPowW fun i j => .int (i ^ j.toNat)) := opI fun _ _ _ _ _ _ _ hc q => pow_int hc.1 hc.2 q
theorem big_pow : CPowW ((10 : Int) ^ (60 : Int).toNat) 5 := ⟨by decide, by decide +kernel⟩
end
end WT

set_option Elab.async false
set_option linter.all false
set_option maxRecDepth 100000
set_option maxHeartbeats 4000000
/-! Errors of the program held as values: made (by place, by name), asked for their class, their fields read. -/
namespace WT
open PySem PySem.W PySem.Calls PyProof.Rows PySem.HandSPX
section
variable {prog : Program} {w : World} {A : Around} {E : Value → Shared → Prop} {R : Result → Shared → Prop} {hp : Heap} {gs : Array GenState} {dr : Drawn} {tn : Nat} {os : OsState}
variable {nm q : Str} {C N : Addr} {bs bm : List Value} {hdct : Bool} {sn : List Str} {sub : List Value} {ab : Bool} {col : Option Bool} {dd : Option Addr} {k0 k1 k2 k3 k5 : Option Value}
abbrev VEo (nm q : Str) (C N : Addr) (bs bm : List Value) (hdct : Bool) (sn : List Str) (sub : List Value) (ab : Bool) (col : Option Bool) (dd : Option Addr) (k0 k1 k2 k3 k5 : Option Value) : Obj :=
  excClassObj nm q C N bs bm hdct sn sub ab col dd k0 k1 k2 k3 k5 "ValueError.__new__"
theorem vt_has (hb : refsVE bm = true) (T : String) : (Value.ref C :: bm).contains (.type T) = veTail.contains (.type T) := by
  rw [List.contains_cons, refsVE_contains T bm hb]
  rfl
theorem ck_newK (hb : refsVE bm = true) {us : List Value} {kw : List (Str × Value)} {Q : Unit → Shared → Prop} (hC : hp.get? C = some (VEo nm q C N bs bm hdct sn sub ab col dd k0 k1 k2 k3 k5)) (hq : Q () ⟨hp, gs, dr, tn, os⟩) :
    wpAny (model prog w) A (checkBuiltinCall "ValueError.__new__" ⟨.ref C :: us, kw⟩) Q E ⟨hp, gs, dr, tn, os⟩ := by
  have F := F.excBase_ValueError
  have c1 : (Value.ref C :: bm).contains (.type "ValueError") = true := (vt_has hb _).trans (by decide +kernel)
  have c2 := F.noStar
  simp only [checkBuiltinCall, F.newKind, F.newSplit, F.newRow]
  repeat (first
    | refine wpAny_loadPart_at hC ?_
    | (refine wpAny_isSubtype_exc hC ?_; rw [c1])
    | refine wpAny_staticBase_exc hC ?_
    | refine wpAny_madeBy_exc hC ?_
    | simp only [bne_self_eq_false, Bool.false_eq_true, if_false]
    | wp_step)
  exact hq
theorem newK (hb : refsVE bm = true) {us : List Value} {kw : List (Str × Value)} (hC : hp.get? C = some (VEo nm q C N bs bm hdct sn sub ab col dd k0 k1 k2 k3 k5)) (hus : us.length ≤ sizeLine)
    (hq : R (.ok (.ret (.ref (hp.objs.size + 1)))) ⟨(hp.push (kdv_tup us)).push (excO C hp.objs.size), gs, dr, tn, os⟩) :
    codeAny (model prog w) A (.builtin "ValueError.__new__" ⟨.ref C :: us, kw⟩) R ⟨hp, gs, dr, tn, os⟩ := by
  have F := F.excBase_ValueError
  have c0 := F.ends
  have c1 : (Value.ref C :: bm).contains (.type "ValueError") = true := (vt_has hb _).trans (by decide +kernel)
  have c2 : (Value.ref C :: bm).contains (.type "AttributeError") = false := (vt_has hb _).trans (by decide +kernel)
  have c3 : (Value.ref C :: bm).contains (.type "NameError") = false := (vt_has hb _).trans (by decide +kernel)
  refine codeAny_builtinAt F.entry ?_
  unfold Builtin.«BaseException.__new__»
  refine PySem.wpAt_bind ?_
  show PySem.wpAt _ _ _ (stack >>= _) _ _ _
  refine PySem.wpAt_bind (PySem.wpAt_stack fun pp bl => PySem.wpAt_of_wpAny ?_)
  wp_walk
  refine PySem.wpAt_of_wpAny ?_
  rw [F.owner]
  repeat (first
    | with_reducible refine wpAny_madeHere_exc F.canon hC ?_
    | with_reducible refine wpAny_loadPart_at hC ?_
    | (with_reducible refine wpAny_isSubtype_exc hC ?_; first | rw [c1] | rw [c2] | rw [c3])
    | wp_step)
  show R _ _
  rw [Heap.size_push]
  exact hq
theorem tcallK (hb : refsVE bm = true) {us : List Value} {kw : List (Str × Value)} {fI : Addr} {Q : PySem.Fin → Shared → Prop} (hC : hp.get? C = some (VEo nm q C N bs bm hdct sn sub ab col dd k0 k1 k2 k3 k5))
    (hi : Looks (model prog w) hp (typeLookup (.ref C) "__init__") (some (.ref fI))) (hbd : ∀ z, Looks (model prog w) hp (bindSpecial (.ref fI) z) (.ref fI, [z])) (hus : us.length ≤ sizeLine)
    (hq : codeAny (model prog w) A (.call (.ref fI) ⟨.ref (hp.objs.size + 1) :: us, kw⟩)
      (fun r s' => match r with | .ok (.ret v) => v = .none ∧ Q (.done (.ret (.ref (hp.objs.size + 1)))) s' | .ok _ => False | .error e => E e s')
      ⟨(hp.push (kdv_tup us)).push (excO C hp.objs.size), gs, dr, tn, os⟩) :
    wpAny (model prog w) A (Builtin.«type.__call__» ⟨.ref C :: us, kw⟩) Q E ⟨hp, gs, dr, tn, os⟩ := by
  have F := F.excBase_ValueError
  repeat (first
    | with_reducible refine wpAny_loadPart_at hC ?_
    | with_reducible refine wpAny_madeBy_exc hC ?_
    | wp_step)
  refine codeAny_call_builtin_code (Code.quiet_builtin _ F.quiet) (ck_newK hb hC ?_)
  refine newK hb hC hus ?_
  show wpAny _ _ _ _ _ _
  have kp : ∀ b o, hp.get? b = some o → ((hp.push (kdv_tup us)).push (excO C hp.objs.size)).get? b = some o :=
    fun b o z => Heap.get?_push_of_some _ (Heap.get?_push_of_some _ z)
  have hC1 := kp _ _ hC
  have hg : ((hp.push (kdv_tup us)).push (excO C hp.objs.size)).get? (hp.objs.size + 1) = some (excO C hp.objs.size) := by
    heap_get
  have cC : (Value.ref C :: bm).contains (.ref C) = true := by simp
  have i1 := hi.keeps kp
  have b1 := (hbd (.ref (hp.objs.size + 1))).keeps kp
  unfold isInstance
  repeat (first
    | with_reducible refine wpAny_loadPart_at hg ?_
    | (with_reducible refine wpAny_isSubtype_exc hC1 ?_; rw [cC])
    | wp_step)
  show wpAny _ _ (typeLookup (.ref C) _) _ _ _
  refine i1.at (wpAny_holding (wpAny_bind (b1.at ?_)))
  refine wpAny_bind (wpAny_call (codeAny_mono hq fun r s' z => ?_))
  rcases r with e | (v | _ | _ | _) <;> first | exact z | exact z.elim | skip
  obtain ⟨rfl, z⟩ := z
  first
    | exact wpAny_pure (wpAny_pure z)
    | (wp_walk; exact z)
theorem ck_callK {us : List Value} {kw : List (Str × Value)} {Q : Unit → Shared → Prop} (hC : hp.get? C = some (VEo nm q C N bs bm hdct sn sub ab col dd k0 k1 k2 k3 k5)) (hq : Q () ⟨hp, gs, dr, tn, os⟩) :
    wpAny (model prog w) A (checkBuiltinCall "type.__call__" ⟨.ref C :: us, kw⟩) Q E ⟨hp, gs, dr, tn, os⟩ := by
  have f3 := tc_sub
  have ht : (⟨hp, gs, dr, tn, os⟩ : Shared).TypeIs (.ref C) "type" := ⟨_, hC, rfl⟩
  simp only [checkBuiltinCall, tc_kind, tc_split]
  repeat (any_goals (first
    | assumption
    | with_reducible refine wpAny_loadPart_at hC ?_
    | with_reducible refine wpAny_onRaise ?_
    | with_reducible refine wpAny_map ?_
    | wp_step))
theorem ownK (hb : refsVE bm = true) {us : List Value} {kw : List (Str × Value)} {fI : Addr} (hC : hp.get? C = some (VEo nm q C N bs bm hdct sn sub ab col dd k0 k1 k2 k3 k5))
    (hi : Looks (model prog w) hp (typeLookup (.ref C) "__init__") (some (.ref fI))) (hbd : ∀ z, Looks (model prog w) hp (bindSpecial (.ref fI) z) (.ref fI, [z])) (hus : us.length ≤ sizeLine)
    (hq : codeAny (model prog w) (A.under (.builtin "type.__call__" ⟨.ref C :: us, kw⟩)) (.call (.ref fI) ⟨.ref (hp.objs.size + 1) :: us, kw⟩) (InitBack (hp.objs.size + 1) R)
      ⟨(hp.push (kdv_tup us)).push (excO C hp.objs.size), gs, dr, tn, os⟩) :
    codeAny (model prog w) A (.call (.ref C) ⟨us, kw⟩) R ⟨hp, gs, dr, tn, os⟩ := by
  have f1 := tc_lookup
  have f2 := tc_bind (.ref C)
  have ht : (⟨hp, gs, dr, tn, os⟩ : Shared).TypeIs (.ref C) "type" := ⟨_, hC, rfl⟩
  refine codeAny_of_tree ?_
  show wpAny _ _ (callAny (.ref C) _) _ _ _
  repeat (any_goals (first
    | assumption
    | with_reducible refine wpAny_loadPart_at hC ?_
    | wp_step))
  refine ⟨rfl, ?_⟩
  refine codeAny_call_builtin_at (Code.quiet_builtin _ (by decide +kernel)) entry_typeCall (ck_callK hC ?_)
  refine tcallK hb hC hi hbd hus (codeAny_mono hq fun r s' z => ?_)
  rcases r with e | (v | _ | _ | _) <;> exact z
end
end WT

set_option Elab.async false
set_option linter.all false
set_option maxRecDepth 100000
set_option maxHeartbeats 4000000
namespace WT
open PySem PySem.Spec PyProof.Rows L2
/-- an error of the class at C stands at a; its fields -/
def Err (H : Hp) (a C : Addr) (fs : List (Str × V)) : Prop := (fs = [] ∧ H a = some (exo a C none)) ∨ ∃ d, H a = some (exo a C (some d)) ∧ H d = some (exd d fs)
theorem Err.same {H H' : Hp} {a C : Addr} {fs : List (Str × V)} (e : Err H a C fs) (s : Same H H') : Err H' a C fs := by
  rcases e with ⟨z, e⟩ | ⟨d, e1, e2⟩
  · exact .inl ⟨z, s _ _ e⟩
  · exact .inr ⟨d, s _ _ e1, s _ _ e2⟩
theorem same_new {H : Hp} {p : Addr} {o : HO} (h : H p = none) : Same H (upd H p o) := fun b x e => by
  rw [upd_ne (ne_of_none e h)]
  exact e
section
variable {X : Cx}
theorem run_err {CX : CXT} {C fI : Addr} {k : Nat} {fd : FuncData} {ps : List Str} {sp : Sp} {pins : List (Addr × Obj)} {σ : L2.St} {H : Hp} {s : Shared} {Q : VK} {us gus : List Value} {kw : List (Str × Value)} {vs : List V}
    (T : OexC X.K C) (iC : PySem.W.findIn X.K (.ref C) "__init__" = some (some (.ref fI))) (tI : PySem.W.typeIn X.K (.ref fI) = some (.type "function")) (G : FnOk X.prog X.w X.K X.mg X.base CX k fI fd ps sp) (hr : Room (k + 1) X.A)
    (hx : Passes CX X (fun _ _ _ => False)) (I : Inv X pins σ H s) (hus : us.length ≤ sizeLine) (hb : ∀ (s1 : Shared) (z : Value), X.K.In s1.heap → BindsTo s1 fd ⟨z :: us, kw⟩ (ps.zip (z :: gus))) (r : Vals vs gus)
    (h : ∀ a, H a = none → sp (.ref a :: vs) (upd H a (exo a C none)) (fun v H2 => v = .non ∧ Q (.ref a) H2) (fun _ _ _ => False)) :
    wpAny (model X.prog X.w) X.A (call (.ref C) us kw) (EP X pins σ Q) X.xe s := by
  obtain ⟨nm, q, N, bs, bm, sn, sub, ab, col, dd, k0, k1, k2, k3, k5, hC, hbm⟩ := T.cls
  obtain ⟨hp, g, dr, tk, os⟩ := s
  have z1 : hp.objs.size ≤ hp.objs.size + 1 := Nat.le_succ _
  have z2 := h (hp.objs.size + 1) (I.hok.fresh z1)
  have kp : ∀ b o, hp.get? b = some o → ((hp.push (PySem.W.kdv_tup us)).push (PySem.HandSPX.excO C hp.objs.size)).get? b = some o :=
    fun b o z => Heap.get?_push_of_some _ (Heap.get?_push_of_some _ z)
  have hg : ((hp.push (PySem.W.kdv_tup us)).push (PySem.HandSPX.excO C hp.objs.size)).get? (hp.objs.size + 1) = some (PySem.HandSPX.excO C hp.objs.size) := by
    heap_get
  have I2 : Inv X pins σ (upd H (hp.objs.size + 1) (exo (hp.objs.size + 1) C none)) ⟨(hp.push (PySem.W.kdv_tup us)).push (PySem.HandSPX.excO C hp.objs.size), g, dr, tk, os⟩ :=
    I.laid (t' := tk) (a := hp.objs.size + 1) (o := exo (hp.objs.size + 1) C none) kp z1 (exo_ok hg)
  have r2 : Vals (V.ref (hp.objs.size + 1) :: vs) (Value.ref (hp.objs.size + 1) :: gus) := .cons rfl r
  refine wpAny_call (ownK hbm (I.kIn _ _ hC) (PySem.W.looks_findIn I.kIn iC) (fun z => PySem.W.bind_fn I.kIn z tI) hus
    (codeAny_mono (G.run _ X.stack _ _ ⟨Value.ref (hp.objs.size + 1) :: us, kw⟩ (Value.ref (hp.objs.size + 1) :: gus) _ _ (fun _ _ _ => False) (hr.make C us kw) (I2.env0.make C us kw) (hb _ _ I2.kIn) r2 z2) fun r s' hq' => ?_))
  cases r with
  | error er => exact hx pins σ _ _ er s' I2 hq'
  | ok fl =>
    cases fl with
    | ret u =>
      obtain ⟨v, H', I3, rv, ev, q3⟩ := I2.after hq'
      subst ev
      exact ⟨rv, ⟨V.ref (hp.objs.size + 1), H', I3, rfl, q3⟩⟩
    | next => exact False.elim hq'
    | brk => exact False.elim hq'
    | cont => exact False.elim hq'
/-- C(e, ..): a new error, by its own __init__, which keeps sp -/
def tErr (C : Addr) (sp : Sp) (ta : TA) : TE := fun σ H Q => ta σ H fun vs H1 => vs.length ≤ 1000 ∧ ∀ a, H1 a = none → sp (.ref a :: vs) (upd H1 a (exo a C none)) (fun v H2 => v = .non ∧ Q (.ref a) H2) (fun _ _ _ => False)
theorem pe_err {CX : CXT} {x : Str} {C fI : Addr} {k : Nat} {fd : FuncData} {ps : List Str} {sp : Sp} {e : Expr} {es : List Expr} {ta : TA} {p pos : Pos} (T : OexC X.K C) (iC : PySem.W.findIn X.K (.ref C) "__init__" = some (some (.ref fI)))
    (tI : PySem.W.typeIn X.K (.ref fI) = some (.type "function")) (G : FnOk X.prog X.w X.K X.mg X.base CX k fI fd ps sp) (hr : Room (k + 1) X.A) (hb : Binds X.K fd ps []) (hx : Passes CX X (fun _ _ _ => False)) (hg : Gl X x)
    (hm : X.mg x = some (.ref C)) (ha : PA X (e :: es) ta) (hdb : (x == ("__debug__" : Str)) = false := by decide) (he : starEach (e :: es) X.env = (false, eval e X.env) :: starEach es X.env := by rfl)
    (hpl : (backTo pos (starEach es X.env)).any (·.1) = false := by rfl) : PE X (.Call (.Name x p) (e :: es) [] pos) (tErr C sp ta) := by
  refine ⟨fun pins s σ H Q I h => ?_⟩
  refine wpAny_Call_Name_kw (ld_glob I hg hm ?_ hdb)
  refine PySem.W.callWith_K (h₀ := X.base) I.ok.mod.kin T.kC (thn (ha.run pos pins s σ H _ I h) fun us s1 ⟨vs, H1, I1, r1, hz, q1⟩ => ⟨I1.kIn, ?_⟩) he hpl
  have hn : H1 (s1.heap.objs.size) = none := I1.hok.fresh (Nat.le_refl _)
  have hl : (V.ref s1.heap.objs.size :: vs).length = ps.length := G.len _ _ _ _ (q1 _ hn)
  refine run_err (us := us) (gus := us) (kw := []) T iC tI G hr hx I1 ?_ (fun s2 z X2 => ?_) r1 q1
  · rw [← Vals.length r1, sizeLine_eq]
    omega
  · have y := hb s2 (z :: us) X2 (by
      rw [List.append_nil, List.length_cons, ← Vals.length r1]
      exact hl)
    rw [List.append_nil] at y
    exact y
/-- C(k = v, ..) by names alone -/
def tErrK (C : Addr) (sp : Sp) (gV : List V → List V) (n : Nat) (tk : TA) : TE := fun σ H Q => tk σ H fun zs H1 => zs.length = n ∧ ∀ a, H1 a = none → sp (.ref a :: gV zs) (upd H1 a (exo a C none)) (fun v H2 => v = .non ∧ Q (.ref a) H2) (fun _ _ _ => False)
theorem pe_errK {CX : CXT} {x : Str} {C fI : Addr} {k n : Nat} {fd : FuncData} {ps ks : List Str} {sp : Sp} {kws : List Keyword} {tk : TA} {p pos : Pos} {gU : List Value → List Value} {gV : List V → List V} (T : OexC X.K C)
    (iC : PySem.W.findIn X.K (.ref C) "__init__" = some (some (.ref fI))) (tI : PySem.W.typeIn X.K (.ref fI) = some (.type "function")) (G : FnOk X.prog X.w X.K X.mg X.base CX k fI fd ps sp) (hr : Room (k + 1) X.A)
    (hb : ∀ (s1 : Shared) (z : Value) (ws : List Value), X.K.In s1.heap → ws.length = n → BindsTo s1 fd ⟨[z], ks.zip ws⟩ (ps.zip (z :: gU ws))) (hgr : ∀ {zs : List V} {ws : List Value}, Vals zs ws → zs.length = n → Vals (gV zs) (gU ws))
    (hx : Passes CX X (fun _ _ _ => False)) (hg : Gl X x) (hm : X.mg x = some (.ref C)) (hkw : PK X kws tk) (hall : (backToKw pos (keywordEach kws X.env)).all (·.1.isSome) = true := by rfl)
    (hks : (backToKw pos (keywordEach kws X.env)).filterMap (·.1) = ks := by rfl) (hdb : (x == ("__debug__" : Str)) = false := by decide)
    (hpl : ((backTo pos (starEach [] X.env)).any (·.1) || (backToKw pos (keywordEach kws X.env)).any (·.1.isNone)) = false := by rfl) : PE X (.Call (.Name x p) [] kws pos) (tErrK C sp gV n tk) := by
  refine ⟨fun pins s σ H Q I h => ?_⟩
  refine wpAny_Call_Name_kw (ld_glob I hg hm ?_ hdb)
  refine PySem.W.callWith_KW0 (h₀ := X.base) I.ok.mod.kin T.kC hall (thn (hkw.run pos pins s σ H _ I h) fun ws s1 ⟨zs, H1, I1, rz, hl, q1⟩ => ⟨I1.kIn, ?_⟩) hpl
  rw [hks]
  exact run_err (us := []) (gus := gU ws) (kw := ks.zip ws) T iC tI G hr hx I1 (Nat.zero_le _) (fun s2 z X2 => hb s2 z ws X2 ((Vals.length rz).symm.trans hl)) (hgr rz hl) q1
/-- what an own class without own __init__ says -/
def ErrBare (K : PySem.W.Frag) (C : Addr) : Prop := PySem.W.excIn K C PySem.HandSPX.veTail "ValueError.__new__" = true ∧ PySem.W.keepIn K (.ref C) = true
/-- C() without an __init__ of its own -/
def tErr0 (C : Addr) : TE := fun σ H Q => ∀ a, H a = none → Q (.ref a) (upd H a (exo a C none))
theorem pe_err0 {x : Str} {C : Addr} {p pos : Pos} (T : ErrBare X.K C) (hg : Gl X x) (hm : X.mg x = some (.ref C)) (hdb : (x == ("__debug__" : Str)) = false := by decide) : PE X (.Call (.Name x p) [] [] pos) (tErr0 C) := by
  refine ⟨fun pins s σ H Q I h => ?_⟩
  refine wpAny_Call_Name_kw (ld_glob I hg hm ?_ hdb)
  refine PySem.W.callWith_K0 I.kIn T.2 ?_
  obtain ⟨bm, N, nm, qn, bs, hdct, sn, sub, ab, col, dd, k0, k1, k2, k3, k5, mN, hC, hN, hni, TT⟩ := exc_obj I.kIn T.1
  obtain ⟨hp, g, dr, tk, os⟩ := s
  refine wpAny_call_exc_subT F.excBase_ValueError TT hC hN hni (fun h' a hm => ?_) (Nat.zero_le _)
  obtain ⟨t, ht, _, _⟩ := hm.there
  have hn : H a = none := I.hok.gone hm.new
  exact ⟨.ref a, upd H a (exo a C none), I.laidN hm.keeps hm.new hn (exo_ok ht), rfl, h a hn⟩
/-- the object of an error -/
theorem Err.at {pins : List (Addr × Obj)} {σ : L2.St} {H : Hp} {s : Shared} {a C : Addr} {fs : List (Str × V)} (e : Err H a C fs) (I : Inv X pins σ H s) :
    ∃ (ox : Obj) (od : Option Obj), PySem.W.InstAt s.heap a ox C od ∧ (fs ≠ [] → ∃ o, od = some o ∧ ∀ n : Str, ∃ u, PySem.W.lookIn n o = some u ∧ RelO (fs.lookup n) u) := by
  rcases e with ⟨z, e⟩ | ⟨d, e1, e2⟩
  · obtain ⟨t1, ho⟩ := exo_at I.hok e
    exact ⟨_, none, ⟨ho, rfl, rfl, trivial⟩, fun y => absurd z y⟩
  · obtain ⟨t1, ho⟩ := exo_at I.hok e1
    obtain ⟨mA, hns, rel⟩ := exd_at I.hok e2
    obtain ⟨od, hod, hl⟩ := lookIn_ns hns
    exact ⟨_, some od, ⟨ho, rfl, rfl, hod⟩, fun _ => ⟨od, rfl, fun n => ⟨mA n, hl n, rel n⟩⟩⟩
/-- isinstance(e, c), e an error held as a value -/
def rIsErr (K : PySem.W.Frag) : List V → Hp → VK → Prop := fun xs H Q => ∃ (a C : Addr) (fs : List (Str × V)) (c : V) (cv : Value) (b : Bool), xs = [.ref a, c] ∧ Err H a C fs ∧ ExcC K C ∧ (∀ u, RelV c u → u = cv) ∧ PySem.W.kitOne K (.ref C) cv = some b ∧ Q (.bl b) H
theorem call_isErr : CallR X (.builtin "isinstance") (rIsErr X.K) := by
  intro pins s σ H xs us Q I r h
  obtain ⟨a, C, fs, c, cv, b, rfl, e, T, hc, hk, q⟩ := h
  obtain ⟨u, u', rfl, rx, rt⟩ := vals2 r
  obtain rfl : u = Value.ref a := rx
  obtain rfl := hc _ rt
  obtain ⟨ox, od, J, _⟩ := e.at I
  have hcl : (PySem.W.clsIn X.K C).isSome = true := by
    obtain ⟨cd, h1, _⟩ := PySem.W.any_some T.hd
    rw [h1]
    rfl
  exact PySem.W.kia_one (PySem.W.kitx_exc (ox := ox) (od := od) hcl T.hg T.hk T.hs T.ha T.hn T.ht T.hm) I.kIn J hk (fun z => nomatch z) fun tk => ⟨.bl b, H, I.kept (t' := tk) fun _ _ z => z, rfl, q⟩
/-- e.f, e an error held as a value -/
def tErrF (K : PySem.W.Frag) (n : Str) (te : TE) : TE := fun σ H Q => te σ H fun x H1 => ∃ (a C : Addr) (fs : List (Str × V)) (v : V), x = .ref a ∧ Err H1 a C fs ∧ ExcC K C ∧ PySem.W.findIn K (.ref C) n = some none ∧ fs.lookup n = some v ∧ Q v H1
theorem pe_errF {e : Expr} {te : TE} {pos : Pos} {n : Str} (he : PE X e te) (hb : attributeBase e n X.env (eval e X.env) = eval e X.env := by rfl) : PE X (.Attribute e n pos) (tErrF X.K n te) := by
  refine ⟨fun pins s σ H Q I h => ?_⟩
  refine attr_of hb (thn (he.run pins s σ H _ I h) fun u s1 hh => ?_)
  obtain ⟨x, H1, I1, rx, a, C, fs, v, rfl, e1, T, hno, hl, q⟩ := hh
  obtain rfl : u = Value.ref a := rx
  obtain ⟨ox, od, J, k⟩ := e1.at I1
  obtain ⟨o, rfl, k2⟩ := k (fun z => by rw [z] at hl; cases hl)
  obtain ⟨u, hu, ru⟩ := k2 n
  rw [hl] at ru
  cases u with
  | none => exact ru.elim
  | some u =>
    exact HandSPX.exc_get I1.kIn J T.hg T.hk T.hs (PySem.W.findObj_own T.hd hno rfl hu) (handed_of ru) ⟨v, H1, I1.tok _, ru, q⟩
end
end WT

set_option Elab.async false
set_option linter.all false
set_option maxRecDepth 100000
set_option maxHeartbeats 4000000
namespace WT
open PySem PySem.Spec PyProof.Rows L2
/-- a def that is called: where it stands, how its arguments bind, its promise -/
structure Df (P : Program) (w : World) (K : PySem.W.Frag) (mg : Str → Option Value) (base : Heap) (x : Str) (k : Nat) (f : Addr) (fd : FuncData) (ps : List Str) (sp : Sp) : Prop where
  g : mg x = some (.ref f)
  kp : PySem.W.keepIn K (.ref f) = true
  bd : Binds K fd ps []
  G : FnG P w K mg base CX0 k f fd ps sp
/-- all that was tracked but a is as it was -/
def But (a : Addr) (H H' : Hp) : Prop := ∀ b x, b ≠ a → H b = some x → H' b = some x
theorem But.refl (a : Addr) (H : Hp) : But a H H := fun _ _ _ h => h
theorem But.trans {a : Addr} {H H1 H2 : Hp} (x : But a H H1) (y : But a H1 H2) : But a H H2 := fun b o n h => y b o n (x b o n h)
theorem But.of {a : Addr} {H H1 : Hp} (x : Same H H1) : But a H H1 := fun b o _ h => x b o h
theorem But.upd {a : Addr} {H : Hp} {o : HO} : But a H (upd H a o) := fun b x n h => by
  rw [upd_ne n]
  exact h
/-- the numbers that a law draws from; at most b of them mixed so far -/
def Pot (b : Nat) (p0 p1 p2 : Int) : Prop := 0 ≤ p0 ∧ 0 ≤ p1 ∧ p1 < 2305843009213693952 ∧ 0 ≤ p2 ∧ p2 ≤ b
theorem Pot.more {b c : Nat} {p0 p1 p2 : Int} (h : Pot b p0 p1 p2) (hc : b ≤ c) : Pot c p0 p1 p2 := by
  unfold Pot at h ⊢
  omega
/-- the pot stands at a -/
def PotAt (H : Hp) (a : Addr) (b : Nat) : Prop := ∃ p0 p1 p2 : Int, H a = some (.lst [.int p0, .int p1, .int p2]) ∧ Pot b p0 p1 p2
theorem PotAt.same {H H' : Hp} {a : Addr} {b : Nat} (h : PotAt H a b) (s : Same H H') : PotAt H' a b := by
  obtain ⟨p0, p1, p2, h1, h2⟩ := h
  exact ⟨p0, p1, p2, s _ _ h1, h2⟩
theorem PotAt.more {H : Hp} {a : Addr} {b c : Nat} (h : PotAt H a b) (hc : b ≤ c) : PotAt H a c := by
  obtain ⟨p0, p1, p2, h1, h2⟩ := h
  exact ⟨p0, p1, p2, h1, h2.more hc⟩
/-- the pot is no tuple, no list of other things -/
theorem PotAt.ne_tup {H : Hp} {a c : Addr} {b : Nat} {xs : List V} (h : PotAt H a b) (e : H c = some (.tup xs)) : c ≠ a := by
  obtain ⟨p0, p1, p2, h1, _⟩ := h
  exact ne_of e h1 (by intro z; cases z)
theorem PotAt.ne_new {H : Hp} {a c : Addr} {b : Nat} (h : PotAt H a b) (e : H c = none) : a ≠ c := by
  obtain ⟨p0, p1, p2, h1, _⟩ := h
  exact ne_of_none h1 e
theorem bit_mul (b : Bool) : -(2 ^ 64) < (if b = true then (1 : Int) else 0) ∧ (if b = true then (1 : Int) else 0) < 2 ^ 64 := by
  cases b <;> decide
theorem bit_nn (b : Bool) : (0 : Int) ≤ (if b = true then (1 : Int) else 0) := by
  cases b <;> decide
section
variable {X : Cx}
/-- list(s), sign by sign -/
def signsV (z : Str) : List V := z.cps.toList.map fun c => V.str ⟨#[c]⟩
def rListS : List V → Hp → VK → Prop := fun xs H Q => ∃ z : Str, xs = [.str z] ∧ z.length ≤ sizeLine ∧ ∀ l, H l = none → Q (.ref l) (upd H l (.lst (signsV z)))
theorem call_list_str (hc : X.calm = true) : CallR X (.type "list") rListS := by
  intro pins s σ H xs us Q I r h
  obtain ⟨z, rfl, hz, q⟩ := h
  obtain ⟨u, rfl, t, rfl⟩ := vals1 r
  refine PySem.call_list_str (I.ok.hd hc) z t (fun h' tk acc c kp e it => ?_) hz
  have hlen : (signsV z).length ≤ sizeLine := by
    unfold signsV
    rw [List.length_map, Array.length_toList]
    exact hz
  have rv : Vals (signsV z) acc.toList := by
    refine vals_of_at ?_ fun j x u hx hu => ?_
    · unfold signsV
      rw [List.length_map, Array.length_toList, Array.length_toList]
      exact it.1.symm
    · obtain ⟨c, t, e1, e2⟩ := it.2 j u (by rw [← Array.getElem?_toList]; exact hu)
      unfold signsV at hx
      rw [List.getElem?_map, Array.getElem?_toList, e1] at hx
      cases hx
      exact ⟨t, e2⟩
  exact ⟨.ref s.heap.objs.size, _, I.laid (t' := tk) kp (Nat.le_refl _) (show ObjOk X.prog X.w _ h' _ (.lst (signsV z)) from ⟨hlen, acc.toList, c, rv, by simpa using e⟩), rfl, q _ (I.hok.fresh (Nat.le_refl _))⟩
end
end WT

set_option Elab.async false
set_option linter.all false
set_option maxRecDepth 100000
set_option maxHeartbeats 4000000
namespace K14
open PySem PySem.Spec PyProof.Rows L2 WT
def top (i : Nat) : Stmt := PySem.Challenge.pw_wraptrails_k14_worlds_known_by_hand.main.body.getD i (.Pass ⟨0, 0, 0, 0⟩)
/-- the built-ins are still the built-ins -/
structure Blt (mg : Str → Option Value) : Prop where
  len : mg "len" = none
  abs : mg "abs" = none
  int : mg "int" = none
  range : mg "range" = none
  list : mg "list" = none
  tuple : mg "tuple" = none
  sorted : mg "sorted" = none
  min : mg "min" = none
  max : mg "max" = none
  all : mg "all" = none
  repr : mg "repr" = none
  dict : mg "dict" = none
  enumerate : mg "enumerate" = none
abbrev st_hand : Stmt := top 19
theorem sc_hand : FnScope ["_law_script", "_law_k", "_law_cell", "_law_great"] ["_law_script", "_law_k"] (defScope st_hand) := ⟨rfl, rfl, rfl, by decide +kernel, rfl, by decide +kernel, by decide +kernel⟩
abbrev st_take : Stmt := top 20
theorem sc_take : FnScope ["_law_hand_here", "_law_many", "_law_digit", "_law_prime", "_law_drawn"] ["_law_hand_here", "_law_many"] (defScope st_take) := ⟨rfl, rfl, rfl, by decide +kernel, rfl, by decide +kernel, by decide +kernel⟩
abbrev st_of : Stmt := top 21
theorem sc_of : FnScope ["_law_hand_here", "_law_some"] ["_law_hand_here", "_law_some"] (defScope st_of) := ⟨rfl, rfl, rfl, by decide +kernel, rfl, by decide +kernel, by decide +kernel⟩
abbrev st_mixed : Stmt := top 22
theorem sc_mixed : FnScope ["_law_hand_here", "_law_some", "_law_left", "_law_found"] ["_law_hand_here", "_law_some"] (defScope st_mixed) := ⟨rfl, rfl, rfl, by decide +kernel, rfl, by decide +kernel, by decide +kernel⟩
def spTake : Sp := fun vs H Q _ => ∃ (a : Addr) (b : Nat) (n : Int), vs = [.ref a, .int n] ∧ PotAt H a b ∧ b ≤ 100000 ∧ 0 < n ∧ n < 1073741824 ∧
  ∀ H' r, But a H H' → PotAt H' a (b + 1) → 0 ≤ r → r < n → Q (.int r) H'
theorem sq_le {x : Int} (h0 : 0 ≤ x) (h1 : x ≤ 100001) : 0 ≤ 7919 * x * x ∧ 7919 * x * x ≤ 700000000000000 := by
  have h2 : 0 ≤ x * x := Int.mul_nonneg h0 h0
  have h3 : x * x ≤ 100001 * 100001 := Int.mul_le_mul h1 h1 h0 (by decide)
  have e : 7919 * x * x = 7919 * (x * x) := Int.mul_assoc _ _ _
  rw [e]
  omega
section
variable {P : Program} {w : World} {K : PySem.W.Frag} {mg : Str → Option Value} {base : Heap} {f : Addr} {fd : FuncData}
theorem ok_take (F : Fun K "_law_take" "_law_take" st_take f fd) : FnG P w K mg base CX0 1 f fd ["_law_hand_here", "_law_many"] spTake := by
  refine okG F sc_take (fun vs H Q E h => ?_) (fun cdv A outer s H vs Q E hgd hr h => ?_)
  · obtain ⟨_, _, _, rfl, _⟩ := h
    rfl
  · obtain ⟨a, b, n, rfl, ⟨p0, p1, p2, ha, hp⟩, hb, hn, hn2, q⟩ := h
    refine ⟨_, (pss_cons (ps_if (pt_cmpR op_gt (pe_ix ix_list (pv 0) pe_int (fun _ _ => rfl)) pe_int (nomark _))
       (pss_cons (ps_set (i := 2) sc_take.nd rfl (.inl rfl) (pe_op op_mod (pe_ix ix_list (pv 0) pe_int (fun _ _ => rfl)) (pv 1)))
       (pss_cons (ps_asg (pe_op op_fdiv (pe_ix ix_list (pv 0) pe_int (fun _ _ => rfl)) (pv 1)) (pg_sub (pv 0) pe_int set_list))
       (pss_one (ps_ret (pv 2)))))
       pss_nil)
      (pss_cons (ps_asg (pe_op op_add (pe_ix ix_list (pv 0) pe_int (fun _ _ => rfl)) pe_int) (pg_sub (pv 0) pe_int set_list))
      (pss_cons (ps_set (i := 3) sc_take.nd rfl (.inl rfl) (pe_ix ix_list (pe_lst (pa_cons pe_int (pa_cons pe_int (pa_cons pe_int (pa_cons pe_int (pa_cons pe_int (pa_cons pe_int (pa_cons pe_int pa_nil)))))))) (pe_op op_mod (pe_ix ix_list (pv 0) pe_int (fun _ _ => rfl)) pe_int) (fun _ _ => rfl)))
      (pss_cons (ps_set (i := 4) sc_take.nd rfl (.inl rfl) (pe_op op_mod (pe_op op_pow (pe_op op_add (pe_op op_add (pe_ix ix_list (pv 0) pe_int (fun _ _ => rfl)) (pe_op op_mul (pe_op op_mul pe_int (pe_ix ix_list (pv 0) pe_int (fun _ _ => rfl))) (pe_ix ix_list (pv 0) pe_int (fun _ _ => rfl)))) pe_int) pe_int) (pv 3)))
      (pss_one (ps_ret (pe_op op_mod (pe_op op_fdiv (pe_op op_mod (pe_op op_mul (pv 4) (pe_op op_add (pe_op op_mod (pv 4) pe_int) (pe_op op_mul pe_int (pe_ix ix_list (pv 0) pe_int (fun _ _ => rfl))))) pe_int) pe_int) (pv 1)))))))), ?_⟩
    have hs : SqL K H a [.int p0, .int p1, .int p2] := SqL.of ha
    refine ⟨_, rfl, a, _, 0, .int p0, rfl, rfl, hs, atI_nat (j := 0) rfl, p0, 0, rfl, rfl, _, rfl, ite2 (fun e => ?_) fun e => ?_⟩
    · have e0 : 0 < p0 := of_decide_eq_true e
      refine ⟨_, rfl, a, _, 0, .int p0, rfl, rfl, hs, atI_nat (j := 0) rfl, _, rfl, p0, n, rfl, rfl, hn, ?_⟩
      refine ⟨_, rfl, a, _, 0, .int p0, rfl, rfl, hs, atI_nat (j := 0) rfl, _, rfl, p0, n, rfl, rfl, ⟨hn, hn2⟩, _, rfl, a, _, 0, 0, rfl, rfl, ha, rfl, ?_⟩
      refine ⟨_, rfl, ?_⟩
      refine q _ (p0 % n) But.upd ⟨p0 / n, p1, p2, upd_same, ?_⟩ (Int.emod_nonneg _ (by omega)) (Int.emod_lt_of_pos _ hn)
      unfold Pot at hp ⊢
      have := Int.ediv_nonneg hp.1 (Int.le_of_lt hn)
      omega
    · have e0 : ¬ 0 < p0 := fun z => e (decide_eq_true z)
      obtain ⟨h0, h1, h2, h3, h4⟩ := hp
      have sq := sq_le (x := p2 + 1) (by omega) (by omega)
      refine ⟨_, rfl, a, _, 2, .int p2, rfl, rfl, hs, atI_nat (j := 2) rfl, p2, 1, rfl, rfl, _, rfl, a, _, 2, 2, rfl, rfl, ha, rfl, ?_⟩
      have ha1 : (upd H a (.lst [.int p0, .int p1, .int (p2 + 1)])) a = some (.lst [.int p0, .int p1, .int (p2 + 1)]) := upd_same
      refine ⟨(by show 7 ≤ sizeLine; decide), fun l nl => ?_⟩
      have nla : a ≠ l := ne_of_none ha1 nl
      have ha2 := same_new nl (o := .lst [.int 2147483647, .int 2147483629, .int 2147483587, .int 2147483579, .int 2147483563, .int 2147483549, .int 2147483543]) _ _ ha1
      have hs2 : SqL K _ a [.int p0, .int p1, .int (p2 + 1)] := SqL.of ha2
      obtain ⟨pr, hpr, hpr0, hpr1⟩ : ∃ pr : Int, atI [V.int 2147483647, .int 2147483629, .int 2147483587, .int 2147483579, .int 2147483563, .int 2147483549, .int 2147483543] ((p2 + 1) % 7) = some (.int pr) ∧ 0 < pr ∧ pr < 2147483648 := by
        have m0 := Int.emod_nonneg (p2 + 1) (b := 7) (by decide)
        have m1 := Int.emod_lt_of_pos (p2 + 1) (b := 7) (by decide)
        generalize (p2 + 1) % 7 = m at m0 m1
        have : m = 0 ∨ m = 1 ∨ m = 2 ∨ m = 3 ∨ m = 4 ∨ m = 5 ∨ m = 6 := by omega
        rcases this with rfl | rfl | rfl | rfl | rfl | rfl | rfl
        · exact ⟨2147483647, rfl, by decide, by decide⟩
        · exact ⟨2147483629, rfl, by decide, by decide⟩
        · exact ⟨2147483587, rfl, by decide, by decide⟩
        · exact ⟨2147483579, rfl, by decide, by decide⟩
        · exact ⟨2147483563, rfl, by decide, by decide⟩
        · exact ⟨2147483549, rfl, by decide, by decide⟩
        · exact ⟨2147483543, rfl, by decide, by decide⟩
      refine ⟨_, rfl, a, _, 2, .int (p2 + 1), rfl, rfl, hs2, atI_nat (j := 2) rfl, p2 + 1, 7, rfl, rfl, (show (0 : Int) < 7 by decide), l, _, (p2 + 1) % 7, .int pr, rfl, rfl, SqL.of upd_same, hpr, ?_⟩
      refine ⟨_, rfl, a, _, 1, .int p1, rfl, rfl, hs2, atI_nat (j := 1) rfl, _, rfl, a, _, 2, .int (p2 + 1), rfl, rfl, hs2, atI_nat (j := 2) rfl, 7919, p2 + 1, rfl, rfl, .inl ⟨by decide, by decide⟩,
        _, rfl, a, _, 2, .int (p2 + 1), rfl, rfl, hs2, atI_nat (j := 2) rfl, 7919 * (p2 + 1), p2 + 1, rfl, rfl, .inr ⟨by omega, by omega⟩, p1, 7919 * (p2 + 1) * (p2 + 1), rfl, rfl, p1 + 7919 * (p2 + 1) * (p2 + 1), 31, rfl, rfl,
        p1 + 7919 * (p2 + 1) * (p2 + 1) + 31, 3, rfl, rfl, ⟨by decide, by decide, by omega⟩, _, rfl, _, pr, rfl, rfl, hpr0, ?_⟩
      obtain ⟨mx, hmx⟩ : ∃ mx : Int, (p1 + 7919 * (p2 + 1) * (p2 + 1) + 31) ^ (3 : Int).toNat % pr = mx := ⟨_, rfl⟩
      dsimp only
      rw [hmx]
      have x0 : 0 ≤ mx := by
        rw [← hmx]
        exact Int.emod_nonneg _ (by omega)
      have x1 : mx < pr := by
        rw [← hmx]
        exact Int.emod_lt_of_pos _ hpr0
      refine ⟨_, rfl, _, rfl, mx, 10007, rfl, rfl, (show (0 : Int) < 10007 by decide), _, rfl, a, _, 2, .int (p2 + 1), rfl, rfl, hs2, atI_nat (j := 2) rfl, 97, p2 + 1, rfl, rfl, .inl ⟨by decide, by decide⟩, mx % 10007, 97 * (p2 + 1), rfl, rfl,
        mx, mx % 10007 + 97 * (p2 + 1), rfl, rfl, .inl ⟨by omega, by omega⟩, _, 2305843009213693907, rfl, rfl, (show (0 : Int) < 2305843009213693907 by decide), _, 97, rfl, rfl, ⟨by decide, by decide⟩, _, rfl, _, n, rfl, rfl, hn, ?_⟩
      refine q _ _ (But.upd.trans (.of (same_new nl))) ⟨p0, p1, p2 + 1, ha2, ?_⟩ (Int.emod_nonneg _ (by omega)) (Int.emod_lt_of_pos _ hn)
      unfold Pot
      omega
/-- 10 ** 480 -/
def big : Int := ((10 : Int) ^ (60 : Int).toNat) ^ (8 : Int).toNat
theorem big_pos : (0 : Int) < big := by decide +kernel
theorem big8 : CPowW ((10 : Int) ^ (60 : Int).toNat) 8 := ⟨by decide, by decide +kernel⟩
def spHand (K : PySem.W.Frag) : Sp := fun vs H Q _ => ∃ (a : Addr) (ns : List Int) (k : Nat), vs = [.ref a, .int k] ∧ SqL K H a (ns.map V.int) ∧ ns.length ≤ 63 ∧ k ≤ 3 ∧
  ∀ H' p, Same H H' → H p = none → PotAt H' p 0 → Q (.ref p) H'
theorem ok_hand (F : Fun K "_law_hand" "_law_hand" st_hand f fd) (B : Blt mg) : FnG P w K mg base CX0 1 f fd ["_law_script", "_law_k"] (spHand K) := by
  refine okG F sc_hand (fun vs H Q E h => ?_) (fun cdv A outer s H vs Q E hgd hr h => ?_)
  · obtain ⟨_, _, _, rfl, _⟩ := h
    rfl
  · obtain ⟨a, ns, k, rfl, hs, hl, hk, q⟩ := h
    refine ⟨_, (pss_cons (ps_set (i := 2) sc_hand.nd rfl (.inl rfl) (pe_ifExp (pt_cmpR op_lt (pv 1) (pe_callB call_len (by rfl) B.len (by decide +kernel) (pa_cons (pv 0) pa_nil)) (nomark _)) (pe_ix ix_list (pv 0) (pv 1) (fun _ _ => rfl)) (pe_op op_add (pe_op op_mul pe_int (pv 1)) pe_int)))
      (pss_cons (ps_set (i := 3) sc_hand.nd rfl (.inl rfl) (pe_op op_mul (pe_op op_mod (pe_callB call_abs (by rfl) B.abs (by decide +kernel) (pa_cons (pv 2) pa_nil)) (pe_op op_powW (pe_op op_pow pe_int pe_int) pe_int)) (pe_callTy call_int1 (by rfl) B.int (by decide +kernel) (pa_cons (pe_cmpR op_ge (pe_callB call_abs (by rfl) B.abs (by decide +kernel) (pa_cons (pv 2) pa_nil)) (pe_op op_pow pe_int pe_int) (nomark _)) pa_nil))))
      (pss_one (ps_ret (pe_lst (pa_cons (pv 3) (pa_cons (pe_op op_mod (pe_op op_add (pe_op op_add (pe_op op_mul (pe_op op_mod (pv 2) pe_int) pe_int) (pe_op op_mul pe_int (pv 1))) pe_int) pe_int) (pa_cons pe_int pa_nil)))))))), ?_⟩
    refine ⟨_, rfl, _, rfl, _, ns.length, rfl, .inl ⟨_, hs, (List.length_map ..).symm⟩, (k : Int), (ns.length : Int), rfl, rfl, _, rfl, ite2 (fun e => ?_) fun e => ?_⟩
    · have e0 : (k : Int) < ns.length := of_decide_eq_true e
      have e1 : k < ns.length := by omega
      refine ⟨_, rfl, _, rfl, a, _, (k : Int), .int ns[k], rfl, rfl, hs, atI_nat (j := k) (by rw [List.getElem?_map, List.getElem?_eq_getElem e1]; rfl), ?_⟩
      obtain ⟨cell, hc⟩ : ∃ c : Int, ns[k] = c := ⟨_, rfl⟩
      rw [hc]
      have c0 : (0 : Int) ≤ if cell < 0 then -cell else cell := by split <;> omega
      refine ⟨_, rfl, cell, rfl, 10, 60, rfl, rfl, ⟨by decide, by decide, by decide⟩, _, 8, rfl, rfl, big8, _, _, rfl, rfl, big_pos,
        _, rfl, cell, rfl, 10, 18, rfl, rfl, ⟨by decide, by decide, by decide⟩, _, _, rfl, rfl, .inr ⟨_, rfl, _, _, rfl, rfl, .inr (bit_mul _), ?_⟩⟩
      obtain ⟨own, ho⟩ : ∃ z : Int, (if cell < 0 then -cell else cell) % big * (if decide ((10 : Int) ^ (18 : Int).toNat ≤ if cell < 0 then -cell else cell) = true then 1 else 0) = z := ⟨_, rfl⟩
      have h0 : 0 ≤ own := by
        rw [← ho]
        exact Int.mul_nonneg (Int.emod_nonneg _ (Int.ne_of_gt big_pos)) (bit_nn _)
      dsimp only
      rw [show ((10 : Int) ^ (60 : Int).toNat) ^ (8 : Int).toNat = big from rfl, ho]
      refine ⟨_, rfl, _, rfl, cell, 2305843009213693951, rfl, rfl, (show (0 : Int) < 2305843009213693951 by decide), _, 69621, rfl, rfl, .inr ⟨by decide, by decide⟩, _, rfl, 15485863, (k : Int), rfl, rfl, .inl ⟨by decide, by decide⟩,
        _, _, rfl, rfl, _, 97, rfl, rfl, _, 2305843009213693921, rfl, rfl, (show (0 : Int) < 2305843009213693921 by decide), (by show 3 ≤ sizeLine; decide), fun p np => ?_⟩
      refine q _ p (same_new np) np ⟨own, _, 0, upd_same, h0, Int.emod_nonneg _ (by decide), ?_, Int.le_refl _, Int.le_refl _⟩
      exact Int.lt_trans (Int.emod_lt_of_pos _ (by decide)) (by decide)
    · refine ⟨_, rfl, 7, (k : Int), rfl, rfl, .inl ⟨by decide, by decide⟩, _, 3, rfl, rfl, ?_⟩
      obtain ⟨cell, hc⟩ : ∃ c : Int, 7 * (k : Int) + 3 = c := ⟨_, rfl⟩
      dsimp only
      rw [hc]
      have c0 : (0 : Int) ≤ if cell < 0 then -cell else cell := by split <;> omega
      refine ⟨_, rfl, cell, rfl, 10, 60, rfl, rfl, ⟨by decide, by decide, by decide⟩, _, 8, rfl, rfl, big8, _, _, rfl, rfl, big_pos,
        _, rfl, cell, rfl, 10, 18, rfl, rfl, ⟨by decide, by decide, by decide⟩, _, _, rfl, rfl, .inr ⟨_, rfl, _, _, rfl, rfl, .inr (bit_mul _), ?_⟩⟩
      obtain ⟨own, ho⟩ : ∃ z : Int, (if cell < 0 then -cell else cell) % big * (if decide ((10 : Int) ^ (18 : Int).toNat ≤ if cell < 0 then -cell else cell) = true then 1 else 0) = z := ⟨_, rfl⟩
      have h0 : 0 ≤ own := by
        rw [← ho]
        exact Int.mul_nonneg (Int.emod_nonneg _ (Int.ne_of_gt big_pos)) (bit_nn _)
      dsimp only
      rw [show ((10 : Int) ^ (60 : Int).toNat) ^ (8 : Int).toNat = big from rfl, ho]
      refine ⟨_, rfl, _, rfl, cell, 2305843009213693951, rfl, rfl, (show (0 : Int) < 2305843009213693951 by decide), _, 69621, rfl, rfl, .inr ⟨by decide, by decide⟩, _, rfl, 15485863, (k : Int), rfl, rfl, .inl ⟨by decide, by decide⟩,
        _, _, rfl, rfl, _, 97, rfl, rfl, _, 2305843009213693921, rfl, rfl, (show (0 : Int) < 2305843009213693921 by decide), (by show 3 ≤ sizeLine; decide), fun p np => ?_⟩
      refine q _ p (same_new np) np ⟨own, _, 0, upd_same, h0, Int.emod_nonneg _ (by decide), ?_, Int.le_refl _, Int.le_refl _⟩
      exact Int.lt_trans (Int.emod_lt_of_pos _ (by decide)) (by decide)
theorem seqL_but {H H' : Hp} {l a : Addr} {xs : List V} (h : SqL K H l xs) (n : l ≠ a) (b : But a H H') : SqL K H' l xs := by
  rcases h with (h | ⟨o, h⟩) | h
  · exact .inl (.inl (b _ _ n h))
  · exact .inl (.inr ⟨o, b _ _ n h⟩)
  · exact .inr h
theorem seqT_but {H H' : Hp} {l a : Addr} {xs : List V} (h : SqT K H l xs) (n : l ≠ a) (b : But a H H') : SqT K H' l xs := by
  rcases h with (h | ⟨o, h⟩) | h
  · exact .inl (.inl (b _ _ n h))
  · exact .inl (.inr ⟨o, b _ _ n h⟩)
  · exact .inr h
/-- of(hand, some): one of the items -/
def spOf (K : PySem.W.Frag) : Sp := fun vs H Q _ => ∃ (a l : Addr) (b : Nat) (xs : List V), vs = [.ref a, .ref l] ∧ PotAt H a b ∧ b ≤ 100000 ∧ l ≠ a ∧ (SqL K H l xs ∨ SqT K H l xs) ∧ 0 < xs.length ∧ xs.length ≤ 1000 ∧
  ∀ H' x, But a H H' → PotAt H' a (b + 1) → x ∈ xs → Q x H'
theorem ok_of {fT : Addr} {fdT : FuncData} (F : Fun K "_law_of" "_law_of" st_of f fd) (B : Blt mg) (F_take : Df P w K mg base "_law_take" 1 fT fdT ["_law_hand_here", "_law_many"] spTake) : FnG P w K mg base CX0 2 f fd ["_law_hand_here", "_law_some"] (spOf K) := by
  refine okG F sc_of (fun vs H Q E h => ?_) (fun cdv A outer s H vs Q E hgd hr h => ?_)
  · obtain ⟨_, _, _, _, rfl, _⟩ := h
    rfl
  · obtain ⟨a, l, b, xs, rfl, ha, hb, hal, hl, hx0, hx1, q⟩ := h
    refine ⟨_, (pss_one (ps_ret (pe_ix ix_seq (pv 1) (pe_callG hgd F_take.G (hr.mono (by decide)) (by rfl) F_take.g F_take.kp F_take.bd pass0 (pa_cons (pv 0) (pa_cons (pe_callB call_len (by rfl) B.len (by decide +kernel) (pa_cons (pv 1) pa_nil)) pa_nil))) (fun _ _ => rfl)))), ?_⟩
    refine ⟨_, rfl, _, rfl, _, rfl, _, xs.length, rfl, hl.imp (fun z => ⟨_, z, rfl⟩) (fun z => ⟨_, z, rfl⟩), a, b, (xs.length : Int), rfl, ha, hb, by omega, by omega, fun H' r bt ha' r0 r1 => ?_⟩
    obtain ⟨j, rfl⟩ := Int.eq_ofNat_of_zero_le r0
    have hj : j < xs.length := by omega
    have hq := q H' _ bt ha' (List.getElem_mem hj)
    rcases hl with hl | hl
    · exact .inl ⟨l, xs, (j : Int), xs[j], rfl, rfl, seqL_but hl hal bt, atI_nat (List.getElem?_eq_getElem hj), hq⟩
    · exact .inr (.inl ⟨l, xs, (j : Int), xs[j], rfl, rfl, seqT_but hl hal bt, atI_nat (List.getElem?_eq_getElem hj), hq⟩)
end
end K14

set_option Elab.async false
set_option linter.all false
namespace WT
open PySem PySem.Spec PyProof.Rows L2
theorem txt_join (a : Str) (ys : List Str) : Txt.join a ys = Str.join a ys := PySem.StrLaws.glued_eq_join a ys
theorem app_cps (a b : Str) : (a ++ b).cps.toList = a.cps.toList ++ b.cps.toList := by
  show (a.cps ++ b.cps).toList = _
  exact Array.toList_append
theorem app_len (a b : Str) : (a ++ b).length = a.length + b.length := by
  show (a.cps ++ b.cps).size = _
  rw [Array.size_append]
  rfl
theorem join_nil_cps : ∀ ys : List Str, (Str.join ("" : Str) ys).cps.toList = (ys.map fun y => y.cps.toList).flatten
  | [] => rfl
  | [x] => by
    show x.cps.toList = _
    simp
  | x :: y :: r => by
    show ((x ++ ("" : Str)) ++ Str.join ("" : Str) (y :: r)).cps.toList = _
    rw [app_cps, app_cps, join_nil_cps (y :: r)]
    show (x.cps.toList ++ []) ++ _ = _
    rw [List.append_nil]
    rfl
/-- a name's sign: a small letter -/
def Low (c : Nat) : Prop := 97 ≤ c ∧ c ≤ 122
/-- a short text of small letters -/
structure NmOk (y : Str) : Prop where
  len : y.length ≤ 8
  low : ∀ c ∈ y.cps.toList, Low c
theorem NmOk.ok {y : Str} (h : NmOk y) : PyData.strOk y = true := by
  unfold PyData.strOk
  rw [Array.all_eq_true]
  intro i hi
  have := h.low y.cps[i] (by rw [Array.mem_toList_iff]; exact Array.getElem_mem hi)
  unfold Low at this
  exact decide_eq_true (by omega)
def sign (c : Nat) : Str := ⟨#[c]⟩
/-- stem followed by one letter: the letters from the first on -/
def nameList (stem : Str) (first n : Nat) : List Str := (List.range n).map fun j => stem ++ sign (97 + first + j)
structure NamesOf (n : Nat) (ys : List Str) : Prop where
  ex : ∃ (stem : Str) (first : Nat), ys = nameList stem first n ∧ stem.length ≤ 7 ∧ (∀ c ∈ stem.cps.toList, Low c) ∧ first + n ≤ 26
theorem NamesOf.length {n : Nat} {ys : List Str} (h : NamesOf n ys) : ys.length = n := by
  obtain ⟨s, f, rfl, _⟩ := h.ex
  unfold nameList
  rw [List.length_map, List.length_range]
theorem NamesOf.nm {n : Nat} {ys : List Str} (h : NamesOf n ys) : ∀ y ∈ ys, NmOk y := by
  obtain ⟨s, f, rfl, h1, h2, h3⟩ := h.ex
  intro y hy
  unfold nameList at hy
  obtain ⟨j, hj, rfl⟩ := List.mem_map.mp hy
  have hj := List.mem_range.mp hj
  refine ⟨?_, fun c hc => ?_⟩
  · rw [app_len]
    show s.length + 1 ≤ 8
    omega
  · rw [app_cps] at hc
    rcases List.mem_append.mp hc with hc | hc
    · exact h2 c hc
    · have : c = 97 + f + j := by simpa [sign] using hc
      unfold Low
      omega
def alpha : Str := "abcdefghijklmnopqrstuvwxyz"
theorem alpha_cps : alpha.cps.toList = (List.range 26).map fun j => 97 + j := by decide +kernel
theorem alpha_len : alpha.length = 26 := by decide +kernel
theorem cut_alpha {f n : Nat} (h : f + n ≤ 26) : (cutS alpha (some (f : Int)) (some ((f + n : Nat) : Int))).cps.toList = (List.range n).map fun j => 97 + f + j := by
  unfold cutS
  rw [HT.sIx_nat, HT.sIx_nat, alpha_len, Nat.min_eq_left h, Nat.min_eq_left (show f ≤ 26 by omega)]
  show (List.take (f + n - f) (List.drop f alpha.cps.toList)) = _
  rw [alpha_cps]
  apply List.ext_getElem?
  intro i
  rw [List.getElem?_take, List.getElem?_drop, List.getElem?_map, List.getElem?_map]
  by_cases hi : i < n
  · rw [if_pos (by omega), List.getElem?_range (by omega), List.getElem?_range hi]
    show some (97 + (f + i)) = some (97 + f + i)
    rw [Nat.add_assoc]
  · rw [if_neg (by omega), List.getElem?_eq_none (l := List.range n) (by rw [List.length_range]; omega)]
    rfl
/-- texts as data -/
theorem dp_strs {K : PySem.W.Frag} {H : Hp} : ∀ ss : List Str, DpAll K H (ss.map V.str) (ss.map PyData.str)
  | [] => .nil
  | s :: ss => .cons (.str s) (dp_strs ss)
theorem lay_strs : ∀ ss : List Str, (∀ s ∈ ss, PyData.strOk s = true) → PyData.canLayAll0 (ss.map PyData.str) = true ∧ PyData.depthAll (ss.map PyData.str) = 0
  | [], _ => ⟨by rw [List.map_nil, PyData.canLayAll0], by rw [List.map_nil, PyData.depthAll]⟩
  | s :: ss, h => by
    obtain ⟨h1, h2⟩ := lay_strs ss fun x hx => h x (List.mem_cons_of_mem _ hx)
    rw [List.map_cons, PyData.canLayAll0, PyData.depthAll, h1, h2, PyData.canLay0, PyData.depth, h s List.mem_cons_self]
    exact ⟨rfl, rfl⟩
theorem shaped_strs (ss : List Str) (h : ∀ s ∈ ss, PyData.strOk s = true) : SeqAt.shaped (.list (ss.map PyData.str)) = true := by
  obtain ⟨h1, h2⟩ := lay_strs ss h
  unfold SeqAt.shaped
  rw [PyData.canLay0, PyData.depth, h1, h2]
  rfl
theorem shaped_strsT (ss : List Str) (h : ∀ s ∈ ss, PyData.strOk s = true) : SeqAt.shaped (.tuple (ss.map PyData.str)) = true := by
  obtain ⟨h1, h2⟩ := lay_strs ss h
  unfold SeqAt.shaped
  rw [PyData.canLay0, PyData.depth, h1, h2]
  rfl
theorem shaped_nil : SeqAt.shaped (.list []) = true := by decide +kernel
theorem shaped_nilT : SeqAt.shaped (.tuple []) = true := by decide +kernel
theorem eqv_nil : ∀ ss : List Str, PyData.eqv (.list (ss.map PyData.str)) (.list []) = ss.isEmpty
  | [] => by decide +kernel
  | s :: ss => by
    rw [List.map_cons, PyData.eqv, PyData.eqvAll]
    rfl
theorem eqv_nilT : ∀ ss : List Str, PyData.eqv (.tuple (ss.map PyData.str)) (.tuple []) = ss.isEmpty
  | [] => by decide +kernel
  | s :: ss => by
    rw [List.map_cons, PyData.eqv, PyData.eqvAll]
    rfl
theorem map_erase {α β : Type} (g : α → β) : ∀ (xs : List α) (j : Nat), (xs.map g).eraseIdx j = (xs.eraseIdx j).map g
  | [], _ => rfl
  | _ :: _, 0 => rfl
  | x :: xs, j + 1 => by
    show g x :: (xs.map g).eraseIdx j = g x :: (xs.eraseIdx j).map g
    rw [map_erase g xs j]
theorem erase_perm {α : Type} : ∀ (xs : List α) (j : Nat) (h : j < xs.length), (xs[j] :: xs.eraseIdx j).Perm xs
  | x :: xs, 0, _ => List.Perm.refl _
  | x :: xs, j + 1, h => by
    have ih := erase_perm xs j (Nat.lt_of_succ_lt_succ h)
    show (xs[j]'(Nat.lt_of_succ_lt_succ h) :: x :: xs.eraseIdx j).Perm (x :: xs)
    exact (List.Perm.swap _ _ _).trans (ih.cons x)
theorem sum_ones {α : Type} : ∀ ss : List α, (ss.map fun _ => 1).sum = ss.length
  | [] => rfl
  | s :: ss => by
    rw [List.map_cons, List.sum_cons, sum_ones ss, List.length_cons]
    omega
end WT

set_option Elab.async false
set_option linter.all false
set_option maxRecDepth 100000
set_option maxHeartbeats 4000000
namespace K14
open PySem PySem.Spec PyProof.Rows L2 WT
abbrev st_names : Stmt := top 23
theorem sc_names : FnScope ["_law_hand_here", "_law_count", "_law_stem", "_law_first", "_law_turn", "_law_letter"] ["_law_hand_here", "_law_count"] (defScope st_names) := ⟨rfl, rfl, rfl, by decide +kernel, rfl, by decide +kernel, by decide +kernel⟩
section
variable {P : Program} {w : World} {K : PySem.W.Frag} {mg : Str → Option Value} {base : Heap} {f fT fO : Addr} {fd fdT fdO : FuncData}
/-- mixed(hand, some): the same texts in some order -/
def spMixed (K : PySem.W.Frag) : Sp := fun vs H Q _ => ∃ (a l : Addr) (b : Nat) (ss : List Str), vs = [.ref a, .ref l] ∧ PotAt H a b ∧ b + ss.length ≤ 100000 ∧ (SqL K H l (ss.map V.str) ∨ SqT K H l (ss.map V.str)) ∧ ss.length ≤ 1000 ∧ (∀ s ∈ ss, PyData.strOk s = true) ∧
  ∀ (H' : Hp) (p : Addr) (ys : List Str), But a H H' → PotAt H' a (b + ss.length) → H p = none → H' p = some (.lst (ys.map V.str)) → ys.Perm ss → Q (.ref p) H'
theorem ok_mixed (F : Fun K "_law_mixed" "_law_mixed" st_mixed f fd) (B : Blt mg) (F_take : Df P w K mg base "_law_take" 1 fT fdT ["_law_hand_here", "_law_many"] spTake) : FnG P w K mg base CX0 2 f fd ["_law_hand_here", "_law_some"] (spMixed K) := by
  refine okG F sc_mixed (fun vs H Q E h => ?_) (fun cdv A outer s H vs Q E hgd hr h => ?_)
  · obtain ⟨_, _, _, _, rfl, _⟩ := h
    rfl
  · obtain ⟨a, l, b, ss, rfl, ha, hb, hl, hlen, hok, q⟩ := h
    refine ⟨_, (pss_cons (ps_par (by rfl) sc_mixed.nd (i := 2) (j := 3) rfl rfl (by decide) rfl rfl (pa_cons (pe_callTy call_list_of (by rfl) B.list (by decide +kernel) (pa_cons (pv 1) pa_nil)) (pa_cons (pe_lst pa_nil) pa_nil)) (by rfl))
      (pss_cons (ps_while PassesOwn.never (pt_cmpR (op_neD hr.units) (pv 2) (pe_lst pa_nil) (nomark _))
       (pss_one (ps_expr (pe_bm PySem.F.plainAttrs_list PySem.F.slot_list_append PySem.F.type_list_append mt_append (pv 3) (pa_cons (pe_bm PySem.F.plainAttrs_list PySem.F.slot_list_pop PySem.F.type_list_pop mt_popAt (pv 2) (pa_cons (pe_callG hgd F_take.G (hr.mono (by decide)) (by rfl) F_take.g F_take.kp F_take.bd pass0 (pa_cons (pv 0) (pa_cons (pe_callB call_len (by rfl) B.len (by decide +kernel) (pa_cons (pv 2) pa_nil)) pa_nil))) pa_nil)) pa_nil)))))
      (pss_one (ps_ret (pv 3))))), ?_⟩
    refine ⟨_, rfl, l, ss.map V.str, rfl, hl, fun L nL => ?_⟩
    refine ⟨(by show 0 ≤ sizeLine; decide), fun D nD => ?_⟩
    refine ⟨_, _, rfl, ?_⟩
    have hnaL : a ≠ L := ha.ne_new nL
    have z1 := same_new nL (o := .lst (ss.map V.str))
    have z2 := same_new nD (o := .lst [])
    have hnaD : a ≠ D := (ha.same z1).ne_new nD
    have hLD : L ≠ D := ne_of_none upd_same nD
    have nD0 : H D = none := by
      rw [← upd_ne (H := H) (o := .lst (ss.map V.str)) (Ne.symm hLD)]
      exact nD
    refine ⟨fun m σ H' => ∃ left found : List Str, σ = [some (.ref a), some (.ref l), some (.ref L), some (.ref D)] ∧ m = left.length ∧ But a H H' ∧ PotAt H' a (b + found.length) ∧ H' L = some (.lst (left.map V.str)) ∧ H' D = some (.lst (found.map V.str)) ∧ (found ++ left).Perm ss,
      ⟨ss.length, ss, [], rfl, rfl, .of (z1.trans z2), (ha.same z1).same z2, z2 _ _ upd_same, upd_same, List.Perm.refl _⟩, fun m σ H' hW => ?_⟩
    obtain ⟨left, found, rfl, rfl, bt, hp, hL, hD, pm⟩ := hW
    have hle : found.length + left.length = ss.length := by
      have := pm.length_eq
      rw [List.length_append] at this
      exact this
    refine ⟨_, rfl, (by show 0 ≤ sizeLine; decide), fun e ne => ?_⟩
    have z3 := same_new ne (o := .lst [])
    have okl : ∀ s ∈ left, PyData.strOk s = true := fun s hs => hok s (pm.mem_iff.mp (List.mem_append_right _ hs))
    refine ⟨_, _, .lst (SqL.of (z3 _ _ hL)) (dp_strs left), .lst (SqL.of upd_same) .nil, shaped_strs left okl, shaped_nil, _, rfl, ?_⟩
    rw [eqv_nil]
    cases left with
    | nil =>
      refine iteF ⟨_, rfl, ?_⟩
      rw [List.append_nil] at pm
      refine q _ D found (bt.trans (.of z3)) ((hp.same z3).more (by omega)) nD0 (z3 _ _ hD) pm
    | cons x left =>
      refine iteT ⟨fun σ' H2 => ∃ left' found' : List Str, σ' = [some (.ref a), some (.ref l), some (.ref L), some (.ref D)] ∧ left'.length = left.length ∧ But a H H2 ∧ PotAt H2 a (b + found'.length) ∧ H2 L = some (.lst (left'.map V.str)) ∧ H2 D = some (.lst (found'.map V.str)) ∧ (found' ++ left').Perm ss,
        fun σ' H2 ⟨l', f', h1, h2, h3⟩ => ⟨left.length, by rw [List.length_cons]; omega, l', f', h1, h2.symm, h3⟩, ?_⟩
      have hl3 := z3 _ _ hL
      have hd3 := z3 _ _ hD
      refine ⟨_, rfl, .inl ⟨rfl, _, SqL.of hd3⟩, _, rfl, .inl ⟨rfl, _, SqL.of hl3⟩, _, rfl, _, rfl, _, ((x :: left).map V.str).length, rfl, .inl ⟨_, SqL.of hl3, rfl⟩, a, b + found.length, (((x :: left).map V.str).length : Int), rfl, hp.same z3, by simp at hle ⊢; omega, by simp <;> omega,
        by simp at hle ⊢; omega, fun H4 r b4 p4 r0 r1 => ?_⟩
      obtain ⟨j, rfl⟩ := Int.eq_ofNat_of_zero_le r0
      have hj : j < (x :: left).length := by
        rw [List.length_map] at r1
        omega
      have hl4 := b4 _ _ (Ne.symm hnaL) hl3
      have hd4 := b4 _ _ (Ne.symm hnaD) hd3
      have hjx : ((x :: left).map V.str)[j]? = some (V.str (x :: left)[j]) := by
        rw [List.getElem?_map, List.getElem?_eq_getElem hj]
        rfl
      have hsq : seqIndex? (j : Int) ((x :: left).map V.str).length = some j := by
        have := (ixN_seq (n := ((x :: left).map V.str).length) (i := (j : Int)) (j := j) (by
          unfold ixN
          rw [if_pos (by omega), if_pos (by rw [List.length_map]; omega)]
          simp)).1
        exact this
      refine ⟨L, _, (j : Int), j, _, rfl, rfl, hl4, by omega, by rw [List.length_cons] at hj; simp at hle; omega, hsq, hjx, ?_⟩
      have hD5 : (upd H4 L (.lst (((x :: left).map V.str).eraseIdx j))) D = some (.lst (found.map V.str)) := by
        rw [upd_ne (Ne.symm hLD)]
        exact hd4
      refine ⟨D, _, _, rfl, rfl, hD5, ?_, ?_⟩
      · rw [List.length_map]
        exact Nat.lt_of_le_of_lt (show found.length ≤ 1000 by simp at hle; omega) (by decide)
      · refine ⟨(x :: left).eraseIdx j, found ++ [(x :: left)[j]], rfl, ?_, ?_, ?_, ?_, ?_, ?_⟩
        · rw [List.length_eraseIdx_of_lt hj]
          rfl
        · intro c o nc ec
          rw [upd_ne (ne_of_none ec nD0), upd_ne (ne_of_none ec nL)]
          exact (bt.trans ((But.of z3).trans b4)) c o nc ec
        · obtain ⟨u0, u1, u2, e1, e2⟩ := p4
          refine ⟨u0, u1, u2, ?_, e2.more ?_⟩
          · rw [upd_ne hnaD, upd_ne hnaL]
            exact e1
          · rw [List.length_append]
            exact Nat.le_refl _
        · rw [upd_ne hLD, upd_same]
          congr 2
          exact map_erase _ _ _
        · rw [upd_same, List.map_append]
          rfl
        · refine List.Perm.trans ?_ pm
          rw [List.append_assoc]
          exact List.Perm.append_left _ (erase_perm _ j hj)
/-- names(hand, count): a tuple of so many names -/
def spNames : Sp := fun vs H Q _ => ∃ (a : Addr) (b n : Nat), vs = [.ref a, .int n] ∧ PotAt H a b ∧ b ≤ 90000 ∧ n ≤ 20 ∧
  ∀ (H' : Hp) (p : Addr) (ys : List Str), But a H H' → PotAt H' a (b + 9) → H' p = some (.tup (ys.map V.str)) → NamesOf n ys → Q (.ref p) H'
theorem ok_names (F : Fun K "_law_names" "_law_names" st_names f fd) (B : Blt mg) (F_take : Df P w K mg base "_law_take" 1 fT fdT ["_law_hand_here", "_law_many"] spTake)
    (F_of : Df P w K mg base "_law_of" 2 fO fdO ["_law_hand_here", "_law_some"] (spOf K)) : FnG P w K mg base CX0 3 f fd ["_law_hand_here", "_law_count"] spNames := by
  refine okG F sc_names (fun vs H Q E h => ?_) (fun cdv A outer s H vs Q E hgd hr h => ?_)
  · obtain ⟨_, _, _, rfl, _⟩ := h
    rfl
  · obtain ⟨a, b, n, rfl, ha, hb, hn, q⟩ := h
    refine ⟨_, (pss_cons (ps_set (i := 2) sc_names.nd rfl (.inr rfl) (pe_join pe_str (pe_lc (own := [("_law_turn", 4)]) (by rfl) sc_names.nd (pi_range1 (by rfl) B.range (pa_cons (pe_callG hgd F_of.G (hr.mono (by decide)) (by rfl) F_of.g F_of.kp F_of.bd pass0 (pa_cons (pv 0) (pa_cons (pe_lst (pa_cons pe_int (pa_cons pe_int (pa_cons pe_int (pa_cons pe_int pa_nil))))) pa_nil))) pa_nil)) (blkOk_by (own := [("_law_turn", 4)]) (N := ["_law_hand_here", "_law_count", "_law_stem", "_law_first", "_law_turn", "_law_letter"]) (sc := defScope st_names) (by decide +kernel)) (fun _ _ _ _ _ => (pg_name (i := 4) sc_names.nd rfl (.inl rfl))) (fun _ _ _ _ _ => pts_nil) (fun _ _ _ _ _ => (pe_callG hgd F_of.G (hr.mono (by decide)) (by rfl) F_of.g F_of.kp F_of.bd pass0 (pa_cons (pv 0) (pa_cons (pe_callTy (call_list_str rfl) (by rfl) B.list (by decide +kernel) (pa_cons pe_str pa_nil)) pa_nil)))))))
      (pss_cons (ps_set (i := 3) sc_names.nd rfl (.inl rfl) (pe_callG hgd F_take.G (hr.mono (by decide)) (by rfl) F_take.g F_take.kp F_take.bd pass0 (pa_cons (pv 0) (pa_cons (pe_op op_sub pe_int (pv 1)) pa_nil))))
      (pss_one (ps_ret (pe_callTy call_tuple_of (by rfl) B.tuple (by decide +kernel) (pa_cons (pe_lc (own := [("_law_letter", 5)]) (by rfl) sc_names.nd (pi_str (pe_slice sl_str pe_str (po_some (pv 3)) (po_some (pe_op op_add (pv 3) (pv 1))))) (blkOk_by (own := [("_law_letter", 5)]) (N := ["_law_hand_here", "_law_count", "_law_stem", "_law_first", "_law_turn", "_law_letter"]) (sc := defScope st_names) (by decide +kernel)) (fun _ _ _ _ _ => (pg_name (i := 5) sc_names.nd rfl (.inl rfl))) (fun _ _ _ _ _ => pts_nil) (fun _ _ _ _ _ => (pe_op op_add_str (pv 2) (pv 5)))) pa_nil)))))), ?_⟩
    -- how long the stem is
    refine ⟨⟨_, rfl⟩, _, rfl, (by show 4 ≤ sizeLine; decide), fun l0 n0 => ?_⟩
    have z0 := same_new n0 (o := .lst [.int 0, .int 0, .int 1, .int 7])
    refine ⟨a, l0, b, [.int 0, .int 0, .int 1, .int 7], rfl, ha.same z0, by omega, Ne.symm (ha.ne_new n0), .inl (SqL.of upd_same), by decide, by decide, fun H1 x b1 p1 hx => ?_⟩
    obtain ⟨m, rfl, hm⟩ : ∃ m : Nat, x = .int m ∧ m ≤ 7 := by
      simp only [List.mem_cons, List.not_mem_nil, or_false] at hx
      rcases hx with rfl | rfl | rfl | rfl
      · exact ⟨0, rfl, by decide⟩
      · exact ⟨0, rfl, by decide⟩
      · exact ⟨1, rfl, by decide⟩
      · exact ⟨7, rfl, by decide⟩
    have bt1 : But a H H1 := (But.of z0).trans b1
    refine ⟨(m : Int), rfl, by omega, by omega, fun D nD => lc_range (lo := 0) (n := (m : Int).toNat) (fun j H' => ∃ ss : List Str, ss.length = j ∧ (∀ s ∈ ss, ∃ c, s = sign c ∧ Low c) ∧ But a H H' ∧ PotAt H' a (b + 1 + j) ∧ H' D = some (.lst (ss.map V.str)))
      ⟨[], rfl, fun s hs => (nomatch hs), bt1.trans (.of (same_new nD)), p1.same (same_new nD), upd_same⟩ (fun j H' hj hP => ?_) fun H' hP => ?_⟩
    · obtain ⟨ss, hl, hc, bt, hp, hD⟩ := hP
      have naD : a ≠ D := p1.ne_new nD
      refine ⟨rfl, _, rfl, "abmz", rfl, (by decide +kernel), fun l nl => ?_⟩
      have z2 := same_new nl (o := .lst (signsV "abmz"))
      refine ⟨a, l, b + 1 + j, signsV "abmz", rfl, hp.same z2, by omega, Ne.symm (hp.ne_new nl), .inl (SqL.of upd_same), by decide +kernel, by decide +kernel, fun H2 y b2 p2 hy => ?_⟩
      obtain ⟨c, rfl, hcl⟩ : ∃ c, y = .str (sign c) ∧ Low c := by
        have : signsV "abmz" = [V.str (sign 97), V.str (sign 98), V.str (sign 109), V.str (sign 122)] := by decide +kernel
        rw [this] at hy
        simp only [List.mem_cons, List.not_mem_nil, or_false] at hy
        unfold Low
        rcases hy with rfl | rfl | rfl | rfl
        · exact ⟨97, rfl, by decide⟩
        · exact ⟨98, rfl, by decide⟩
        · exact ⟨109, rfl, by decide⟩
        · exact ⟨122, rfl, by decide⟩
      have hD2 := b2 _ _ (Ne.symm naD) (z2 _ _ hD)
      refine ⟨_, hD2, ?_, ss ++ [sign c], ?_, ?_, ?_, ?_, ?_⟩
      · rw [List.length_map, hl]
        exact Nat.lt_of_lt_of_le (show j < 10 by omega) (by decide)
      · rw [List.length_append, hl]
        rfl
      · intro s hs
        rcases List.mem_append.mp hs with hs | hs
        · exact hc s hs
        · rw [List.mem_singleton.mp hs]
          exact ⟨c, rfl, hcl⟩
      · intro g o ng eg
        have ngD : g ≠ D := ne_of_none (bt1 _ _ ng eg) nD
        rw [upd_ne ngD]
        exact (bt.trans ((But.of z2).trans b2)) g o ng eg
      · obtain ⟨u0, u1, u2, e1, e2⟩ := p2
        exact ⟨u0, u1, u2, by rw [upd_ne naD]; exact e1, e2.more (by omega)⟩
      · rw [upd_same, List.map_append]
        rfl
    · obtain ⟨ss, hl, hc, bt, hp, hD⟩ := hP
      have hl : ss.length = m := hl
      have sl : (ss.map fun s => s.length) = ss.map fun _ => 1 := List.map_congr_left fun s hs => by
        obtain ⟨c, rfl, _⟩ := hc s hs
        rfl
      have sum1 : (ss.map fun s => s.length).sum = m := by
        rw [sl, sum_ones, hl]
      refine ⟨"", D, ss, rfl, rfl, .inl (SqL.of hD), ?_, ?_⟩
      · rw [sum1]
        show m + ss.length * 0 ≤ 16777216
        omega
      -- the stem
      rw [txt_join]
      obtain ⟨stem, hst⟩ : ∃ z, Str.join ("" : Str) ss = z := ⟨_, rfl⟩
      rw [hst]
      have stl : ∀ c ∈ stem.cps.toList, Low c := by
        intro c hcc
        rw [← hst, join_nil_cps] at hcc
        obtain ⟨x, hx, hcx⟩ := List.mem_flatten.mp hcc
        obtain ⟨s, hs, rfl⟩ := List.mem_map.mp hx
        obtain ⟨c', rfl, h⟩ := hc s hs
        have : c = c' := by simpa [sign] using hcx
        rw [this]
        exact h
      have sten : stem.length ≤ 7 := by
        have : stem.cps.toList.length = m := by
          rw [← hst, join_nil_cps, List.length_flatten, List.map_map, ← sum1]
          congr 1
        rw [Array.length_toList] at this
        show stem.cps.size ≤ 7
        omega
      -- the first letter
      refine ⟨_, rfl, _, rfl, 26, (n : Int), rfl, rfl, a, b + 1 + m, 26 - (n : Int), rfl, hp, by omega, by omega, by omega, fun H3 r b3 p3 r0 r1 => ?_⟩
      obtain ⟨first, rfl⟩ := Int.eq_ofNat_of_zero_le r0
      have hf : first + n ≤ 26 := by omega
      have hcut : (cutS alpha (some (first : Int)) (some ((first : Int) + (n : Int)))).cps.toList = (List.range n).map fun j => 97 + first + j := cut_alpha hf
      have hsz : (cutS alpha (some (first : Int)) (some ((first : Int) + (n : Int)))).cps.size = n := by
        rw [← Array.length_toList, hcut, List.length_map, List.length_range]
      refine ⟨_, rfl, (first : Int), rfl, _, rfl, _, rfl, (first : Int), (n : Int), rfl, rfl, _, rfl, alpha, rfl, by decide +kernel, _, rfl, fun D2 nD2 => lc_it walk_str (fun j H' => Same H3 H' ∧ H' D2 = some (.lst ((nameList stem first j).map V.str))) ⟨same_new nD2, upd_same⟩ (fun _ _ _ _ => trivial)
        (fun j x H4 H5 hj hP hY => ?_) fun H4 hP => ?_⟩
      · obtain ⟨s4, d4⟩ := hP
        obtain ⟨rfl, c, hc4, rfl⟩ := hY
        have hj' : j < n := by
          rw [← hsz]
          exact hj
        have hcj : c = 97 + first + j := by
          have e : (cutS alpha (some (first : Int)) (some ((first : Int) + (n : Int)))).cps.toList[j]? = some c := by
            rw [Array.getElem?_toList]
            exact hc4
          rw [hcut, List.getElem?_map, List.getElem?_range hj'] at e
          exact (Option.some.inj e).symm
        subst hcj
        refine ⟨rfl, _, rfl, _, rfl, stem, sign (97 + first + j), rfl, rfl, ?_, _, d4, ?_, ?_, ?_⟩
        · show stem.length + 1 ≤ sizeLine
          exact Nat.le_trans (show stem.length + 1 ≤ 8 by omega) (by decide)
        · unfold nameList
          rw [List.length_map, List.length_map, List.length_range]
          exact Nat.lt_of_lt_of_le (show j < 30 by omega) (by decide)
        · intro g o eg
          rw [upd_ne (ne_of_none eg nD2)]
          exact s4 g o eg
        · rw [upd_same]
          unfold nameList
          rw [List.range_succ, List.map_append, List.map_append]
          rfl
      · obtain ⟨s4, d4⟩ := hP
        rw [hsz] at d4
        refine ⟨D2, _, rfl, .inl ⟨SqL.of d4, fun p np => ?_⟩⟩
        have z5 := same_new np (o := .tup ((nameList stem first n).map V.str))
        exact q _ p _ (bt.trans (b3.trans (.of (s4.trans z5)))) (((p3.same s4).same z5).more (by omega)) upd_same ⟨stem, first, rfl, sten, stl, hf⟩
end
end K14

set_option Elab.async false
set_option linter.all false
namespace WT
open PySem PySem.Spec PyProof.Rows L2
/-- a gateway: its name, its members, its kind -/
abbrev Gt := Str × List Str × Str
def GateAt (H : Hp) (a : Addr) (g : Gt) : Prop := ∃ i, H a = some (.tup [.str g.1, .ref i, .str g.2.2]) ∧ H i = some (.tup (g.2.1.map V.str))
theorem GateAt.same {H H' : Hp} {a : Addr} {g : Gt} (h : GateAt H a g) (s : Same H H') : GateAt H' a g := by
  obtain ⟨i, h1, h2⟩ := h
  exact ⟨i, s _ _ h1, s _ _ h2⟩
theorem GateAt.but {H H' : Hp} {a c : Addr} {g : Gt} {b : Nat} (h : GateAt H a g) (p : PotAt H c b) (s : But c H H') : GateAt H' a g := by
  obtain ⟨i, h1, h2⟩ := h
  exact ⟨i, s _ _ (p.ne_tup h1) h1, s _ _ (p.ne_tup h2) h2⟩
/-- the world of the regions rs and the gateways gs stands at a -/
structure WorldAt (H : Hp) (a r g : Addr) (as : List Addr) (rs : List Str) (gs : List Gt) : Prop where
  top : H a = some (.tup [.ref r, .ref g])
  reg : H r = some (.tup (rs.map V.str))
  gat : H g = some (.tup (as.map V.ref))
  each : Paired (GateAt H) as gs
theorem WorldAt.same {H H' : Hp} {a r g : Addr} {as : List Addr} {rs : List Str} {gs : List Gt} (h : WorldAt H a r g as rs gs) (s : Same H H') : WorldAt H' a r g as rs gs :=
  ⟨s _ _ h.top, s _ _ h.reg, s _ _ h.gat, Paired.mapP h.each fun _ _ z => z.same s⟩
theorem WorldAt.but {H H' : Hp} {a r g c : Addr} {as : List Addr} {rs : List Str} {gs : List Gt} {b : Nat} (h : WorldAt H a r g as rs gs) (p : PotAt H c b) (s : But c H H') : WorldAt H' a r g as rs gs :=
  ⟨s _ _ (p.ne_tup h.top) h.top, s _ _ (p.ne_tup h.reg) h.reg, s _ _ (p.ne_tup h.gat) h.gat, Paired.mapP h.each fun _ _ z => z.but p s⟩
/-- what a drawn gateway between the regions rs is -/
structure GateOk (rs : List Str) (g : Gt) : Prop where
  nm : NmOk g.1
  from_ : ∃ (ys : List Str) (k : Nat), ys.Perm rs ∧ g.2.1.Perm (ys.take k) ∧ 2 ≤ k ∧ k ≤ rs.length
  srt : sortedS g.2.1 = true
  kind : g.2.2 = "wrap" ∨ g.2.2 = "open"
theorem GateOk.sub {rs : List Str} {g : Gt} (h : GateOk rs g) : ∀ x ∈ g.2.1, x ∈ rs := by
  obtain ⟨ys, k, h1, h2, _⟩ := h.from_
  intro x hx
  exact h1.mem_iff.mp (List.mem_of_mem_take (h2.mem_iff.mp hx))
theorem GateOk.len {rs : List Str} {g : Gt} (h : GateOk rs g) : 2 ≤ g.2.1.length ∧ g.2.1.length ≤ rs.length := by
  obtain ⟨ys, k, h1, h2, h3, h4⟩ := h.from_
  have e1 := h2.length_eq
  have e2 := h1.length_eq
  rw [List.length_take] at e1
  omega
structure WorldOk (rs : List Str) (gs : List Gt) : Prop where
  reg : ∃ n, 1 ≤ n ∧ n ≤ 10 ∧ NamesOf n rs
  gat : ∃ n, n ≤ 10 ∧ NamesOf n (gs.map (·.1))
  each : ∀ g ∈ gs, GateOk rs g
theorem cut_to (ys : List Str) (k : Nat) : cutV (ys.map V.str) none (some (k : Int)) = (ys.take k).map V.str := by
  unfold cutV
  rw [HT.sIx_nat, HT.sIx_none, List.drop_zero, List.length_map, Nat.sub_zero, ← List.map_take]
  congr 1
  rcases Nat.le_total k ys.length with h | h
  · rw [Nat.min_eq_left h]
  · rw [Nat.min_eq_right h, List.take_of_length_le h, List.take_length]
theorem pair_snoc {α β : Type} {R : α → β → Prop} : ∀ {l : List α} {m : List β} {x : α} {y : β}, Paired R l m → R x y → Paired R (l ++ [x]) (m ++ [y])
  | _, _, _, _, .nil, r => .cons r .nil
  | _, _, _, _, .cons r t, q => .cons r (pair_snoc t q)
end WT

set_option Elab.async false
set_option linter.all false
namespace WT
open PySem PySem.Spec PyProof.Rows L2
/-! ### regions that gateways connect: the mathematics -/
def Adj (gs : List Gt) (bar : List Str) (x y : Str) : Prop := ∃ g ∈ gs, g.1 ∉ bar ∧ x ∈ g.2.1 ∧ y ∈ g.2.1
inductive Conn (gs : List Gt) (bar : List Str) (x : Str) : Str → Prop
  | refl : Conn gs bar x x
  | step {y z : Str} : Conn gs bar x y → Adj gs bar y z → Conn gs bar x z
theorem Adj.symm {gs : List Gt} {bar : List Str} {x y : Str} (h : Adj gs bar x y) : Adj gs bar y x := by
  obtain ⟨g, h1, h2, h3, h4⟩ := h
  exact ⟨g, h1, h2, h4, h3⟩
theorem Conn.trans {gs : List Gt} {bar : List Str} {x y z : Str} (h : Conn gs bar x y) (k : Conn gs bar y z) : Conn gs bar x z := by
  induction k with
  | refl => exact h
  | step _ a ih => exact ih.step a
theorem Conn.symm {gs : List Gt} {bar : List Str} {x y : Str} (h : Conn gs bar x y) : Conn gs bar y x := by
  induction h with
  | refl => exact .refl
  | step _ a ih => exact (Conn.refl.step a.symm).trans ih
/-- what exits returns -/
def exitsL (gs : List Gt) (bar : List Str) (x : Str) : List (Str × Str) := gs.flatMap fun g => if x ∈ g.2.1 ∧ g.1 ∉ bar then (g.2.1.filter fun y => decide (y ≠ x)).map fun y => (g.1, y) else []
theorem exits_adj {gs : List Gt} {bar : List Str} {x : Str} {e : Str × Str} (h : e ∈ exitsL gs bar x) : Adj gs bar x e.2 := by
  unfold exitsL at h
  obtain ⟨g, hg, he⟩ := List.mem_flatMap.mp h
  by_cases c : x ∈ g.2.1 ∧ g.1 ∉ bar
  · rw [if_pos c] at he
    obtain ⟨y, hy, rfl⟩ := List.mem_map.mp he
    exact ⟨g, hg, c.2, c.1, (List.mem_filter.mp hy).1⟩
  · rw [if_neg c] at he
    cases he
theorem adj_exits {gs : List Gt} {bar : List Str} {x y : Str} (h : Adj gs bar x y) (n : y ≠ x) : ∃ e ∈ exitsL gs bar x, e.2 = y := by
  obtain ⟨g, hg, h1, h2, h3⟩ := h
  refine ⟨(g.1, y), ?_, rfl⟩
  unfold exitsL
  refine List.mem_flatMap.mpr ⟨g, hg, ?_⟩
  rw [if_pos ⟨h2, h1⟩]
  exact List.mem_map.mpr ⟨y, List.mem_filter.mpr ⟨h3, decide_eq_true n⟩, rfl⟩
/-- a set of regions that no exit leaves has all that is connected -/
theorem closed_conn {gs : List Gt} {bar : List Str} {x y : Str} {ks : List Str} (hx : x ∈ ks) (hc : ∀ k ∈ ks, ∀ z, Adj gs bar k z → z ∈ ks) (h : Conn gs bar x y) : y ∈ ks := by
  induction h with
  | refl => exact hx
  | step _ a ih => exact hc _ ih _ a
/-- different ones among rs are at most as many -/
theorem nodup_le {α : Type} [DecidableEq α] : ∀ {ks rs : List α}, ks.Nodup → (∀ k ∈ ks, k ∈ rs) → ks.length ≤ rs.length
  | [], _, _, _ => Nat.zero_le _
  | k :: ks, rs, hn, hs => by
    have hk := hs k List.mem_cons_self
    obtain ⟨hk1, hk2⟩ := List.nodup_cons.mp hn
    have ih := nodup_le (ks := ks) (rs := rs.erase k) hk2 fun z hz => by
      have := hs z (List.mem_cons_of_mem _ hz)
      exact (List.mem_erase_of_ne (fun (e : z = k) => hk1 (e ▸ hz))).mpr this
    have := List.length_erase_of_mem hk
    have : 0 < rs.length := List.length_pos_of_mem hk
    rw [List.length_cons]
    omega
theorem inV_str (x : Str) : ∀ ss : List Str, inV (.str x) (ss.map V.str) = decide (x ∈ ss)
  | [] => by simp [inV]
  | s :: ss => by
    have ih := inV_str x ss
    unfold inV at ih ⊢
    rw [List.map_cons, List.any_cons, ih]
    by_cases h : x = s
    · subst h
      simp [eqV]
    · have : ¬ s = x := fun z => h z.symm
      simp [eqV, h, this]
theorem flat_strs : ∀ ss : List Str, (ss.map V.str).all flatV = true
  | [] => rfl
  | _ :: ss => by
    rw [List.map_cons, List.all_cons, flat_strs ss]
    rfl
theorem exits_len {gs : List Gt} {bar : List Str} {x : Str} (h : ∀ g ∈ gs, g.2.1.length ≤ 100) : (exitsL gs bar x).length ≤ gs.length * 100 := by
  induction gs with
  | nil => exact Nat.zero_le _
  | cons g gs ih =>
    have := ih fun y hy => h y (List.mem_cons_of_mem _ hy)
    have hg := h g List.mem_cons_self
    unfold exitsL at this ⊢
    rw [List.flatMap_cons, List.length_append, List.length_cons, Nat.add_mul]
    have : (if x ∈ g.2.1 ∧ g.1 ∉ bar then (g.2.1.filter fun y => decide (y ≠ x)).map fun y => (g.1, y) else []).length ≤ 100 := by
      by_cases c : x ∈ g.2.1 ∧ g.1 ∉ bar
      · rw [if_pos c, List.length_map]
        exact Nat.le_trans (List.length_filter_le _ _) hg
      · rw [if_neg c]
        exact Nat.zero_le _
    omega
theorem pair_at {α β : Type} {R : α → β → Prop} : ∀ {l : List α} {m : List β} {i : Nat} {x : α}, Paired R l m → l[i]? = some x → ∃ y, m[i]? = some y ∧ R x y
  | _, _, _, _, .nil, h => by simp at h
  | _, _, 0, _, .cons r _, h => by
    cases h
    exact ⟨_, rfl, r⟩
  | _, _, i + 1, _, .cons _ t, h => pair_at (i := i) t h
theorem pair_app {α β : Type} {R : α → β → Prop} : ∀ {l l2 : List α} {m m2 : List β}, Paired R l m → Paired R l2 m2 → Paired R (l ++ l2) (m ++ m2)
  | _, _, _, _, .nil, r => r
  | _, _, _, _, .cons r t, q => .cons r (pair_app t q)
theorem valV_mem {κ : Type} [DecidableEq κ] {k : κ} {v : V} : ∀ {kvs : List (κ × V)}, valV kvs k = some v → (k, v) ∈ kvs
  | [], h => by cases h
  | p :: r, h => by
    by_cases e : p.1 = k
    · rw [valV_pos e] at h
      cases h
      rw [← e]
      exact List.mem_cons_self
    · rw [valV_neg e] at h
      exact List.mem_cons_of_mem _ (valV_mem h)
theorem valV_some {κ : Type} [DecidableEq κ] {k : κ} : ∀ {kvs : List (κ × V)}, k ∈ kvs.map (·.1) → ∃ v, valV kvs k = some v
  | [], h => by cases h
  | p :: r, h => by
    by_cases e : p.1 = k
    · exact ⟨_, valV_pos e⟩
    · rw [valV_neg e]
      rcases List.mem_cons.mp h with h | h
      · exact absurd h.symm e
      · exact valV_some h
theorem valV_none {κ : Type} [DecidableEq κ] {k : κ} {kvs : List (κ × V)} (h : k ∉ kvs.map (·.1)) : valV kvs k = none := by
  cases e : valV kvs k with
  | none => rfl
  | some v => exact absurd (List.mem_map.mpr ⟨_, valV_mem e, rfl⟩) h
/-- the search so far: the regions that have a path, each path a tuple -/
structure Bfs (gs : List Gt) (bar rs : List Str) (one : Str) (H : Hp) (kvs : List (Key × V)) (ks : List Str) : Prop where
  keys : kvs.map (·.1) = ks.map Sum.inr
  nod : ks.Nodup
  has : one ∈ ks
  con : ∀ k ∈ ks, Conn gs bar one k ∧ k ∈ rs
  tup : ∀ p ∈ kvs, ∃ (t : Addr) (xs : List V), p.2 = .ref t ∧ H t = some (.tup xs) ∧ xs ≠ [] ∧ xs.length ≤ 2 * kvs.length
theorem Bfs.len {gs : List Gt} {bar rs : List Str} {one : Str} {H : Hp} {kvs : List (Key × V)} {ks : List Str} (h : Bfs gs bar rs one H kvs ks) : kvs.length = ks.length ∧ ks.length ≤ rs.length := by
  have := congrArg List.length h.keys
  rw [List.length_map, List.length_map] at this
  exact ⟨this, nodup_le h.nod fun k hk => (h.con k hk).2⟩
theorem Bfs.mem {gs : List Gt} {bar rs : List Str} {one k : Str} {H : Hp} {kvs : List (Key × V)} {ks : List Str} (h : Bfs gs bar rs one H kvs ks) : Sum.inr k ∈ kvs.map (·.1) ↔ k ∈ ks := by
  rw [h.keys]
  constructor
  · intro z
    obtain ⟨y, hy, e⟩ := List.mem_map.mp z
    cases e
    exact hy
  · exact fun z => List.mem_map.mpr ⟨k, z, rfl⟩
theorem Bfs.get {gs : List Gt} {bar rs : List Str} {one k : Str} {H : Hp} {kvs : List (Key × V)} {ks : List Str} (h : Bfs gs bar rs one H kvs ks) (hk : k ∈ ks) : ∃ (t : Addr) (xs : List V), valV kvs (Sum.inr k) = some (.ref t) ∧ H t = some (.tup xs) ∧ xs ≠ [] ∧ xs.length ≤ 2 * kvs.length := by
  obtain ⟨v, hv⟩ := valV_some (h.mem.mpr hk)
  obtain ⟨t, xs, e, r⟩ := h.tup _ (valV_mem hv)
  have e : v = .ref t := e
  exact ⟨t, xs, by rw [hv, e], r⟩
theorem Bfs.same {gs : List Gt} {bar rs : List Str} {one : Str} {H H' : Hp} {kvs : List (Key × V)} {ks : List Str} (h : Bfs gs bar rs one H kvs ks) (s : ∀ t xs, H t = some (.tup xs) → H' t = some (.tup xs)) : Bfs gs bar rs one H' kvs ks :=
  ⟨h.keys, h.nod, h.has, h.con, fun p hp => by
    obtain ⟨t, xs, e1, e2, e3⟩ := h.tup p hp
    exact ⟨t, xs, e1, s _ _ e2, e3⟩⟩
theorem Bfs.put {gs : List Gt} {bar rs : List Str} {one k : Str} {H : Hp} {kvs : List (Key × V)} {ks : List Str} {t : Addr} {xs : List V} (h : Bfs gs bar rs one H kvs ks) (hk : k ∉ ks) (hc : Conn gs bar one k) (hr : k ∈ rs) (ht : H t = some (.tup xs)) (hx : xs ≠ []) (hl : xs.length ≤ 2 * kvs.length + 2) :
    putK kvs (Sum.inr k) (.ref t) = kvs ++ [(Sum.inr k, .ref t)] ∧ Bfs gs bar rs one H (kvs ++ [(Sum.inr k, .ref t)]) (ks ++ [k]) := by
  refine ⟨putK_new _ (valV_none fun z => hk (h.mem.mp z)), ?_, ?_, List.mem_append_left _ h.has, fun y hy => ?_, fun p hp => ?_⟩
  · rw [List.map_append, List.map_append, h.keys]
    rfl
  · refine List.nodup_append.mpr ⟨h.nod, by simp, fun a ha b hb e => ?_⟩
    rw [List.mem_singleton.mp hb] at e
    exact hk (e ▸ ha)
  · rcases List.mem_append.mp hy with hy | hy
    · exact h.con y hy
    · rw [List.mem_singleton.mp hy]
      exact ⟨hc, hr⟩
  · rw [List.length_append]
    rcases List.mem_append.mp hp with hp | hp
    · obtain ⟨t', xs', e1, e2, e3, e4⟩ := h.tup p hp
      exact ⟨t', xs', e1, e2, e3, by simp; omega⟩
    · rw [List.mem_singleton.mp hp]
      exact ⟨t, xs, rfl, ht, hx, by simp; omega⟩
theorem ifT {c : Bool} {A B : Prop} (h : c = true) (x : A) : if c = true then A else B := by
  rw [if_pos h]
  exact x
theorem ifF {c : Bool} {A B : Prop} (h : c = false) (x : B) : if c = true then A else B := by
  rw [h, if_neg Bool.false_ne_true]
  exact x
/-- what the search hands back -/
theorem Bfs.out {gs : List Gt} {bar rs : List Str} {one other : Str} {H : Hp} {kvs : List (Key × V)} {ks far : List Str} (h : Bfs gs bar rs one H kvs ks) (hc : ∀ k ∈ ks, k ∉ far → ∀ z, Adj gs bar k z → z ∈ ks) (hd : far = [] ∨ other ∈ ks) :
    (valV kvs (Sum.inr other)).getD .non ≠ .non ↔ Conn gs bar one other := by
  by_cases ho : other ∈ ks
  · obtain ⟨t, xs, e, _⟩ := h.get ho
    rw [e]
    exact ⟨fun _ => (h.con _ ho).1, fun _ z => by cases z⟩
  · rw [valV_none fun z => ho (h.mem.mp z)]
    refine ⟨fun z => absurd rfl z, fun z => absurd (closed_conn h.has (fun k hk => ?_) z) ho⟩
    rcases hd with rfl | hd
    · exact hc k hk (by simp)
    · exact absurd hd ho
end WT

set_option Elab.async false
set_option linter.all false
namespace WT
open PySem PySem.Spec PyProof.Rows L2
/-! ### groups by labels: the mathematics -/
def labK (rs : List Str) (lab : Str → Int) : List (Key × V) := rs.map fun x => (Sum.inr x, V.int (lab x))
theorem keys_labK (rs : List Str) (lab : Str → Int) : (labK rs lab).map (·.1) = rs.map Sum.inr := by
  unfold labK
  rw [List.map_map]
  rfl
theorem val_labK {x : Str} {lab : Str → Int} : ∀ {rs : List Str}, x ∈ rs → valV (labK rs lab) (Sum.inr x) = some (.int (lab x))
  | r :: rs, h => by
    by_cases e : r = x
    · subst e
      exact valV_pos (p := (Sum.inr r, V.int (lab r))) rfl
    · have ne : ¬ (Sum.inr r : Key) = Sum.inr x := fun z => e (Sum.inr.inj z)
      have := val_labK (lab := lab) (rs := rs) ((List.mem_cons.mp h).resolve_left fun z => e z.symm)
      exact (valV_neg (p := (Sum.inr r, V.int (lab r))) ne).trans this
theorem put_labK {x : Str} {lab : Str → Int} {c : Int} {rs : List Str} (h : x ∈ rs) : putK (labK rs lab) (Sum.inr x) (.int c) = labK rs (fun z => if z = x then c else lab z) := by
  unfold putK
  rw [if_pos]
  · unfold labK
    rw [List.map_map]
    refine List.map_congr_left fun z _ => ?_
    show (if (Sum.inr z : Key) = Sum.inr x then ((Sum.inr z : Key), V.int c) else (Sum.inr z, V.int (lab z))) = (Sum.inr z, V.int (if z = x then c else lab z))
    by_cases e : z = x
    · rw [if_pos (congrArg Sum.inr e), if_pos e]
    · rw [if_neg (fun q => e (Sum.inr.inj q)), if_neg e]
  · refine List.any_eq_true.mpr ⟨(Sum.inr x, V.int (lab x)), List.mem_map.mpr ⟨x, h, rfl⟩, ?_⟩
    simp
theorem merge_labK {lab : Str → Int} : ∀ (bs as : List Str), (as ++ bs).Nodup → mergeK (labK as lab) (labK bs lab) = labK (as ++ bs) lab
  | [], as, _ => by
    rw [List.append_nil]
    rfl
  | b :: bs, as, h => by
    have h2 : (as ++ [b] ++ bs).Nodup := by
      rw [List.append_assoc]
      exact h
    have nb : b ∉ as := fun z => (List.nodup_append.mp h).2.2 b z b List.mem_cons_self rfl
    have e : putK (labK as lab) (Sum.inr b) (.int (lab b)) = labK (as ++ [b]) lab := by
      rw [putK_new _ (valV_none fun z => ?_)]
      · unfold labK
        rw [List.map_append]
        rfl
      · rw [keys_labK] at z
        obtain ⟨y, hy, q⟩ := List.mem_map.mp z
        cases q
        exact nb hy
    have := merge_labK (lab := lab) bs (as ++ [b]) h2
    rw [List.append_assoc] at this
    rw [← e] at this
    exact this
/-- the place of x -/
def idxS : List Str → Str → Int
  | [], _ => 0
  | y :: r, x => if y = x then 0 else 1 + idxS r x
theorem idxS_at : ∀ {rs : List Str} {i : Nat} {x : Str}, rs.Nodup → rs[i]? = some x → idxS rs x = i
  | [], _, _, _, h => by simp at h
  | y :: r, 0, x, _, h => by
    cases h
    simp [idxS]
  | y :: r, i + 1, x, n, h => by
    have h : r[i]? = some x := h
    have ne : y ≠ x := fun e => (List.nodup_cons.mp n).1 (e ▸ List.mem_of_getElem? h)
    rw [idxS, if_neg ne, idxS_at (List.nodup_cons.mp n).2 h]
    omega
/-- at most t steps from y -/
def ConnN (gs : List Gt) (bar : List Str) (y : Str) : Nat → Str → Prop
  | 0, x => x = y
  | t + 1, x => ∃ u, ConnN gs bar y t u ∧ (u = x ∨ Adj gs bar u x)
section
variable {gs : List Gt} {bar rs : List Str}
theorem ConnN.more {y x : Str} {t : Nat} (h : ConnN gs bar y t x) : ConnN gs bar y (t + 1) x := ⟨x, h, .inl rfl⟩
theorem ConnN.mem (hm : ∀ g ∈ gs, ∀ z ∈ g.2.1, z ∈ rs) {y : Str} (hy : y ∈ rs) : ∀ {t : Nat} {x : Str}, ConnN gs bar y t x → x ∈ rs
  | 0, x, h => by
    rw [show x = y from h]
    exact hy
  | t + 1, x, h => by
    obtain ⟨u, hu, e | a⟩ := h
    · rw [← e]
      exact hu.mem hm hy
    · obtain ⟨g, hg, _, _, hx⟩ := a
      exact hm g hg x hx
theorem connN_or (hm : ∀ g ∈ gs, ∀ z ∈ g.2.1, z ∈ rs) {y : Str} (hy : y ∈ rs) : ∀ t : Nat, (∃ ks : List Str, ks.Nodup ∧ ks.length = t + 1 ∧ ∀ k ∈ ks, ConnN gs bar y t k) ∨ ∀ x, ConnN gs bar y t x → ∀ z, Adj gs bar x z → ConnN gs bar y t z
  | 0 => .inl ⟨[y], by simp, rfl, fun k hk => List.mem_singleton.mp hk⟩
  | t + 1 => by
    rcases connN_or hm hy t with ⟨ks, h1, h2, h3⟩ | h
    · by_cases c : ∀ x, ConnN gs bar y (t + 1) x → ∀ z, Adj gs bar x z → ConnN gs bar y (t + 1) z
      · exact .inr c
      · obtain ⟨x, c⟩ := Classical.not_forall.mp c
        obtain ⟨hx, c⟩ := Classical.not_imp.mp c
        obtain ⟨z, c⟩ := Classical.not_forall.mp c
        obtain ⟨a, nz⟩ := Classical.not_imp.mp c
        refine .inl ⟨x :: ks, List.nodup_cons.mpr ⟨fun hk => nz ⟨x, h3 x hk, .inr a⟩, h1⟩, by rw [List.length_cons, h2], fun k hk => ?_⟩
        rcases List.mem_cons.mp hk with rfl | hk
        · exact hx
        · exact (h3 k hk).more
    · refine .inr fun x hx z a => ?_
      obtain ⟨u, hu, e | b⟩ := hx
      · subst e
        exact (h u hu z a).more
      · exact (h x (h u hu x b) z a).more
theorem connN_all (hm : ∀ g ∈ gs, ∀ z ∈ g.2.1, z ∈ rs) {y x : Str} (hy : y ∈ rs) (h : Conn gs bar y x) : ConnN gs bar y rs.length x := by
  have up : ∀ t, ConnN gs bar y t y := fun t => by
    induction t with
    | zero => rfl
    | succ t ih => exact ih.more
  rcases connN_or (bar := bar) hm hy rs.length with ⟨ks, h1, h2, h3⟩ | c
  · have := nodup_le h1 fun k hk => (h3 k hk).mem hm hy
    omega
  · induction h with
    | refl => exact up _
    | step _ a ih => exact c _ ih _ a
/-- each label is the place of a connected region -/
def Lab (gs : List Gt) (bar rs : List Str) (lab : Str → Int) : Prop := ∀ x ∈ rs, ∃ (i : Nat) (y : Str), rs[i]? = some y ∧ lab x = (i : Int) ∧ Conn gs bar x y
theorem Lab.conn {lab : Str → Int} (L : Lab gs bar rs lab) {x y : Str} (hx : x ∈ rs) (hy : y ∈ rs) (e : lab x = lab y) : Conn gs bar x y := by
  obtain ⟨i, u, h1, h2, h3⟩ := L x hx
  obtain ⟨j, v, k1, k2, k3⟩ := L y hy
  have : i = j := by omega
  subst this
  rw [h1] at k1
  cases k1
  exact h3.trans k3.symm
theorem lab_first (nd : rs.Nodup) : Lab gs bar rs (idxS rs) := fun x hx => by
  obtain ⟨i, hi, e⟩ := List.getElem_of_mem hx
  have : rs[i]? = some x := by rw [List.getElem?_eq_getElem hi, e]
  exact ⟨i, x, this, idxS_at nd this, .refl⟩
/-- what t steps reach is not below -/
def LowL (gs : List Gt) (bar rs : List Str) (t : Nat) (lab : Str → Int) : Prop := ∀ x ∈ rs, ∀ (i : Nat) (y : Str), rs[i]? = some y → ConnN gs bar y t x → lab x ≤ (i : Int)
theorem low_first (nd : rs.Nodup) : LowL gs bar rs 0 (idxS rs) := fun x hx i y hy h => by
  have e : x = y := h
  subst e
  rw [idxS_at nd hy]
  exact Int.le_refl _
/-- within one gateway -/
structure Mid (gs : List Gt) (bar rs ms : List Str) (lab0 : Str → Int) (least : Int) (i : Nat) (lab : Str → Int) : Prop where
  lb : Lab gs bar rs lab
  le : ∀ x ∈ rs, lab x ≤ lab0 x
  low : ∀ m ∈ ms, least ≤ lab m
  dn : ∀ m ∈ ms, m ∈ rs.take i → lab m ≤ least
theorem Mid.hit {ms : List Str} {lab0 lab : Str → Int} {least : Int} {i : Nat} {g : Gt} (M : Mid gs bar rs ms lab0 least i lab) (hm : ∀ m ∈ ms, m ∈ rs) (hg : g ∈ gs) (hb : g.1 ∉ bar) (em : g.2.1 = ms) (L0 : Lab gs bar rs lab0) {m0 : Str} (h0 : m0 ∈ ms) (e0 : least = lab0 m0)
    {x : Str} (hx : rs[i]? = some x) {o : Str} (ho : o ∈ ms) (e : lab x = lab o) : Mid gs bar rs ms lab0 least (i + 1) (fun z => if z = x then least else lab z) := by
  have xr : x ∈ rs := List.mem_of_getElem? hx
  have con : Conn gs bar x m0 := (M.lb.conn xr (hm o ho) e).step ⟨g, hg, hb, em ▸ ho, em ▸ h0⟩
  refine ⟨fun z hz => ?_, fun z hz => ?_, fun m hm' => ?_, fun m hm' ht => ?_⟩
  · show ∃ (i : Nat) (y : Str), rs[i]? = some y ∧ (if z = x then least else lab z) = (i : Int) ∧ Conn gs bar z y
    by_cases c : z = x
    · rw [if_pos c, c, e0]
      obtain ⟨j, y, h1, h2, h3⟩ := L0 m0 (hm m0 h0)
      exact ⟨j, y, h1, h2, con.trans h3⟩
    · rw [if_neg c]
      exact M.lb z hz
  · show (if z = x then least else lab z) ≤ lab0 z
    by_cases c : z = x
    · rw [if_pos c, c]
      exact Int.le_trans (M.low o ho) (e ▸ M.le x xr)
    · rw [if_neg c]
      exact M.le z hz
  · show least ≤ (if m = x then least else lab m)
    by_cases c : m = x
    · rw [if_pos c]
      exact Int.le_refl _
    · rw [if_neg c]
      exact M.low m hm'
  · show (if m = x then least else lab m) ≤ least
    by_cases c : m = x
    · rw [if_pos c]
      exact Int.le_refl _
    · rw [if_neg c]
      rw [List.take_add_one, hx] at ht
      rcases List.mem_append.mp ht with ht | ht
      · exact M.dn m hm' ht
      · exact absurd (by simpa using ht) c
theorem Mid.miss {ms : List Str} {lab0 lab : Str → Int} {least : Int} {i : Nat} (M : Mid gs bar rs ms lab0 least i lab) {x : Str} (hx : rs[i]? = some x) (no : x ∉ ms) : Mid gs bar rs ms lab0 least (i + 1) lab :=
  ⟨M.lb, M.le, M.low, fun m hm ht => by
    rw [List.take_add_one, hx] at ht
    rcases List.mem_append.mp ht with ht | ht
    · exact M.dn m hm ht
    · have : m = x := by simpa using ht
      exact absurd (this ▸ hm) no⟩
/-- within one turn -/
structure Pass (gs : List Gt) (bar rs : List Str) (labT : Str → Int) (j : Nat) (lab : Str → Int) : Prop where
  lb : Lab gs bar rs lab
  le : ∀ x ∈ rs, lab x ≤ labT x
  ad : ∀ g ∈ gs.take j, g.1 ∉ bar → ∀ u ∈ g.2.1, ∀ v ∈ g.2.1, lab v ≤ labT u
theorem pass_first {labT : Str → Int} (L : Lab gs bar rs labT) : Pass gs bar rs labT 0 labT := ⟨L, fun _ _ => Int.le_refl _, fun g hg => nomatch hg⟩
theorem Pass.skip {labT lab : Str → Int} {j : Nat} {g : Gt} (P : Pass gs bar rs labT j lab) (hg : gs[j]? = some g) (hb : g.1 ∈ bar) : Pass gs bar rs labT (j + 1) lab :=
  ⟨P.lb, P.le, fun g' h' nb => by
    rw [List.take_add_one, hg] at h'
    rcases List.mem_append.mp h' with h' | h'
    · exact P.ad g' h' nb
    · have : g' = g := by simpa using h'
      exact absurd (this ▸ hb) nb⟩
theorem Pass.take {labT lab lab2 : Str → Int} {least : Int} {j : Nat} {g : Gt} (P : Pass gs bar rs labT j lab) (hm : ∀ g ∈ gs, ∀ z ∈ g.2.1, z ∈ rs) (hg : gs[j]? = some g) (hl : ∀ m ∈ g.2.1, least ≤ lab m) (M : Mid gs bar rs g.2.1 lab least rs.length lab2) : Pass gs bar rs labT (j + 1) lab2 :=
  ⟨M.lb, fun x hx => Int.le_trans (M.le x hx) (P.le x hx), fun g' h' nb u hu v hv => by
    rw [List.take_add_one, hg] at h'
    rcases List.mem_append.mp h' with h' | h'
    · exact Int.le_trans (M.le v (hm g' (List.mem_of_mem_take h') v hv)) (P.ad g' h' nb u hu v hv)
    · have : g' = g := by simpa using h'
      subst this
      have gm : g' ∈ gs := List.mem_of_getElem? hg
      have := M.dn v hv (by rw [List.take_length]; exact hm g' gm v hv)
      exact Int.le_trans this (Int.le_trans (hl u hu) (P.le u (hm g' gm u hu)))⟩
theorem Pass.low {labT lab : Str → Int} {t : Nat} (P : Pass gs bar rs labT gs.length lab) (hm : ∀ g ∈ gs, ∀ z ∈ g.2.1, z ∈ rs) (L : LowL gs bar rs t labT) : LowL gs bar rs (t + 1) lab := fun x hx i y hy h => by
  obtain ⟨u, hu, e | a⟩ := h
  · subst e
    exact Int.le_trans (P.le u hx) (L u hx i y hy hu)
  · obtain ⟨g, hg, nb, h1, h2⟩ := a
    exact Int.le_trans (P.ad g (by rw [List.take_length]; exact hg) nb u h1 x h2) (L u (hm g hg u h1) i y hy hu)
theorem lab_iff {lab : Str → Int} (hm : ∀ g ∈ gs, ∀ z ∈ g.2.1, z ∈ rs) (L : Lab gs bar rs lab) (W : LowL gs bar rs rs.length lab) {x y : Str} (hx : x ∈ rs) (hy : y ∈ rs) : lab x = lab y ↔ Conn gs bar x y := by
  refine ⟨L.conn hx hy, fun c => ?_⟩
  obtain ⟨i, u, h1, h2, h3⟩ := L x hx
  obtain ⟨j, v, k1, k2, k3⟩ := L y hy
  have a := W x hx j v k1 (connN_all hm (List.mem_of_getElem? k1) (k3.symm.trans c.symm))
  have b := W y hy i u h1 (connN_all hm (List.mem_of_getElem? h1) (h3.symm.trans c))
  omega
end
end WT

set_option Elab.async false
set_option linter.all false
namespace WT
open PySem PySem.Spec PyProof.Rows L2
/-! ### paths: connected regions have one in which no region and no gateway comes twice -/
def Step (gs : List Gt) (bar : List Str) (x n z : Str) : Prop := ∃ g ∈ gs, g.1 = n ∧ n ∉ bar ∧ x ∈ g.2.1 ∧ z ∈ g.2.1
inductive SPath (gs : List Gt) (bar : List Str) : Str → List (Str × Str) → Str → Prop
  | nil (x : Str) : SPath gs bar x [] x
  | cons {x n z y : Str} {l : List (Str × Str)} : Step gs bar x n z → SPath gs bar z l y → SPath gs bar x ((n, z) :: l) y
section
variable {gs : List Gt} {bar : List Str}
theorem SPath.app {x z y : Str} {l m : List (Str × Str)} (h : SPath gs bar x l z) (k : SPath gs bar z m y) : SPath gs bar x (l ++ m) y := by
  induction h with
  | nil => exact k
  | cons s _ ih => exact .cons s (ih k)
theorem SPath.split {y : Str} {m : List (Str × Str)} : ∀ {l : List (Str × Str)} {x : Str}, SPath gs bar x (l ++ m) y → ∃ z, SPath gs bar x l z ∧ SPath gs bar z m y
  | [], x, h => ⟨x, .nil x, h⟩
  | (n, z) :: l, x, h => by
    cases h with
    | cons s t =>
      obtain ⟨u, h1, h2⟩ := SPath.split t
      exact ⟨u, .cons s h1, h2⟩
theorem SPath.end_ {x y : Str} {l : List (Str × Str)} (h : SPath gs bar x l y) : y = (l.map (·.2)).getLastD x := by
  induction h with
  | nil => rfl
  | @cons x n z y l s t ih =>
    rw [ih]
    cases l with
    | nil => rfl
    | cons p l => rfl
theorem SPath.conn {x y : Str} {l : List (Str × Str)} (h : SPath gs bar x l y) : Conn gs bar x y := by
  induction h with
  | nil => exact .refl
  | cons s _ ih =>
    obtain ⟨g, hg, rfl, hb, h1, h2⟩ := s
    exact (Conn.refl.step ⟨g, hg, hb, h1, h2⟩).trans ih
theorem Conn.path {x y : Str} (h : Conn gs bar x y) : ∃ l, SPath gs bar x l y := by
  induction h with
  | refl => exact ⟨[], .nil _⟩
  | step _ a ih =>
    obtain ⟨l, hl⟩ := ih
    obtain ⟨g, hg, hb, h1, h2⟩ := a
    exact ⟨l ++ [(g.1, _)], hl.app (.cons ⟨g, hg, rfl, hb, h1, h2⟩ (.nil _))⟩
theorem twice {α : Type} [DecidableEq α] : ∀ {l : List α}, ¬ l.Nodup → ∃ a l1 l2 l3, l = l1 ++ a :: (l2 ++ a :: l3)
  | [], h => absurd List.nodup_nil h
  | a :: l, h => by
    by_cases c : a ∈ l
    · obtain ⟨s, t, rfl⟩ := List.append_of_mem c
      exact ⟨a, [], s, t, rfl⟩
    · obtain ⟨b, l1, l2, l3, rfl⟩ := twice fun z => h (List.nodup_cons.mpr ⟨c, z⟩)
      exact ⟨b, a :: l1, l2, l3, rfl⟩
/-- a list of pairs cut where the mapped list is cut -/
theorem cut_map {α β : Type} {f : α → β} {b : β} : ∀ {l : List α} {l1 r : List β}, l.map f = l1 ++ b :: r → ∃ m1 a m2, l = m1 ++ a :: m2 ∧ m1.map f = l1 ∧ f a = b ∧ m2.map f = r
  | [], l1, r, h => by
    cases l1 <;> simp at h
  | x :: l, [], r, h => by
    simp at h
    exact ⟨[], x, l, rfl, rfl, h.1, h.2⟩
  | x :: l, y :: l1, r, h => by
    simp at h
    obtain ⟨m1, a, m2, rfl, h2, h3, h4⟩ := cut_map h.2
    exact ⟨x :: m1, a, m2, rfl, by rw [List.map_cons, h2, h.1], h3, h4⟩
/-- names are not used twice: a gateway is known by its name -/
theorem by_name (nd : (gs.map (·.1)).Nodup) {g g' : Gt} (h : g ∈ gs) (h' : g' ∈ gs) (e : g.1 = g'.1) : g = g' := by
  induction gs with
  | nil => cases h
  | cons a gs ih =>
    rw [List.map_cons] at nd
    obtain ⟨n1, n2⟩ := List.nodup_cons.mp nd
    rcases List.mem_cons.mp h with h2 | h2
    · rcases List.mem_cons.mp h' with h3 | h3
      · rw [h2, h3]
      · exact absurd (List.mem_map.mpr ⟨g', h3, by rw [← e, h2]⟩) n1
    · rcases List.mem_cons.mp h' with h3 | h3
      · exact absurd (List.mem_map.mpr ⟨g, h2, by rw [e, h3]⟩) n1
      · exact ih n2 h2 h3
theorem simple_of (nd : (gs.map (·.1)).Nodup) {x y : Str} : ∀ (k : Nat) (l : List (Str × Str)), l.length = k → SPath gs bar x l y → ∃ m, SPath gs bar x m y ∧ (x :: m.map (·.2)).Nodup ∧ (m.map (·.1)).Nodup := by
  intro k
  induction k using Nat.strongRecOn with
  | ind k ih =>
    intro l hl hp
    by_cases h1 : (x :: l.map (·.2)).Nodup
    · by_cases h2 : (l.map (·.1)).Nodup
      · exact ⟨l, hp, h1, h2⟩
      · obtain ⟨n, l1, l2, l3, e⟩ := twice h2
        obtain ⟨m1, p, r, rfl, e1, e2, e3⟩ := cut_map e
        obtain ⟨m2, p', m3, rfl, e4, e5, e6⟩ := cut_map e3
        obtain ⟨u, hu, hr⟩ := hp.split
        obtain ⟨n1, z1⟩ := p
        obtain ⟨n2, z2⟩ := p'
        cases hr with
        | cons s1 t1 =>
          obtain ⟨v, hv, hr2⟩ := t1.split
          cases hr2 with
          | cons s2 t2 =>
            obtain ⟨g1, hg1, a1, b1, c1, d1⟩ := s1
            obtain ⟨g2, hg2, a2, b2, c2, d2⟩ := s2
            have en : n1 = n2 := by
              have e2 : n1 = n := e2
              have e5 : n2 = n := e5
              rw [e2, e5]
            have eg : g1 = g2 := by_name nd hg1 hg2 (by rw [a1, a2, en])
            subst eg
            refine ih _ ?_ (m1 ++ (n1, z2) :: m3) rfl (hu.app (.cons ⟨g1, hg1, a1, b1, c1, d2⟩ t2))
            simp at hl ⊢
            omega
    · obtain ⟨z, l1, l2, l3, e⟩ := twice h1
      cases l1 with
      | nil =>
        rw [List.nil_append] at e
        obtain ⟨ex, er⟩ := List.cons.inj e
        subst ex
        obtain ⟨m1, p, m2, rfl, e1, e2, e3⟩ := cut_map er
        obtain ⟨n1, z1⟩ := p
        have e2 : z1 = x := e2
        subst e2
        obtain ⟨u, hu, hr⟩ := hp.split
        cases hr with
        | cons s1 t1 =>
          refine ih _ ?_ m2 rfl t1
          simp at hl
          omega
      | cons a l1 =>
        obtain ⟨_, er⟩ := List.cons.inj e
        obtain ⟨m1, p, r, rfl, e1, e2, e3⟩ := cut_map er
        obtain ⟨m2, p', m3, rfl, e4, e5, e6⟩ := cut_map e3
        obtain ⟨n1, z1⟩ := p
        obtain ⟨n2, z2⟩ := p'
        have e2 : z1 = z := e2
        have e5 : z2 = z := e5
        obtain ⟨u, hu, hr⟩ := hp.split
        cases hr with
        | cons s1 t1 =>
          obtain ⟨v, hv, hr2⟩ := t1.split
          cases hr2 with
          | cons s2 t2 =>
            refine ih _ ?_ (m1 ++ (n1, z1) :: m3) rfl (hu.app (.cons s1 (by rw [e2, ← e5]; exact t2)))
            simp at hl ⊢
            omega
/-- connected regions have a path in which nothing comes twice -/
theorem Conn.simple (nd : (gs.map (·.1)).Nodup) {x y : Str} (h : Conn gs bar x y) : ∃ m, SPath gs bar x m y ∧ (x :: m.map (·.2)).Nodup ∧ (m.map (·.1)).Nodup := by
  obtain ⟨l, hl⟩ := h.path
  exact simple_of nd l.length l rfl hl
end
end WT

set_option Elab.async false
set_option linter.all false
namespace WT
open PySem PySem.Spec PyProof.Rows L2
/-! ### the search through all paths: its steps, its measure, that it misses none -/
def lastOf (one : Str) (l : List (Str × Str)) : Str := (l.map (·.2)).getLastD one
def kidsOf (bar : List Str) (one : Str) (l : List (Str × Str)) (g : Gt) : List (List (Str × Str)) :=
  if lastOf one l ∈ g.2.1 ∧ g.1 ∉ l.map (·.1) ∧ g.1 ∉ bar then (g.2.1.filter fun z => decide (z ∉ one :: l.map (·.2))).map fun z => l ++ [(g.1, z)] else []
def kids (gs : List Gt) (bar : List Str) (one : Str) (l : List (Str × Str)) : List (List (Str × Str)) := gs.flatMap (kidsOf bar one l)
/-- a path in which nothing comes twice -/
structure GoodP (gs : List Gt) (bar rs : List Str) (one : Str) (l : List (Str × Str)) : Prop where
  path : ∃ z, SPath gs bar one l z
  reg : (one :: l.map (·.2)).Nodup
  gat : (l.map (·.1)).Nodup
  sub : ∀ z ∈ l.map (·.2), z ∈ rs
section
variable {gs : List Gt} {bar rs : List Str} {one : Str}
theorem GoodP.last {l : List (Str × Str)} (h : GoodP gs bar rs one l) : SPath gs bar one l (lastOf one l) := by
  obtain ⟨z, hz⟩ := h.path
  rw [hz.end_] at hz
  exact hz
theorem GoodP.len {l : List (Str × Str)} (h : GoodP gs bar rs one l) (ho : one ∈ rs) : l.length + 1 ≤ rs.length := by
  have := nodup_le (rs := rs) h.reg fun z hz => by
    rcases List.mem_cons.mp hz with e | hz
    · rw [e]
      exact ho
    · exact h.sub z hz
  rw [List.length_cons, List.length_map] at this
  exact this
theorem lastOf_snoc (l : List (Str × Str)) (n z : Str) : lastOf one (l ++ [(n, z)]) = z := by
  unfold lastOf
  rw [List.map_append]
  simp
theorem kids_good {l k : List (Str × Str)} (hm : ∀ g ∈ gs, ∀ z ∈ g.2.1, z ∈ rs) (h : GoodP gs bar rs one l) (hk : k ∈ kids gs bar one l) : GoodP gs bar rs one k ∧ k.length = l.length + 1 := by
  obtain ⟨g, hg, hk⟩ := List.mem_flatMap.mp hk
  unfold kidsOf at hk
  by_cases c : lastOf one l ∈ g.2.1 ∧ g.1 ∉ l.map (·.1) ∧ g.1 ∉ bar
  · rw [if_pos c] at hk
    obtain ⟨z, hz, rfl⟩ := List.mem_map.mp hk
    obtain ⟨z1, z2⟩ := List.mem_filter.mp hz
    have z2 : z ∉ one :: l.map (·.2) := of_decide_eq_true z2
    refine ⟨⟨⟨z, h.last.app (.cons ⟨g, hg, rfl, c.2.2, c.1, z1⟩ (.nil z))⟩, ?_, ?_, ?_⟩, by simp⟩
    · rw [List.map_append, ← List.cons_append]
      refine List.nodup_append.mpr ⟨h.reg, by simp, fun a ha b hb e => ?_⟩
      have hb : b = z := by simpa using hb
      exact z2 (hb ▸ e ▸ ha)
    · rw [List.map_append]
      refine List.nodup_append.mpr ⟨h.gat, by simp, fun a ha b hb e => ?_⟩
      have hb : b = g.1 := by simpa using hb
      exact c.2.1 (hb ▸ e ▸ ha)
    · intro y hy
      rw [List.map_append] at hy
      rcases List.mem_append.mp hy with hy | hy
      · exact h.sub y hy
      · have : y = z := by simpa using hy
        rw [this]
        exact hm g hg z z1
  · rw [if_neg c] at hk
    cases hk
/-- a path that goes on has its next step among the kids -/
theorem kids_has {l r : List (Str × Str)} {n z : Str} (h : GoodP gs bar rs one (l ++ (n, z) :: r)) : l ++ [(n, z)] ∈ kids gs bar one l := by
  obtain ⟨y, hy⟩ := h.path
  obtain ⟨u, h1, h2⟩ := hy.split
  cases h2 with
  | cons s t =>
    obtain ⟨g, hg, rfl, hb, c1, c2⟩ := s
    refine List.mem_flatMap.mpr ⟨g, hg, ?_⟩
    have eu : lastOf one l = u := by
      unfold lastOf
      exact h1.end_.symm
    have r1 := h.reg
    have r2 := h.gat
    rw [List.map_append, ← List.cons_append] at r1
    rw [List.map_append] at r2
    unfold kidsOf
    rw [if_pos ⟨by rw [eu]; exact c1, fun q => (List.nodup_append.mp r2).2.2 _ q g.1 (by simp) rfl, hb⟩]
    exact List.mem_map.mpr ⟨z, List.mem_filter.mpr ⟨c2, decide_eq_true fun q => (List.nodup_append.mp r1).2.2 _ q z (by simp) rfl⟩, rfl⟩
theorem kids_len (hl : ∀ g ∈ gs, g.2.1.length ≤ 100) (l : List (Str × Str)) : (kids gs bar one l).length ≤ gs.length * 100 := by
  unfold kids
  induction gs with
  | nil => exact Nat.zero_le _
  | cons g gs ih =>
    have a := ih fun y hy => hl y (List.mem_cons_of_mem _ hy)
    have b : (kidsOf bar one l g).length ≤ 100 := by
      unfold kidsOf
      by_cases c : lastOf one l ∈ g.2.1 ∧ g.1 ∉ l.map (·.1) ∧ g.1 ∉ bar
      · rw [if_pos c, List.length_map]
        exact Nat.le_trans (List.length_filter_le _ _) (hl g List.mem_cons_self)
      · rw [if_neg c]
        exact Nat.zero_le _
    rw [List.flatMap_cons, List.length_append, List.length_cons, Nat.add_mul]
    omega
/-- the weight of what waits -/
def weigh (M R : Nat) (ls : List (List (Str × Str))) : Nat := (ls.map fun l => (M + 1) ^ (R - l.length)).sum
theorem weigh_app (M R : Nat) (a b : List (List (Str × Str))) : weigh M R (a ++ b) = weigh M R a + weigh M R b := by
  unfold weigh
  rw [List.map_append, List.sum_append]
theorem weigh_same (M R k : Nat) : ∀ ls : List (List (Str × Str)), (∀ l ∈ ls, l.length = k) → weigh M R ls = ls.length * (M + 1) ^ (R - k)
  | [], _ => by simp [weigh]
  | l :: ls, h => by
    have ih := weigh_same M R k ls fun x hx => h x (List.mem_cons_of_mem _ hx)
    unfold weigh at ih ⊢
    rw [List.map_cons, List.sum_cons, ih, h l List.mem_cons_self, List.length_cons, Nat.add_mul]
    omega
/-- the kids weigh less -/
theorem weigh_kids {l : List (Str × Str)} {M : Nat} (hm : ∀ g ∈ gs, ∀ z ∈ g.2.1, z ∈ rs) (ho : one ∈ rs) (h : GoodP gs bar rs one l) (hM : (kids gs bar one l).length ≤ M) : weigh M rs.length (kids gs bar one l) < weigh M rs.length [l] := by
  rw [weigh_same M rs.length (l.length + 1) _ fun k hk => (kids_good hm h hk).2]
  have hl := h.len ho
  have e : weigh M rs.length [l] = (M + 1) ^ (rs.length - l.length) := by simp [weigh]
  rw [e, show rs.length - l.length = (rs.length - (l.length + 1)) + 1 by omega, Nat.pow_succ]
  have p : 0 < (M + 1) ^ (rs.length - (l.length + 1)) := Nat.pow_pos (Nat.succ_pos M)
  calc (kids gs bar one l).length * (M + 1) ^ (rs.length - (l.length + 1)) ≤ M * (M + 1) ^ (rs.length - (l.length + 1)) := Nat.mul_le_mul_right _ hM
    _ < (M + 1) * (M + 1) ^ (rs.length - (l.length + 1)) := Nat.mul_lt_mul_of_pos_right (Nat.lt_succ_self M) p
    _ = (M + 1) ^ (rs.length - (l.length + 1)) * (M + 1) := Nat.mul_comm _ _
end
end WT

set_option Elab.async false
set_option linter.all false
set_option maxRecDepth 100000
set_option maxHeartbeats 4000000
/-! t[lo:hi:st] of a tuple, st neither 0 nor 1. -/
namespace WT
open PySem PySem.Spec PyProof.Rows L2 HT
/-- the items that a stepped slice picks -/
def stepL {α : Type} (xs : List α) (lo hi : Option Int) (st : Int) : List α :=
  (List.range (Builtin.Slice.slicePlaces (Builtin.Slice.sliceAdjust lo hi st (xs.length : Int)).1 (Builtin.Slice.sliceAdjust lo hi st (xs.length : Int)).2 st)).filterMap fun (m : Nat) => xs[((Builtin.Slice.sliceAdjust lo hi st (xs.length : Int)).1 + (m : Int) * st).toNat]?
theorem vals_pick {xs : List V} {us : List Value} (r : Vals xs us) (f : Nat → Nat) : ∀ is : List Nat, Vals (is.filterMap fun m => xs[f m]?) (is.filterMap fun m => us[f m]?)
  | [] => .nil
  | i :: is => by
    have ih := vals_pick r f is
    cases e : xs[f i]? with
    | none =>
      have e2 : us[f i]? = none := by
        rw [List.getElem?_eq_none_iff] at e ⊢
        have := Vals.length r
        omega
      simp only [List.filterMap_cons, e, e2]
      exact ih
    | some x =>
      obtain ⟨u, hu, ru⟩ := r.get e
      simp only [List.filterMap_cons, e, hu]
      exact .cons ru ih
theorem vals_step {xs : List V} {us : List Value} (r : Vals xs us) (lo hi : Option Int) (st : Int) : Vals (stepL xs lo hi st) (stepL us lo hi st) := by
  unfold stepL
  rw [← Vals.length r]
  exact vals_pick r _ _
section
variable {prog : Program} {w : World} {A : Around} {E : Value → Shared → Prop} {s : Shared}
theorem applied_step {sl : Addr} {vl vu : Value} {lo hi : Option Int} {st : Int} {tk : Tok} {n : Nat} {Q : Int × Int × Nat → Shared → Prop} (hs : s.heap.IsSliceOf sl vl vu (.int st tk)) (pl : IsPart vl lo) (pu : IsPart vu hi) (h0 : st ≠ 0)
    (h : Q ((Builtin.Slice.sliceAdjust lo hi st (n : Int)).1, st, Builtin.Slice.slicePlaces (Builtin.Slice.sliceAdjust lo hi st (n : Int)).1 (Builtin.Slice.sliceAdjust lo hi st (n : Int)).2 st) s) : wpAny (model prog w) A (Builtin.Slice.sliceApplied (.ref sl) (pure (n : Int))) Q E s := by
  obtain ⟨ob, hob, hcl, hdt⟩ := id hs
  unfold Builtin.Slice.sliceApplied Builtin.Slice.sliceFields
  refine wpAny_bind (wpAny_bind (wpAny_field hob hdt (x := vl) rfl (wpAny_bind (wpAny_field hob hdt (x := vu) rfl (wpAny_bind (wpAny_field hob hdt (x := .int st tk) rfl (wpAny_pure ?_)))))))
  refine wpAny_bind (slicePart_int ?_)
  show wpAny _ _ (if (st == 0) = true then _ else _) _ _ s
  rw [if_neg (by simpa using h0)]
  refine wpAny_bind (slicePart_ pl (wpAny_bind (slicePart_ pu (wpAny_bind (wpAny_pure ?_)))))
  exact wpAny_pure h
theorem getItem_step {t sl : Addr} {us : List Value} {vl vu : Value} {lo hi : Option Int} {st : Int} {tk : Tok} {Q : Value → Shared → Prop} (ht : IsTup s.heap t us.toArray) (hs : s.heap.IsSliceOf sl vl vu (.int st tk)) (pl : IsPart vl lo) (pu : IsPart vu hi) (h0 : st ≠ 0) (h1 : st ≠ 1)
    (h : Q (.ref s.heap.objs.size) { s with heap := s.heap.push { cls := .type "tuple", data := .seq (stepL us lo hi st).toArray } }) (hsz : (stepL us lo hi st).length ≤ sizeLine) : wpAny (model prog w) A (getItem (.ref t) (.ref sl)) Q E s := by
  have hok : sizeOk (.seq (stepL us lo hi st).toArray) := by
    show (stepL us lo hi st).toArray.size ≤ sizeLine
    rw [List.size_toArray]
    exact hsz
  obtain ⟨ob, hob, hcl, hdt⟩ := id hs
  have hT : s.TypeIs (.ref sl) "slice" := ⟨ob, hob, hcl⟩
  unfold getItem
  try with_reducible refine wpAny_holding ?_
  first | refine wpAny_bind (wpAny_pure ?_) | skip
  refine wpAny_bind (wpAny_sequenceKey ht.typeIs (by decide) ?_)
  refine wpAny_bind (wpAny_callSpecial?_slot (name := Str.ofString "__getitem__") ht.typeIs PyProof.Rows.slot_tuple_getitem (wpAny_call_entry PyProof.Rows.slot_tuple_getitem ht.typeIs entry_tuple_getitem ?_ (args_tuple_getitem _ _)))
  show wpAny _ _ (Builtin.Tuple.tupleItemsOf (.ref t) >>= _) _ _ s
  refine wpAny_bind (tupleItemsOf_ ht (wpAny_bind (wpAny_typeOf hT ?_)))
  rw [if_pos (by decide)]
  refine wpAny_bind (applied_step (n := us.toArray.size) hs pl pu h0 ?_)
  have no1 : (st == (1 : Int)) = false := by simpa using h1
  show wpAny _ _ (if (_ && st == 1 && _) = true then _ else _) _ _ s
  rw [no1, Bool.and_false, Bool.false_and, if_neg Bool.false_ne_true]
  have ep : ((List.range (Builtin.Slice.slicePlaces (Builtin.Slice.sliceAdjust lo hi st (us.toArray.size : Int)).1 (Builtin.Slice.sliceAdjust lo hi st (us.toArray.size : Int)).2 st)).filterMap fun (m : Nat) => us.toArray[((Builtin.Slice.sliceAdjust lo hi st (us.toArray.size : Int)).1 + (m : Int) * st).toNat]?).toArray = (stepL us lo hi st).toArray := by
    unfold stepL
    rw [List.size_toArray]
    simp
  rw [ep]
  first
    | exact wpAny_bind (m := Builtin.Tuple.tupleExact _) (wpAny_newObj_type (wpAny_pure ⟨_, rfl, wpAny_pure h⟩) hok)
    | exact wpAny_bind (m := Builtin.Tuple.tupleExact _) (wpAny_newObj_type (wpAny_bind (wpAny_pure (wpAny_pure ⟨_, rfl, wpAny_pure h⟩))) hok)
    | exact wpAny_bind (wpAny_bind (m := Builtin.Tuple.tupleExact _) (wpAny_newObj_type (wpAny_pure (wpAny_pure ⟨_, rfl, wpAny_pure h⟩)) hok))
    | exact wpAny_bind (wpAny_bind (m := Builtin.Tuple.tupleExact _) (wpAny_newObj_type (wpAny_pure ⟨_, rfl, wpAny_pure h⟩) hok))
end
section
variable {X : Cx}
/-- t[lo:hi:st] -/
def tSl3 (K : PySem.W.Frag) (st : Int) (te : TE) (tl th : TO) (tst : TE) : TE := fun σ H Q => te σ H fun x H1 => tl σ H1 fun l H2 => th σ H2 fun u H3 => tst σ H3 fun z H4 => ∃ a xs, z = .int st ∧ x = .ref a ∧ SqT K H4 a xs ∧ (stepL xs l u st).length ≤ sizeLine ∧ ∀ p, H4 p = none → Q (.ref p) (upd H4 p (.tup (stepL xs l u st)))
theorem pe_slice3 {e est : Expr} {lo hi : Option Expr} {te tst : TE} {tl th : TO} {p2 pos : Pos} (st : Int) (h0 : st ≠ 0) (h1 : st ≠ 1) (he : PE X e te) (hl : PO X lo tl) (hu : PO X hi th) (hst : PE X est tst) : PE X (.Subscript e (.Slice lo hi (some est) p2) pos) (tSl3 X.K st te tl th tst) := by
  refine ⟨fun pins s σ H Q I h => Subscript_ (thn (he.run pins s σ H _ I h) fun v s1 ⟨x, H1, I1, r1, q1⟩ => wpAny_Slice (thn (hl.run pins s1 σ H1 _ I1 q1) fun vl s2 ⟨l, H2, I2, pl, q2⟩ => thn (hu.run pins s2 σ H2 _ I2 q2) fun vu s3 ⟨u, H3, I3, pu, q3⟩ => ?_))⟩
  rw [evalPart_some]
  refine thn (hst.run pins s3 σ H3 _ I3 q3) fun vz s4 ⟨z, H4, I4, r4, q4⟩ => ?_
  obtain ⟨a, xs, rfl, rfl, hx, hz, q⟩ := q4
  obtain ⟨tk, rfl⟩ := r4
  cases r1
  have I5 : Inv X pins σ H4 { s4 with heap := s4.heap.push { cls := .type "slice", data := .fields #[vl, vu, .int st tk] } } := I4.kept (t' := s4.toks) fun b ob z => Heap.get?_push_of_some _ z
  obtain ⟨us, ru, ht, _⟩ := I5.tuple hx
  have rs := vals_step ru l u st
  show wpAny (model X.prog X.w) X.A (subscriptTail e (.Slice lo hi (some est) p2) (.ref a) (.ref s4.heap.objs.size)) (EP X pins σ Q) X.xe { s4 with heap := s4.heap.push { cls := .type "slice", data := .fields #[vl, vu, .int st tk] } }
  refine tail_any (ops := [.ref a, .ref s4.heap.objs.size]) ht.typeIs PyProof.Rows.slot_tuple_getitem.lookup (getItem_step ht (Heap.IsSliceOf.new ..) pl pu h0 h1 ?_ (by rw [← Vals.length rs]; exact hz)) (by with_unfolding_all rfl)
  exact ⟨.ref _, upd H4 _ (.tup (stepL xs l u st)), I5.laid (t' := s4.toks) (fun b o e => Heap.get?_push_of_some _ e) (Nat.le_refl _) ⟨hz, stepL us l u st, rs, ⟨_, Heap.get?_push_size _ rfl, rfl, _, rfl⟩⟩, rfl, q _ (I5.hok.fresh (Nat.le_refl _))⟩
end
end WT

set_option Elab.async false
set_option linter.all false
set_option maxRecDepth 100000
set_option maxHeartbeats 4000000
namespace WT
open PySem PySem.Spec PyProof.Rows L2
/-! ### a path as a tuple; the search through all paths: its state -/
def pathV (one : Str) (l : List (Str × Str)) : List V := V.str one :: l.flatMap fun p => [V.str p.1, V.str p.2]
theorem pathV_len (one : Str) (l : List (Str × Str)) : (pathV one l).length = 2 * l.length + 1 := by
  unfold pathV
  rw [List.length_cons, List.length_flatMap]
  have : ((l.map fun p => [V.str p.1, V.str p.2].length)).sum = 2 * l.length := by
    induction l with
    | nil => rfl
    | cons p l ih =>
      rw [List.map_cons, List.sum_cons, ih]
      simp only [List.length_cons, List.length_nil]
      omega
  rw [this]
theorem pathV_cons (one n z : Str) (l : List (Str × Str)) : pathV one ((n, z) :: l) = V.str one :: V.str n :: pathV z l := by
  unfold pathV
  rw [List.flatMap_cons]
  rfl
theorem pathV_snoc (one n z : Str) (l : List (Str × Str)) : pathV one (l ++ [(n, z)]) = pathV one l ++ [V.str n, V.str z] := by
  unfold pathV
  rw [List.flatMap_append]
  rfl
theorem pathV_even : ∀ (l : List (Str × Str)) (one : Str) (i : Nat), (pathV one l)[2 * i]? = ((one :: l.map (·.2)).map V.str)[i]?
  | [], one, 0 => rfl
  | [], one, i + 1 => by
    unfold pathV
    rw [show 2 * (i + 1) = (2 * i + 1) + 1 by omega]
    rfl
  | (n, z) :: l, one, 0 => rfl
  | (n, z) :: l, one, i + 1 => by
    rw [pathV_cons, show 2 * (i + 1) = 2 * i + 1 + 1 by omega, List.getElem?_cons_succ, List.getElem?_cons_succ, pathV_even l z i]
    rfl
theorem pathV_odd : ∀ (l : List (Str × Str)) (one : Str) (i : Nat), (pathV one l)[2 * i + 1]? = ((l.map (·.1)).map V.str)[i]?
  | [], one, i => by
    unfold pathV
    rfl
  | (n, z) :: l, one, 0 => rfl
  | (n, z) :: l, one, i + 1 => by
    rw [pathV_cons, show 2 * (i + 1) + 1 = 2 * i + 1 + 1 + 1 by omega, List.getElem?_cons_succ, List.getElem?_cons_succ, pathV_odd l z i]
    rfl
theorem pathV_last (one : Str) (l : List (Str × Str)) : atI (pathV one l) (-1) = some (V.str (lastOf one l)) := by
  rcases List.eq_nil_or_concat l with rfl | ⟨m, p, rfl⟩
  · exact atI_last [] _
  · obtain ⟨n, z⟩ := p
    rw [List.concat_eq_append, pathV_snoc, lastOf_snoc, show ([V.str n, V.str z] : List V) = [V.str n] ++ [V.str z] from rfl, ← List.append_assoc]
    exact atI_last _ _
theorem pick_all {α : Type} (ys : List α) : (List.range ys.length).filterMap (fun m => ys[m]?) = ys := by
  induction ys with
  | nil => rfl
  | cons y ys ih =>
    rw [List.length_cons, List.range_succ_eq_map, List.filterMap_cons]
    simp only [List.getElem?_cons_zero, List.filterMap_map]
    congr 1
theorem step_even (one : Str) (l : List (Str × Str)) : stepL (pathV one l) none none 2 = (one :: l.map (·.2)).map V.str := by
  have h := pick_all ((one :: l.map (·.2)).map V.str)
  have e : Builtin.Slice.slicePlaces (Builtin.Slice.sliceAdjust none none 2 ((pathV one l).length : Int)).1 (Builtin.Slice.sliceAdjust none none 2 ((pathV one l).length : Int)).2 2 = ((one :: l.map (·.2)).map V.str).length := by
    rw [pathV_len]
    unfold Builtin.Slice.slicePlaces Builtin.Slice.sliceAdjust
    simp
    omega
  unfold stepL
  rw [e]
  refine Eq.trans ?_ h
  congr 1
  funext m
  have : (Builtin.Slice.sliceAdjust none none 2 ((pathV one l).length : Int)).1 = 0 := rfl
  rw [this, show ((0 : Int) + (m : Int) * 2).toNat = 2 * m by omega]
  exact pathV_even l one m
theorem step_odd (one : Str) (l : List (Str × Str)) : stepL (pathV one l) (some 1) none 2 = (l.map (·.1)).map V.str := by
  have h := pick_all ((l.map (·.1)).map V.str)
  have e0 : (Builtin.Slice.sliceAdjust (some 1) none 2 ((pathV one l).length : Int)).1 = 1 := by
    rw [pathV_len]
    unfold Builtin.Slice.sliceAdjust
    simp
    omega
  have e : Builtin.Slice.slicePlaces (Builtin.Slice.sliceAdjust (some 1) none 2 ((pathV one l).length : Int)).1 (Builtin.Slice.sliceAdjust (some 1) none 2 ((pathV one l).length : Int)).2 2 = ((l.map (·.1)).map V.str).length := by
    rw [e0, pathV_len]
    unfold Builtin.Slice.slicePlaces Builtin.Slice.sliceAdjust
    simp
    split <;> omega
  unfold stepL
  rw [e]
  refine Eq.trans ?_ h
  congr 1
  funext m
  rw [e0, show ((1 : Int) + (m : Int) * 2).toNat = 2 * m + 1 by omega]
  exact pathV_odd l one m
section
variable {gs : List Gt} {bar rs : List Str} {one other : Str}
theorem weigh_kidsD {l : List (Str × Str)} {M D : Nat} (hm : ∀ g ∈ gs, ∀ z ∈ g.2.1, z ∈ rs) (hD : ∀ k, GoodP gs bar rs one k → k.length ≤ D) (h : GoodP gs bar rs one l) (hM : (kids gs bar one l).length ≤ M) : weigh M D (kids gs bar one l) < weigh M D [l] := by
  have e : weigh M D [l] = (M + 1) ^ (D - l.length) := by simp [weigh]
  rw [weigh_same M D (l.length + 1) _ fun k hk => (kids_good hm h hk).2, e]
  have p : ∀ n, 0 < (M + 1) ^ n := fun n => Nat.pow_pos (Nat.succ_pos M)
  cases hk : kids gs bar one l with
  | nil => simp only [List.length_nil, Nat.zero_mul]; exact p _
  | cons k ks =>
    have hk1 : k ∈ kids gs bar one l := by rw [hk]; exact List.mem_cons_self
    have h1 := kids_good hm h hk1
    have h2 := hD k h1.1
    rw [hk] at hM
    rw [show D - l.length = (D - (l.length + 1)) + 1 by omega, Nat.pow_succ]
    calc (k :: ks).length * (M + 1) ^ (D - (l.length + 1)) ≤ M * (M + 1) ^ (D - (l.length + 1)) := Nat.mul_le_mul_right _ hM
      _ < (M + 1) * (M + 1) ^ (D - (l.length + 1)) := Nat.mul_lt_mul_of_pos_right (Nat.lt_succ_self M) (p _)
      _ = (M + 1) ^ (D - (l.length + 1)) * (M + 1) := Nat.mul_comm _ _
theorem weigh_ge (M D : Nat) : ∀ ls : List (List (Str × Str)), ls.length ≤ weigh M D ls
  | [] => Nat.zero_le _
  | l :: ls => by
    have ih := weigh_ge M D ls
    have p : 0 < (M + 1) ^ (D - l.length) := Nat.pow_pos (Nat.succ_pos M)
    unfold weigh at ih ⊢
    rw [List.map_cons, List.sum_cons, List.length_cons]
    omega
/-- the search's state: what waits, what was found -/
structure Srch (gs : List Gt) (bar rs : List Str) (one other : Str) (M D : Nat) (ls fs : List (List (Str × Str))) : Prop where
  wait : ∀ l ∈ ls, GoodP gs bar rs one l
  good : ∀ l ∈ fs, GoodP gs bar rs one l ∧ lastOf one l = other
  all : ∀ m, GoodP gs bar rs one m → lastOf one m = other → m ∈ fs ∨ ∃ l ∈ ls, ∃ r, m = l ++ r
  wt : fs.length + weigh M D ls ≤ (M + 1) ^ D
theorem GoodP.nil : GoodP gs bar rs one [] := ⟨⟨one, .nil one⟩, by simp, by simp, fun z hz => (nomatch hz)⟩
theorem Srch.first (M D : Nat) : Srch gs bar rs one other M D [[]] [] :=
  ⟨fun l hl => by rw [List.mem_singleton.mp hl]; exact .nil, fun l hl => (nomatch hl), fun m _ _ => .inr ⟨[], by simp, m, rfl⟩, by simp [weigh]⟩
theorem Srch.take {M D : Nat} {ls fs : List (List (Str × Str))} {l : List (Str × Str)} (h : Srch gs bar rs one other M D (ls ++ [l]) fs) (e : lastOf one l = other) : Srch gs bar rs one other M D ls (fs ++ [l]) := by
  have hl := h.wait l (by simp)
  refine ⟨fun k hk => h.wait k (by simp [hk]), fun k hk => ?_, fun m hm em => ?_, ?_⟩
  · rcases List.mem_append.mp hk with hk | hk
    · exact h.good k hk
    · rw [List.mem_singleton.mp hk]
      exact ⟨hl, e⟩
  · rcases h.all m hm em with q | ⟨k, hk, r, rfl⟩
    · exact .inl (List.mem_append_left _ q)
    · rcases List.mem_append.mp hk with hk | hk
      · exact .inr ⟨k, hk, r, rfl⟩
      · rw [List.mem_singleton.mp hk] at hm em ⊢
        rcases List.eq_nil_or_concat r with rfl | ⟨s, p, rfl⟩
        · exact .inl (by simp)
        · exfalso
          have r1 := hm.reg
          obtain ⟨n, z⟩ := p
          rw [List.concat_eq_append, ← List.append_assoc, lastOf_snoc] at em
          rw [List.concat_eq_append, ← List.append_assoc, List.map_append, ← List.cons_append] at r1
          have r2 := (List.nodup_append.mp r1).2.2
          have mem : lastOf one l ∈ one :: (l ++ s).map (·.2) := by
            unfold lastOf
            cases hl2 : l.map (·.2) with
            | nil => simp
            | cons a b =>
              rw [List.map_append, hl2]
              have : (a :: b).getLastD one ∈ a :: b := by
                rw [List.getLastD_cons]
                cases b with
                | nil => simp
                | cons c d =>
                  have : (c :: d).getLastD a ∈ c :: d := by
                    rw [List.getLastD_eq_getLast?, List.getLast?_eq_some_getLast (by simp)]
                    exact List.getLast_mem _
                  exact List.mem_cons_of_mem _ this
              exact List.mem_cons_of_mem _ (List.mem_append_left _ this)
          exact r2 _ mem z (by simp) (e.trans em.symm)
  · have w := h.wt
    rw [weigh_app] at w
    have g := weigh_ge M D [l]
    rw [List.length_append]
    simp only [List.length_cons, List.length_nil] at g ⊢
    omega
theorem Srch.grow {M D : Nat} {ls fs : List (List (Str × Str))} {l : List (Str × Str)} (hm : ∀ g ∈ gs, ∀ z ∈ g.2.1, z ∈ rs) (hD : ∀ k, GoodP gs bar rs one k → k.length ≤ D) (hM : (kids gs bar one l).length ≤ M) (h : Srch gs bar rs one other M D (ls ++ [l]) fs) (e : lastOf one l ≠ other) :
    Srch gs bar rs one other M D (ls ++ kids gs bar one l) fs ∧ weigh M D (ls ++ kids gs bar one l) < weigh M D (ls ++ [l]) := by
  have hl := h.wait l (by simp)
  have lt : weigh M D (ls ++ kids gs bar one l) < weigh M D (ls ++ [l]) := by
    rw [weigh_app, weigh_app]
    have := weigh_kidsD hm hD hl hM
    omega
  refine ⟨⟨fun k hk => ?_, h.good, fun m hg em => ?_, ?_⟩, lt⟩
  · rcases List.mem_append.mp hk with hk | hk
    · exact h.wait k (by simp [hk])
    · exact (kids_good hm hl hk).1
  · rcases h.all m hg em with q | ⟨k, hk, r, rfl⟩
    · exact .inl q
    · rcases List.mem_append.mp hk with hk | hk
      · exact .inr ⟨k, List.mem_append_left _ hk, r, rfl⟩
      · rw [List.mem_singleton.mp hk] at hg em ⊢
        cases r with
        | nil =>
          rw [List.append_nil] at em
          exact absurd em e
        | cons p r =>
          obtain ⟨n, z⟩ := p
          exact .inr ⟨l ++ [(n, z)], List.mem_append_right _ (kids_has hg), r, by simp⟩
  · have := h.wt
    omega
/-- what the search found in the end -/
structure AllP (gs : List Gt) (bar rs : List Str) (one other : Str) (fs : List (List (Str × Str))) : Prop where
  good : ∀ l ∈ fs, GoodP gs bar rs one l ∧ lastOf one l = other
  all : ∀ m, GoodP gs bar rs one m → lastOf one m = other → m ∈ fs
theorem Srch.done {M D : Nat} {fs : List (List (Str × Str))} (h : Srch gs bar rs one other M D [] fs) : AllP gs bar rs one other fs ∧ fs.length ≤ (M + 1) ^ D := by
  refine ⟨⟨h.good, fun m hm em => ?_⟩, ?_⟩
  · rcases h.all m hm em with q | ⟨k, hk, _⟩
    · exact q
    · cases hk
  · have := h.wt
    omega
theorem SPath.sub {x y : Str} {l : List (Str × Str)} (hm : ∀ g ∈ gs, ∀ z ∈ g.2.1, z ∈ rs) (h : SPath gs bar x l y) : ∀ z ∈ l.map (·.2), z ∈ rs := by
  induction h with
  | nil => intro z hz; cases hz
  | cons s _ ih =>
    obtain ⟨g, hg, _, _, _, h2⟩ := s
    intro z hz
    rw [List.map_cons] at hz
    rcases List.mem_cons.mp hz with e | hz
    · rw [e]
      exact hm g hg _ h2
    · exact ih z hz
theorem AllP.iff {fs : List (List (Str × Str))} (nd : (gs.map (·.1)).Nodup) (hm : ∀ g ∈ gs, ∀ z ∈ g.2.1, z ∈ rs) (h : AllP gs bar rs one other fs) : fs ≠ [] ↔ Conn gs bar one other := by
  constructor
  · intro q
    obtain ⟨l, hl⟩ := List.exists_mem_of_ne_nil _ q
    obtain ⟨g, e⟩ := h.good l hl
    rw [← e]
    exact g.last.conn
  · intro c q
    obtain ⟨m, h1, h2, h3⟩ := c.simple nd
    have := h.all m ⟨⟨_, h1⟩, h2, h3, h1.sub hm⟩ (by
      unfold lastOf
      exact h1.end_.symm)
    rw [q] at this
    cases this
end
/-- lists of tuples of texts as data -/
theorem lay_tups : ∀ tss : List (List Str), (∀ ts ∈ tss, ∀ s ∈ ts, PyData.strOk s = true) → PyData.canLayAll0 (tss.map fun ts => PyData.tuple (ts.map PyData.str)) = true ∧ PyData.depthAll (tss.map fun ts => PyData.tuple (ts.map PyData.str)) ≤ 1
  | [], _ => ⟨by rw [List.map_nil, PyData.canLayAll0], by rw [List.map_nil, PyData.depthAll]; exact Nat.zero_le _⟩
  | ts :: tss, h => by
    obtain ⟨h1, h2⟩ := lay_tups tss fun x hx => h x (List.mem_cons_of_mem _ hx)
    obtain ⟨g1, g2⟩ := lay_strs ts (h ts List.mem_cons_self)
    rw [List.map_cons, PyData.canLayAll0, PyData.depthAll, h1, PyData.canLay0, PyData.depth, g1, g2]
    exact ⟨rfl, Nat.max_le.mpr ⟨by decide, h2⟩⟩
theorem shaped_tups (tss : List (List Str)) (h : ∀ ts ∈ tss, ∀ s ∈ ts, PyData.strOk s = true) : SeqAt.shaped (.list (tss.map fun ts => PyData.tuple (ts.map PyData.str))) = true := by
  obtain ⟨h1, h2⟩ := lay_tups tss h
  unfold SeqAt.shaped
  rw [PyData.canLay0, PyData.depth, h1]
  simp
  omega
theorem eqv_nilD : ∀ ds : List PyData, PyData.eqv (.list ds) (.list []) = ds.isEmpty
  | [] => by decide +kernel
  | s :: ss => by
    rw [PyData.eqv, PyData.eqvAll]
    rfl
/-- the texts of a path -/
def pathS (one : Str) (l : List (Str × Str)) : List Str := one :: l.flatMap fun p => [p.1, p.2]
theorem pathS_V (one : Str) (l : List (Str × Str)) : (pathS one l).map V.str = pathV one l := by
  unfold pathS pathV
  rw [List.map_cons, List.map_flatMap]
  rfl
theorem dp_paths {K : PySem.W.Frag} {H : Hp} {one : Str} : ∀ {ws : List Addr} {ls : List (List (Str × Str))}, Paired (fun a l => H a = some (.tup (pathV one l))) ws ls → DpAll K H (ws.map V.ref) (ls.map fun l => PyData.tuple ((pathS one l).map PyData.str))
  | _, _, .nil => .nil
  | _, _, .cons h t => .cons (.tup (SqT.of h) (by rw [← pathS_V]; exact dp_strs _)) (dp_paths t)
section
variable {X : Cx} {K : PySem.W.Frag}
theorem op_catTK (hK : X.K = K := by rfl) : OpR X (binaryOp .Add) (rCatT K) := by
  subst hK
  exact op_catT
theorem op_notInK (hK : X.K = K := by rfl) : OpR X (compareOp .NotIn) (rIn K true) := by
  subst hK
  exact op_notIn_seq
theorem op_inK (hK : X.K = K := by rfl) : OpR X (compareOp .In) (rIn K false) := by
  subst hK
  exact op_in_seq
theorem op_neDK (hu : X.A.units + 64 < cLine) (hK : X.K = K := by rfl) : OpR X (compareOp .NotEq) (rNeD K) := by
  subst hK
  exact op_neD hu
theorem pe_slice3K {e est : Expr} {lo hi : Option Expr} {te tst : TE} {tl th : TO} {p2 pos : Pos} (st : Int) (h0 : st ≠ 0) (h1 : st ≠ 1) (he : PE X e te) (hl : PO X lo tl) (hu : PO X hi th) (hst : PE X est tst) (hK : X.K = K := by rfl) : PE X (.Subscript e (.Slice lo hi (some est) p2) pos) (tSl3 K st te tl th tst) := by
  subst hK
  exact pe_slice3 st h0 h1 he hl hu hst
end
end WT

set_option Elab.async false
set_option linter.all false
set_option maxRecDepth 100000
set_option maxHeartbeats 4000000
/-! sorted of a list of alike data. -/
namespace WT
open PySem PySem.Spec PyProof.Rows L2 PySem.W
section
variable {X : Cx}
theorem each_vals : ∀ {bs : List (V × PyData)} {us : List Value}, Vals (bs.map (·.1)) us → EachIs (fun v (b : V × PyData) => RelV b.1 v) us bs
  | [], _, r => by
    cases r
    exact .nil
  | b :: bs, _, r => by
    cases r with
    | cons h t => exact .cons h (each_vals t)
theorem vals_each : ∀ {bs : List (V × PyData)} {us : List Value}, EachIs (fun v (b : V × PyData) => RelV b.1 v) us bs → Vals (bs.map (·.1)) us
  | _, _, .nil => .nil
  | _, _, .cons h t => .cons h (vals_each t)
theorem each_reads {pins : List (Addr × Obj)} {σ : L2.St} {H : Hp} {s : Shared} (I : Inv X pins σ H s) : ∀ {bs : List (V × PyData)} {us : List Value}, EachIs (fun v (b : V × PyData) => RelV b.1 v) us bs → (∀ b ∈ bs, Dp X.K H b.1 b.2) → EachIs (fun v (b : V × PyData) => ∃ as, Reads s.heap v b.2 as) us bs
  | _, _, .nil, _ => .nil
  | _, _, .cons h t, d => .cons (Dp.reads I _ _ _ (d _ List.mem_cons_self) h) (each_reads I t fun b hb => d b (List.mem_cons_of_mem _ hb))
/-- sorted(xs), the items alike data: the stable sort by Python's order -/
def rSortedD (K : PySem.W.Frag) : List V → Hp → VK → Prop := fun vs H Q => ∃ (a : Addr) (bs : List (V × PyData)), vs = [.ref a] ∧ SqL K H a (bs.map (·.1)) ∧ (∀ b ∈ bs, Dp K H b.1 b.2) ∧ AllAlike (bs.map (·.2)) ∧ Sortable (bs.map (·.2)) ∧ (∀ b ∈ bs, b.2.depth ≤ 60) ∧
  ∀ p, H p = none → Q (.ref p) (upd H p (.lst ((bs.mergeSort (dataLe false fun b => b.2)).map (·.1))))
theorem cr_sortedD (hu : X.A.units + 64 < cLine) : CallR X (.builtin "sorted") (rSortedD X.K) := by
  intro pins s σ H vs us Q I r h
  obtain ⟨a, bs, rfl, hs, hd, hal, hk, hde, q⟩ := h
  obtain ⟨its, rv, hl, hz⟩ := I.list hs
  rw [Vals.ref1 r]
  have e := each_vals rv
  have hlen : bs.length ≤ sizeLine := by
    have := e.length
    have h2 := hz
    rw [List.length_map] at h2
    omega
  refine sorted_data (enc := fun b : V × PyData => b.2) hl.isList e (each_reads I e hd) hal hk hlen (fun b hb => by have := hde b hb; omega) fun out ho he => ?_
  obtain ⟨ep, he'⟩ := PyProof.Rows.sortedAll_at s.heap its out.toArray
  have hl2 : ((bs.mergeSort (dataLe false fun b => b.2)).map (·.1)).length ≤ sizeLine := by
    rw [List.length_map, List.length_mergeSort]
    exact hlen
  exact ⟨.ref _, upd H (s.heap.objs.size + 1) (.lst ((bs.mergeSort (dataLe false fun b => b.2)).map (·.1))), I.laid (t' := s.toks) (fun _ _ => PyProof.Rows.sortedAll_old) (Nat.le_succ _) ⟨hl2, out, ep, vals_each he, he'⟩, rfl, q _ (I.hok.fresh (Nat.le_succ _))⟩
end
end WT

set_option Elab.async false
set_option linter.all false
namespace WT
open PySem
/-- data that repr can show, of at most that depth and length -/
structure Fit (n L : Nat) (d : PyData) : Prop where
  sh : d.showable = true
  de : d.depth ≤ n
  ln : d.shown.length ≤ L
theorem Fit.mono {n L n' L' : Nat} {d : PyData} (f : Fit n L d) (h1 : n ≤ n') (h2 : L ≤ L') : Fit n' L' d := ⟨f.sh, Nat.le_trans f.de h1, Nat.le_trans f.ln h2⟩
theorem fits_all {n L : Nat} : ∀ {ds : List PyData}, (∀ d ∈ ds, Fit n L d) → PyData.showableAll ds = true ∧ PyData.depthAll ds ≤ n ∧ ((PyData.shownAll ds).map (·.length)).sum + 2 * (PyData.shownAll ds).length ≤ ds.length * (L + 2)
  | [], _ => by
    refine ⟨rfl, ?_, ?_⟩
    · rw [PyData.depthAll]
      exact Nat.zero_le _
    · rw [PyData.shownAll]
      simp
  | d :: ds, h => by
    obtain ⟨a, b, c⟩ := fits_all fun x hx => h x (List.mem_cons_of_mem _ hx)
    have f := h d List.mem_cons_self
    refine ⟨?_, ?_, ?_⟩
    · rw [PyData.showableAll, f.sh, a]
      rfl
    · rw [PyData.depthAll]
      exact Nat.max_le.mpr ⟨f.de, b⟩
    · rw [PyData.shownAll]
      have q := f.ln
      simp only [List.map_cons, List.sum_cons, List.length_cons] at c ⊢
      rw [Nat.add_mul]
      omega
theorem fit_list {n L : Nat} {ds : List PyData} (h : ∀ d ∈ ds, Fit n L d) : Fit (n + 1) (ds.length * (L + 2) + 3) (.list ds) := by
  obtain ⟨a, b, c⟩ := fits_all h
  refine ⟨?_, ?_, ?_⟩
  · rw [PyData.showable]
    exact a
  · rw [PyData.depth]
    omega
  · rw [PyData.shown]
    have := listText_len_le (PyData.shownAll ds)
    omega
theorem fit_tuple {n L : Nat} {ds : List PyData} (h : ∀ d ∈ ds, Fit n L d) : Fit (n + 1) (ds.length * (L + 2) + 3) (.tuple ds) := by
  obtain ⟨a, b, c⟩ := fits_all h
  refine ⟨?_, ?_, ?_⟩
  · rw [PyData.showable]
    exact a
  · rw [PyData.depth]
    omega
  · rw [PyData.shown]
    have := tupleText_len_le (PyData.shownAll ds)
    omega
end WT

set_option Elab.async false
set_option linter.all false
set_option maxRecDepth 100000
set_option maxHeartbeats 4000000
/-! Calls with a keyword, and calls that leave a keyword-only parameter out. -/
namespace WT
open PySem PySem.Spec PyProof.Rows L2
section
variable {X : Cx} {cx : CXT} {k n m : Nat} {f : Addr} {fd : FuncData} {ps ks : List Str} {sp : Sp} {E : XK} {x : Str} {p pos : Pos} {e : Expr} {es : List Expr} {kws : List Keyword} {t tk : TA}
theorem run_fnB {pins : List (Addr × Obj)} {σ : L2.St} {H : Hp} {s : Shared} {Q : VK} {us : List Value} {kw : List (Str × Value)} {bs : List Value} {vs : List V} (hgd : X.A.guards = some []) (G : FnG X.prog X.w X.K X.mg X.base cx k f fd ps sp) (hr : Room k X.A)
    (hx : Passes cx X E) (I : Inv X pins σ H s) (hb : BindsTo s fd ⟨us, kw⟩ (ps.zip bs)) (r : Vals vs bs) (h : sp vs H Q E) : wpAny (model X.prog X.w) X.A (call (.ref f) us kw) (EP X pins σ Q) X.xe s := by
  refine wpAny_call (codeAny_mono (G.run X.A X.stack s H ⟨us, kw⟩ bs vs Q E hgd hr I.env0 hb r h) fun r s' hq => ?_)
  cases r with
  | error e => exact hx pins σ H s e s' I hq
  | ok fl =>
    cases fl with
    | ret u => exact I.after hq
    | next => exact hq.elim
    | brk => exact hq.elim
    | cont => exact hq.elim
/-- f(e, .., k = v, ..), the keywords behind the others in the parameters' order -/
def tCallKG (n m : Nat) (sp : Sp) (E : XK) (t tk : TA) : TE := fun σ H Q => t σ H fun vs H1 => tk σ H1 fun zs H2 => vs.length = n ∧ zs.length = m ∧ sp (vs ++ zs) H2 Q E
theorem pe_callKG (hgd : X.A.guards = some []) (G : FnG X.prog X.w X.K X.mg X.base cx k f fd ps sp) (hr : Room k X.A) (hg : Gl X x) (hm : X.mg x = some (.ref f)) (hk : PySem.W.keepIn X.K (.ref f) = true)
    (hb : ∀ (s1 : Shared) (us ws : List Value), X.K.In s1.heap → us.length = n → ws.length = m → BindsTo s1 fd ⟨us, ks.zip ws⟩ (ps.zip (us ++ ws))) (hx : Passes cx X E) (ha : PA X (e :: es) t) (hkw : PK X kws tk)
    (hall : (backToKw pos (keywordEach kws X.env)).all (·.1.isSome) = true := by rfl) (hks : (backToKw pos (keywordEach kws X.env)).filterMap (·.1) = ks := by rfl) (hdb : (x == ("__debug__" : Str)) = false := by decide)
    (he : starEach (e :: es) X.env = (false, eval e X.env) :: starEach es X.env := by rfl) (hpl : ((backTo pos (starEach (e :: es) X.env)).any (·.1) || (backToKw pos (keywordEach kws X.env)).any (·.1.isNone)) = false := by rfl) :
    PE X (.Call (.Name x p) (e :: es) kws pos) (tCallKG n m sp E t tk) := by
  refine ⟨fun pins s σ H Q I h => ?_⟩
  refine wpAny_Call_Name_kw (ld_glob I hg hm ?_ hdb)
  refine PySem.W.callWith_KW (h₀ := X.base) I.ok.mod.kin hk hall (thn (ha.run pos pins s σ H _ I h) fun us s1 ⟨vs, H1, I1, r, q⟩ => ?_) hpl he
  refine thn (hkw.run pos pins s1 σ H1 _ I1 q) fun ws s2 ⟨zs, H2, I2, rz, l1, l2, q2⟩ => ⟨I2.kIn, ?_⟩
  rw [hks]
  exact run_fnB hgd G hr hx I2 (hb s2 us ws I2.kIn ((Vals.length r).symm.trans l1) ((Vals.length rz).symm.trans l2)) (r.append rz) q2
/-- f(e, ..) where defaults fill up -/
def tCallDG (sp : Sp) (dvs : List V) (E : XK) (t : TA) : TE := fun σ H Q => t σ H fun vs H1 => sp (vs ++ dvs) H1 Q E
theorem pe_callDG {dvs : List V} {ds : List Value} (hgd : X.A.guards = some []) (G : FnG X.prog X.w X.K X.mg X.base cx k f fd ps sp) (hr : Room k X.A) (hg : Gl X x) (hm : X.mg x = some (.ref f)) (hk : PySem.W.keepIn X.K (.ref f) = true)
    (hb : Binds X.K fd ps ds) (hd : Vals dvs ds) (hx : Passes cx X E) (ha : PA X (e :: es) t) (hdb : (x == ("__debug__" : Str)) = false := by decide)
    (he : starEach (e :: es) X.env = (false, eval e X.env) :: starEach es X.env := by rfl) (hpl : (backTo pos (starEach es X.env)).any (·.1) = false := by rfl) : PE X (.Call (.Name x p) (e :: es) [] pos) (tCallDG sp dvs E t) := by
  refine ⟨fun pins s σ H Q I h => ?_⟩
  refine wpAny_Call_Name_kw (ld_glob I hg hm ?_ hdb)
  refine PySem.W.callWith_K (h₀ := X.base) I.ok.mod.kin hk (thn (ha.run pos pins s σ H _ I h) fun us s1 ⟨vs, H1, I1, r, q⟩ => ⟨I1.kIn, ?_⟩) he hpl
  have r2 : Vals (vs ++ dvs) (us ++ ds) := r.append hd
  exact run_fnB hgd G hr hx I1 (hb s1 us I1.kIn (by rw [← Vals.length r2]; exact G.len _ _ _ _ q)) r2 q
end
/-- a def with one keyword-only parameter: called with it, called without it -/
structure Dk (P : Program) (w : World) (K : PySem.W.Frag) (mg : Str → Option Value) (base : Heap) (x : Str) (k : Nat) (f : Addr) (fd : FuncData) (ps : List Str) (n : Nat) (kw : Str) (dv : V) (sp : Sp) : Prop where
  g : mg x = some (.ref f)
  kp : PySem.W.keepIn K (.ref f) = true
  G : FnG P w K mg base CX0 k f fd ps sp
  kb : ∀ (s1 : Shared) (us ws : List Value), K.In s1.heap → us.length = n → ws.length = 1 → BindsTo s1 fd ⟨us, ([kw] : List Str).zip ws⟩ (ps.zip (us ++ ws))
  bd : ∃ ds, Vals [dv] ds ∧ Binds K fd ps ds
end WT

set_option Elab.async false
set_option linter.all false
set_option maxRecDepth 100000
set_option maxHeartbeats 4000000
namespace WT
open PySem PySem.Spec PyProof.Rows L2
/-- what comes behind is proved once -/
theorem use_post {α : Type} {T : (α → Hp → Prop) → Prop} {Q : α → Hp → Prop} (G : α → Hp → Prop) (h : ∀ Q' : α → Hp → Prop, (∀ x H', G x H' → Q' x H') → T Q') (q : ∀ x H', G x H' → Q x H') : T Q := h Q q
theorem use_seq {f u : TS} {D : Ends} {σ : L2.St} {H : Hp} (G : L2.St → Hp → Prop) (h : ∀ N : L2.St → Hp → Prop, (∀ σ' H', G σ' H' → N σ' H') → f { D with nx := N } σ H) (q : ∀ σ' H', G σ' H' → u D σ' H') {r b c} : Ends.nx { nx := tSeq f u D, rt := r, bk := b, ct := c } σ H := h (u D) q
theorem call_reprK {X : Cx} {K : PySem.W.Frag} (hgd : X.A.guards = some []) (hu : X.A.units + 64 < cLine) (hK : X.K = K := by rfl) : CallR X (.builtin "repr") (rRepr K) := by
  subst hK
  exact call_repr hgd hu
theorem names_nodup {n : Nat} {ys : List Str} (h : NamesOf n ys) : ys.Nodup := by
  obtain ⟨s, f, rfl, _⟩ := h.ex
  unfold nameList
  refine List.pairwise_map.mpr (List.Pairwise.imp (fun {i j} hij e => hij ?_) List.nodup_range)
  have e := congrArg (fun z : Str => z.cps.toList) e
  simp only [app_cps] at e
  have e := List.append_cancel_left e
  have e : [97 + f + i] = [97 + f + j] := e
  simp at e
  omega
theorem fit_bool (b : Bool) : (PyData.bool b).showable = true ∧ (PyData.bool b).depth ≤ 60 ∧ (PyData.bool b).shown.length ≤ sizeLine ∧ PyData.strOk (PyData.bool b).shown = true := by
  cases b <;> decide +kernel
theorem pot_upd {H : Hp} {a c : Addr} {n : Nat} {o : HO} (h : PotAt H a n) (hc : a ≠ c) : PotAt (upd H c o) a n := by
  obtain ⟨u0, u1, u2, e1, e2⟩ := h
  exact ⟨u0, u1, u2, by rw [upd_ne hc]; exact e1, e2⟩
theorem but_free {H H' : Hp} {a c : Addr} (h : But a H H') (hc : c ≠ a) (n : H' c = none) : H c = none := by
  cases e : H c with
  | none => rfl
  | some o =>
    rw [h _ _ hc e] at n
    cases n
theorem iff_same {b c : Bool} {p : Prop} (h : b = true ↔ p) (k : c = true ↔ p) : b = c := by
  cases b <;> cases c <;> simp_all
theorem gate_len {rs : List Str} {g : Gt} (h : GateOk rs g) : g.2.1 ≠ [] ∧ g.2.1.length ≤ rs.length := by
  obtain ⟨ys, k, h1, h2, h3, h4⟩ := h.from_
  have e1 := h2.length_eq
  have e2 := h1.length_eq
  rw [List.length_take] at e1
  refine ⟨fun z => ?_, by omega⟩
  rw [z] at e1
  simp at e1
  omega

theorem use_seq1 {f u : TS} {D : Ends} {σ : L2.St} {H : Hp} (G : L2.St → Hp → Prop) (h : ∀ N : L2.St → Hp → Prop, (∀ σ' H', G σ' H' → N σ' H') → f { D with nx := N } σ H) (q : ∀ σ' H', G σ' H' → u D σ' H') : tSeq f u D σ H := h (u D) q
theorem perm_map_inv {α β : Type} {f : α → β} {l' m : List β} (h : l'.Perm m) : ∀ {l : List α}, m = l.map f → ∃ k : List α, k.Perm l ∧ l' = k.map f := by
  induction h with
  | nil =>
    intro l e
    cases l with
    | nil => exact ⟨[], .nil, rfl⟩
    | cons _ _ => cases e
  | cons x _ ih =>
    intro l e
    cases l with
    | nil => cases e
    | cons y l =>
      cases e
      obtain ⟨k, h1, h2⟩ := ih rfl
      exact ⟨y :: k, h1.cons y, by rw [h2]; rfl⟩
  | swap x y r =>
    intro l e
    cases l with
    | nil => cases e
    | cons a l =>
      cases l with
      | nil => cases e
      | cons b l =>
        cases e
        exact ⟨b :: a :: l, .swap _ _ _, rfl⟩
  | trans _ _ ih1 ih2 =>
    intro l e
    obtain ⟨k, h1, h2⟩ := ih2 e
    obtain ⟨k2, h3, h4⟩ := ih1 h2
    exact ⟨k2, h3.trans h1, h4⟩
theorem paired_zip {α β : Type} {R : α → β → Prop} : ∀ {l : List α} {m : List β}, Paired R l m → ∀ p ∈ l.zip m, R p.1 p.2
  | _, _, .nil, p, h => by cases h
  | _, _, .cons r t, p, h => by
    rw [List.zip_cons_cons] at h
    rcases List.mem_cons.mp h with e | h
    · rw [e]
      exact r
    · exact paired_zip t p h
theorem zip_paired {α β : Type} {R : α → β → Prop} : ∀ {l : List (α × β)}, (∀ p ∈ l, R p.1 p.2) → Paired R (l.map (·.1)) (l.map (·.2))
  | [], _ => .nil
  | p :: l, h => .cons (h p List.mem_cons_self) (zip_paired fun q hq => h q (List.mem_cons_of_mem _ hq))
theorem zip_fst {α β : Type} {R : α → β → Prop} : ∀ {l : List α} {m : List β}, Paired R l m → (l.zip m).map (·.1) = l ∧ (l.zip m).map (·.2) = m
  | _, _, .nil => ⟨rfl, rfl⟩
  | _, _, .cons r t => by
    obtain ⟨h1, h2⟩ := zip_fst t
    rw [List.zip_cons_cons, List.map_cons, List.map_cons, h1, h2]
    exact ⟨rfl, rfl⟩
/-! gateways and worlds as data -/
def gateD (g : Gt) : PyData := .tuple [.str g.1, .tuple (g.2.1.map PyData.str), .str g.2.2]
def worldD (rs : List Str) (gs : List Gt) : PyData := .tuple [.tuple (rs.map PyData.str), .tuple (gs.map gateD)]
theorem dp_gate {K : PySem.W.Frag} {H : Hp} {a : Addr} {g : Gt} (h : GateAt H a g) : Dp K H (.ref a) (gateD g) := by
  obtain ⟨i, h1, h2⟩ := h
  exact .tup (SqT.of h1) (.cons (.str _) (.cons (.tup (SqT.of h2) (dp_strs _)) (.cons (.str _) .nil)))
theorem alikeAll_strs : ∀ xs ys : List Str, PySem.W.alikeAll (xs.map PyData.str) (ys.map PyData.str) = true
  | [], _ => by rw [List.map_nil, PySem.W.alikeAll]
  | _ :: _, [] => by rw [List.map_cons, List.map_nil, PySem.W.alikeAll]
  | x :: xs, y :: ys => by
    rw [List.map_cons, List.map_cons, PySem.W.alikeAll, alikeAll_strs xs ys, PySem.W.alike]
    rfl
theorem alike_gate (g g' : Gt) : PySem.W.alike (gateD g) (gateD g') = true := by
  unfold gateD
  rw [PySem.W.alike, PySem.W.alikeAll, PySem.W.alikeAll, PySem.W.alikeAll, PySem.W.alike, PySem.W.alike, PySem.W.alike, alikeAll_strs, PySem.W.alikeAll]
  rfl
theorem depthAll_strs : ∀ ss : List Str, PyData.depthAll (ss.map PyData.str) = 0
  | [] => by rw [List.map_nil, PyData.depthAll]
  | s :: ss => by
    rw [List.map_cons, PyData.depthAll, depthAll_strs ss, PyData.depth]
    rfl
theorem depth_gate (g : Gt) : (gateD g).depth ≤ 2 := by
  unfold gateD
  rw [PyData.depth, PyData.depthAll, PyData.depthAll, PyData.depthAll, PyData.depthAll, PyData.depth, PyData.depth, PyData.depth, depthAll_strs]
  decide
mutual
theorem Dp.dt {K : PySem.W.Frag} {H : Hp} : ∀ {v : V} {d : PyData}, Dp K H v d → Dt K H v d
  | _, _, .non => .non
  | _, _, .bl b => .bl b
  | _, _, .int i => .int i
  | _, _, .str x => .str x
  | _, _, .lst h t => .lst h (DpAll.dt t)
  | _, _, .tup h t => .tup h (DpAll.dt t)
theorem DpAll.dt {K : PySem.W.Frag} {H : Hp} : ∀ {vs : List V} {ds : List PyData}, DpAll K H vs ds → DtAll K H vs ds
  | _, _, .nil => .nil
  | _, _, .cons h t => .cons (Dp.dt h) (DpAll.dt t)
end
theorem dp_gates {K : PySem.W.Frag} {H : Hp} : ∀ {as : List Addr} {gs : List Gt}, Paired (GateAt H) as gs → DpAll K H (as.map V.ref) (gs.map gateD)
  | _, _, .nil => .nil
  | _, _, .cons r t => .cons (dp_gate r) (dp_gates t)
theorem dp_world {K : PySem.W.Frag} {H : Hp} {a r g : Addr} {as : List Addr} {rs : List Str} {gs : List Gt} (h : WorldAt H a r g as rs gs) : Dp K H (.ref a) (worldD rs gs) :=
  .tup (SqT.of h.top) (.cons (.tup (SqT.of h.reg) (dp_strs _)) (.cons (.tup (SqT.of h.gat) (dp_gates h.each)) .nil))
end WT

set_option Elab.async false
set_option linter.all false
set_option maxRecDepth 100000
set_option maxHeartbeats 4000000
namespace WT
open PySem PySem.Spec PyProof.Rows L2
theorem lastD_mem {α : Type} : ∀ (l : List α) (d : α), l.getLastD d ∈ d :: l
  | [], d => by simp
  | a :: l, d => by
    rw [List.getLastD_cons]
    exact List.mem_cons_of_mem _ (lastD_mem l a)
theorem lastOf_mem (one : Str) (l : List (Str × Str)) : lastOf one l ∈ one :: l.map (·.2) := lastD_mem _ _
section
variable {gs : List Gt} {bar rs : List Str} {one : Str}
theorem SPath.names {x y : Str} {l : List (Str × Str)} (h : SPath gs bar x l y) : ∀ n ∈ l.map (·.1), n ∈ gs.map (·.1) := by
  induction h with
  | nil => intro n hn; cases hn
  | cons s _ ih =>
    obtain ⟨g, hg, e, _⟩ := s
    intro n hn
    rw [List.map_cons] at hn
    rcases List.mem_cons.mp hn with e2 | hn
    · rw [e2]
      exact List.mem_map.mpr ⟨g, hg, e⟩
    · exact ih n hn
theorem GoodP.lenG {l : List (Str × Str)} (h : GoodP gs bar rs one l) : l.length ≤ gs.length := by
  obtain ⟨z, hz⟩ := h.path
  have := nodup_le (rs := gs.map (·.1)) h.gat hz.names
  rw [List.length_map, List.length_map] at this
  exact this
theorem kidsOf_len {B : Nat} {g : Gt} (hg : g.2.1.length ≤ B + 1) (l : List (Str × Str)) : (kidsOf bar one l g).length ≤ B := by
  unfold kidsOf
  by_cases c : lastOf one l ∈ g.2.1 ∧ g.1 ∉ l.map (·.1) ∧ g.1 ∉ bar
  · rw [if_pos c, List.length_map]
    have : (g.2.1.filter fun z => decide (z ∉ one :: l.map (·.2))).length < g.2.1.length :=
      List.length_filter_lt_length_iff_exists.mpr ⟨lastOf one l, c.1, by
        have := lastOf_mem one l
        simp only [decide_eq_true_eq]
        exact fun z => z this⟩
    omega
  · rw [if_neg c]
    exact Nat.zero_le _
theorem kids_lenX {B : Nat} {gx : Gt} (hx : gx ∈ gs) (hB : ∀ g ∈ gs, g.2.1.length ≤ B + 1) (l : List (Str × Str)) : (kids gs [gx.1] one l).length ≤ (gs.length - 1) * B := by
  have gen : ∀ (hs : List Gt), (∀ g ∈ hs, g.2.1.length ≤ B + 1) → (kids hs [gx.1] one l).length ≤ hs.length * B := fun hs => by
    induction hs with
    | nil => intro _; exact Nat.zero_le _
    | cons g hs ih =>
      intro h
      have a := ih fun y hy => h y (List.mem_cons_of_mem _ hy)
      have b := kidsOf_len (bar := [gx.1]) (one := one) (h g List.mem_cons_self) l
      unfold kids at a ⊢
      rw [List.flatMap_cons, List.length_append, List.length_cons, Nat.add_mul]
      omega
  obtain ⟨g1, g2, rfl⟩ := List.append_of_mem hx
  have e : kids (g1 ++ gx :: g2) [gx.1] one l = kids (g1 ++ g2) [gx.1] one l := by
    unfold kids
    rw [List.flatMap_append, List.flatMap_append, List.flatMap_cons]
    have : kidsOf [gx.1] one l gx = [] := by
      unfold kidsOf
      rw [if_neg fun z => z.2.2 (by simp)]
    rw [this, List.nil_append]
  rw [e]
  have := gen (g1 ++ g2) fun g hg => hB g (by
    rcases List.mem_append.mp hg with h | h
    · exact List.mem_append_left _ h
    · exact List.mem_append_right _ (List.mem_cons_of_mem _ h))
  rw [List.length_append] at this ⊢
  rw [List.length_cons]
  rw [show g1.length + (g2.length + 1) - 1 = g1.length + g2.length by omega]
  exact this
end
/-- a world that is small enough for the search through all paths -/
def Small (rs : List Str) (gs : List Gt) : Prop := ∃ M D : Nat, (M + 1) ^ D < sizeLine ∧ ∀ gx ∈ gs, gx.2.1.length * gx.2.1.length * (M + 1) ^ D < sizeLine ∧ ∀ one ∈ rs, (∀ k, GoodP gs [gx.1] rs one k → k.length ≤ D) ∧ ∀ l, (kids gs [gx.1] one l).length ≤ M
theorem small_of {rs : List Str} {gs : List Gt} (hr : rs.length ≤ 6) (hg : gs.length ≤ 4) (hm : ∀ g ∈ gs, g.2.1.length ≤ rs.length) : Small rs gs := by
  refine ⟨15, 4, by decide, fun gx hx => ⟨?_, fun one ho => ⟨fun k hk => Nat.le_trans hk.lenG hg, fun l => Nat.le_trans (kids_lenX (B := 5) hx (fun g h => Nat.le_trans (hm g h) hr) l) ?_⟩⟩⟩
  · have h6 : gx.2.1.length ≤ 6 := Nat.le_trans (hm gx hx) hr
    have : gx.2.1.length * gx.2.1.length ≤ 6 * 6 := Nat.mul_le_mul h6 h6
    exact Nat.lt_of_le_of_lt (Nat.mul_le_mul_right _ this) (by decide)
  · omega
theorem small_ring {rs : List Str} {gs : List Gt} (hr : rs.length = 8) (hg : gs.length = 8) (hm : ∀ g ∈ gs, g.2.1.length = 2) : Small rs gs := by
  refine ⟨7, 7, by decide, fun gx hx => ⟨?_, fun one ho => ⟨fun k hk => ?_, fun l => Nat.le_trans (kids_lenX (B := 1) hx (fun g h => by rw [hm g h]; decide) l) ?_⟩⟩⟩
  · rw [hm gx hx]
    decide
  · have := hk.len ho
    omega
  · omega
/-! what repr shows of names, gateways, worlds -/
theorem nm_of {s : Str} (h : s.length ≤ 8) (k : s.cps.toList.all (fun c => decide (97 ≤ c) && decide (c ≤ 122)) = true) : NmOk s := by
  refine ⟨h, fun c hc => ?_⟩
  have := List.all_eq_true.mp k c hc
  rw [Bool.and_eq_true] at this
  exact ⟨of_decide_eq_true this.1, of_decide_eq_true this.2⟩
theorem nm_wrap : NmOk "wrap" := nm_of (by decide +kernel) (by decide +kernel)
theorem nm_open : NmOk "open" := nm_of (by decide +kernel) (by decide +kernel)
theorem fit_str {s : Str} (h : NmOk s) : Fit 0 200 (.str s) := by
  refine ⟨rfl, by rw [PyData.depth]; exact Nat.le_refl _, ?_⟩
  have h1 := PyData.shown_le 8 (by decide) (.str s) (by
    rw [PyData.leavesShort, List.all_eq_true]
    intro c hc
    have := h.low c hc
    unfold Low at this
    have e : (16 : Nat) ^ 8 = 4294967296 := by decide
    exact decide_eq_true (by omega))
  have h2 : s.cps.size ≤ 8 := h.len
  rw [PyData.weight] at h1
  omega
theorem fit_strs {ss : List Str} (h : ∀ s ∈ ss, NmOk s) : Fit 1 (ss.length * 202 + 3) (.tuple (ss.map PyData.str)) := by
  have := fit_tuple (n := 0) (L := 200) (ds := ss.map PyData.str) fun d hd => by
    obtain ⟨s, hs, rfl⟩ := List.mem_map.mp hd
    exact fit_str (h s hs)
  rw [List.length_map] at this
  exact this
/-- a world as laws draw it -/
structure WFine (rs : List Str) (gs : List Gt) : Prop where
  rl : rs.length ≤ 10
  gl : gs.length ≤ 10
  rok : ∀ s ∈ rs, NmOk s
  nd : (gs.map (·.1)).Nodup
  each : ∀ g ∈ gs, NmOk g.1 ∧ g.2.1.length ≤ 10 ∧ (∀ y ∈ g.2.1, y ∈ rs) ∧ NmOk g.2.2
theorem fit_gate {rs : List Str} {gs : List Gt} (h : WFine rs gs) {g : Gt} (hg : g ∈ gs) : Fit 2 7000 (gateD g) := by
  obtain ⟨h1, h2, h3, h4⟩ := h.each g hg
  have a := fit_strs fun s hs => h.rok s (h3 s hs)
  have := fit_tuple (n := 1) (L := 2100) (ds := [.str g.1, .tuple (g.2.1.map PyData.str), .str g.2.2]) fun d hd => by
    simp only [List.mem_cons, List.not_mem_nil, or_false] at hd
    rcases hd with rfl | rfl | rfl
    · exact (fit_str h1).mono (by decide) (by decide)
    · exact a.mono (by decide) (by omega)
    · exact (fit_str h4).mono (by decide) (by decide)
  exact this.mono (by decide) (by show 3 * (2100 + 2) + 3 ≤ 7000; decide)
theorem fit_world {rs : List Str} {gs : List Gt} (h : WFine rs gs) : Fit 60 sizeLine (worldD rs gs) := by
  have a := fit_strs h.rok
  have b := fit_tuple (n := 2) (L := 7000) (ds := gs.map gateD) fun d hd => by
    obtain ⟨g, hg, rfl⟩ := List.mem_map.mp hd
    exact fit_gate h hg
  rw [List.length_map] at b
  have l1 := h.rl
  have l2 := h.gl
  have := fit_tuple (n := 3) (L := 80000) (ds := [.tuple (rs.map PyData.str), .tuple (gs.map gateD)]) fun d hd => by
    simp only [List.mem_cons, List.not_mem_nil, or_false] at hd
    rcases hd with rfl | rfl
    · exact a.mono (by decide) (by omega)
    · exact b.mono (by decide) (by omega)
  exact this.mono (by decide) (by show 2 * (80000 + 2) + 3 ≤ sizeLine; decide)
theorem WorldOk.fine {rs : List Str} {gs : List Gt} (h : WorldOk rs gs) : WFine rs gs := by
  obtain ⟨n, h1, h2, h3⟩ := h.reg
  obtain ⟨m, h4, h5⟩ := h.gat
  have l1 := h3.length
  have l2 := h5.length
  rw [List.length_map] at l2
  refine ⟨by omega, by omega, h3.nm, names_nodup h5, fun g hg => ?_⟩
  have k := h.each g hg
  refine ⟨k.nm, by have := k.len; omega, k.sub, ?_⟩
  rcases k.kind with e | e
  · rw [e]
    exact nm_wrap
  · rw [e]
    exact nm_open
theorem lay_ints : ∀ ns : List Int, PyData.canLayAll0 (ns.map PyData.int) = true ∧ PyData.depthAll (ns.map PyData.int) = 0
  | [] => ⟨by rw [List.map_nil, PyData.canLayAll0], by rw [List.map_nil, PyData.depthAll]⟩
  | n :: ns => by
    obtain ⟨h1, h2⟩ := lay_ints ns
    rw [List.map_cons, PyData.canLayAll0, PyData.depthAll, h1, h2, PyData.canLay0, PyData.depth]
    exact ⟨rfl, rfl⟩
theorem shaped_ints (ns : List Int) : SeqAt.shaped (.list (ns.map PyData.int)) = true := by
  obtain ⟨h1, h2⟩ := lay_ints ns
  unfold SeqAt.shaped
  rw [PyData.canLay0, PyData.depth, h1, h2]
  rfl
theorem dp_ints {K : PySem.W.Frag} {H : Hp} : ∀ ns : List Int, DpAll K H (ns.map V.int) (ns.map PyData.int)
  | [] => .nil
  | n :: ns => .cons (.int n) (dp_ints ns)
theorem str_tri (a b : Str) : a.cps.toList < b.cps.toList ∨ a = b ∨ b.cps.toList < a.cps.toList := by
  by_cases h1 : a.cps.toList < b.cps.toList
  · exact .inl h1
  · by_cases h2 : b.cps.toList < a.cps.toList
    · exact .inr (.inr h2)
    · have e : a.cps.toList = b.cps.toList := List.le_antisymm (List.not_lt.mp h2) (List.not_lt.mp h1)
      refine .inr (.inl ?_)
      obtain ⟨⟨x⟩⟩ := a
      obtain ⟨⟨y⟩⟩ := b
      have e : x = y := e
      rw [e]
theorem str_irrefl {a b : Str} (h : a.cps.toList < b.cps.toList) : a ≠ b := fun e => by
  rw [e] at h
  exact List.lt_irrefl _ h
end WT

set_option Elab.async false
set_option linter.all false
set_option maxRecDepth 100000
set_option maxHeartbeats 4000000
namespace WT
open PySem PySem.Spec PyProof.Rows L2
/-! ### the search for a shortest path: what it does, as a function, and that what it finds is shortest -/
abbrev Pth := List (Str × Str)
abbrev Tab := List (Str × Pth)
def keysT (t : Tab) : List Str := t.map (·.1)
def tabGet : Tab → Str → Option Pth
  | [], _ => none
  | p :: t, x => if p.1 = x then some p.2 else tabGet t x
def bfsOne (lr : Pth) (st : Tab × List Str) (e : Str × Str) : Tab × List Str := if e.2 ∈ keysT st.1 then st else (st.1 ++ [(e.2, lr ++ [e])], st.2 ++ [e.2])
def bfsReg (gs : List Gt) (bar : List Str) (st : Tab × List Str) (r : Str) : Tab × List Str := (exitsL gs bar r).foldl (bfsOne ((tabGet st.1 r).getD [])) st
def bfsLev (gs : List Gt) (bar : List Str) (t : Tab) (far : List Str) : Tab × List Str := far.foldl (bfsReg gs bar) (t, [])
def bfs (gs : List Gt) (bar : List Str) (other : Str) : Nat → Tab → List Str → Tab
  | 0, t, _ => t
  | n + 1, t, far => if far = [] ∨ other ∈ keysT t then t else bfs gs bar other n (bfsLev gs bar t far).1 (bfsLev gs bar t far).2
/-- the path that shortest_path hands back -/
def spath (gs : List Gt) (bar rs : List Str) (one other : Str) : Option Pth := tabGet (bfs gs bar other (2 * rs.length + 2) [(one, [])] [one]) other
theorem get_mem : ∀ {t : Tab} {x : Str} {l : Pth}, tabGet t x = some l → (x, l) ∈ t
  | [], _, _, h => by cases h
  | p :: t, x, l, h => by
    unfold tabGet at h
    by_cases c : p.1 = x
    · rw [if_pos c] at h
      cases h
      rw [← c]
      exact List.mem_cons_self
    · rw [if_neg c] at h
      exact List.mem_cons_of_mem _ (get_mem h)
theorem get_some : ∀ {t : Tab} {x : Str}, x ∈ keysT t → ∃ l, tabGet t x = some l
  | [], _, h => by cases h
  | p :: t, x, h => by
    unfold tabGet
    by_cases c : p.1 = x
    · exact ⟨_, by rw [if_pos c]⟩
    · rw [if_neg c]
      rcases List.mem_cons.mp h with e | h
      · exact absurd e.symm c
      · exact get_some h
theorem get_none : ∀ {t : Tab} {x : Str}, x ∉ keysT t → tabGet t x = none
  | [], _, _ => rfl
  | p :: t, x, h => by
    unfold tabGet
    rw [if_neg fun e => h (by rw [← e]; exact List.mem_cons_self)]
    exact get_none fun z => h (List.mem_cons_of_mem _ z)
theorem get_app {t u : Tab} {x : Str} (h : x ∈ keysT t) : tabGet (t ++ u) x = tabGet t x := by
  induction t with
  | nil => cases h
  | cons p t ih =>
    rw [List.cons_append]
    unfold tabGet
    by_cases c : p.1 = x
    · rw [if_pos c, if_pos c]
    · rw [if_neg c, if_neg c]
      rcases List.mem_cons.mp h with e | h
      · exact absurd e.symm c
      · exact ih h
theorem keys_app (t u : Tab) : keysT (t ++ u) = keysT t ++ keysT u := List.map_append
theorem mem_keys {t : Tab} {p : Str × Pth} (h : p ∈ t) : p.1 ∈ keysT t := List.mem_map.mpr ⟨p, h, rfl⟩
section
variable {gs : List Gt} {bar rs : List Str} {one other : Str}
/-- the table after d rounds -/
structure BOk (gs : List Gt) (bar rs : List Str) (one : Str) (d : Nat) (t : Tab) (far : List Str) : Prop where
  nod : (keysT t).Nodup
  sub : ∀ x ∈ keysT t, x ∈ rs
  ok : ∀ p ∈ t, SPath gs bar one p.2 p.1 ∧ p.2.length ≤ d ∧ ∀ m, SPath gs bar one m p.1 → p.2.length ≤ m.length
  all : ∀ x m, SPath gs bar one m x → m.length ≤ d → x ∈ keysT t
  ffar : ∀ p ∈ t, p.1 ∈ far ↔ p.2.length = d
  fsub : ∀ x ∈ far, x ∈ keysT t
/-- what a round has added so far -/
structure BMid (gs : List Gt) (bar rs : List Str) (one : Str) (d : Nat) (t add : Tab) : Prop where
  nod : (keysT (t ++ add)).Nodup
  sub : ∀ x ∈ keysT add, x ∈ rs
  ok : ∀ p ∈ add, SPath gs bar one p.2 p.1 ∧ p.2.length = d + 1
theorem BOk.first (h : one ∈ rs) : BOk gs bar rs one 0 [(one, [])] [one] := by
  refine ⟨by simp [keysT], fun x hx => ?_, fun p hp => ?_, fun x m hm hl => ?_, fun p hp => ?_, fun x hx => ?_⟩
  · rw [List.mem_singleton.mp hx]
    exact h
  · rw [List.mem_singleton.mp hp]
    exact ⟨.nil one, Nat.le_refl _, fun m _ => Nat.zero_le _⟩
  · have : m = [] := List.length_eq_zero_iff.mp (by omega)
    subst this
    cases hm
    exact List.mem_cons_self
  · rw [List.mem_singleton.mp hp]
    simp
  · exact hx
theorem BMid.first {d : Nat} {t : Tab} {far : List Str} (h : BOk gs bar rs one d t far) : BMid gs bar rs one d t [] := ⟨by rw [List.append_nil]; exact h.nod, fun x hx => (nomatch hx), fun p hp => (nomatch hp)⟩
theorem exits_step {x : Str} {e : Str × Str} (h : e ∈ exitsL gs bar x) : Step gs bar x e.1 e.2 := by
  unfold exitsL at h
  obtain ⟨g, hg, he⟩ := List.mem_flatMap.mp h
  by_cases c : x ∈ g.2.1 ∧ g.1 ∉ bar
  · rw [if_pos c] at he
    obtain ⟨y, hy, rfl⟩ := List.mem_map.mp he
    exact ⟨g, hg, rfl, c.2, c.1, (List.mem_filter.mp hy).1⟩
  · rw [if_neg c] at he
    cases he
theorem BMid.one_ {d : Nat} {t add : Tab} {far : List Str} {r : Str} {lr : Pth} {e : Str × Str} (hm : ∀ g ∈ gs, ∀ z ∈ g.2.1, z ∈ rs) (B : BOk gs bar rs one d t far) (h : BMid gs bar rs one d t add) (hr : (r, lr) ∈ t) (hl : lr.length = d) (he : e ∈ exitsL gs bar r) :
    ∃ add', bfsOne lr (t ++ add, keysT add) e = (t ++ add', keysT add') ∧ BMid gs bar rs one d t add' ∧ e.2 ∈ keysT (t ++ add') ∧ ∀ x ∈ keysT (t ++ add), x ∈ keysT (t ++ add') := by
  unfold bfsOne
  by_cases c : e.2 ∈ keysT (t ++ add)
  · rw [if_pos c]
    exact ⟨add, rfl, h, c, fun x hx => hx⟩
  · rw [if_neg c]
    refine ⟨add ++ [(e.2, lr ++ [e])], ?_, ⟨?_, fun x hx => ?_, fun p hp => ?_⟩, ?_, fun x hx => ?_⟩
    · rw [List.append_assoc, keys_app]
      rfl
    · rw [← List.append_assoc, keys_app]
      refine List.nodup_append.mpr ⟨h.nod, by simp [keysT], fun a ha b hb q => ?_⟩
      have hb : b = e.2 := by simpa [keysT] using hb
      exact c (hb ▸ q ▸ ha)
    · rw [keys_app] at hx
      rcases List.mem_append.mp hx with hx | hx
      · exact h.sub x hx
      · have hx : x = e.2 := by simpa [keysT] using hx
        obtain ⟨g, hg, _, _, _, h4⟩ := exits_step he
        rw [hx]
        exact hm g hg _ h4
    · rcases List.mem_append.mp hp with hp | hp
      · exact h.ok p hp
      · rw [List.mem_singleton.mp hp]
        refine ⟨(B.ok _ hr).1.app ?_, by simp [hl]⟩
        have := exits_step he
        exact .cons this (.nil _)
    · rw [← List.append_assoc, keys_app]
      exact List.mem_append_right _ (by simp [keysT])
    · rw [← List.append_assoc, keys_app]
      exact List.mem_append_left _ hx
/-- a region's exits, j of them -/
theorem BMid.reg {d : Nat} {t add : Tab} {far : List Str} {r : Str} {lr : Pth} (hm : ∀ g ∈ gs, ∀ z ∈ g.2.1, z ∈ rs) (B : BOk gs bar rs one d t far) (h : BMid gs bar rs one d t add) (hr : (r, lr) ∈ t) (hl : lr.length = d) :
    ∀ es : List (Str × Str), (∀ e ∈ es, e ∈ exitsL gs bar r) → ∃ add', es.foldl (bfsOne lr) (t ++ add, keysT add) = (t ++ add', keysT add') ∧ BMid gs bar rs one d t add' ∧ (∀ e ∈ es, e.2 ∈ keysT (t ++ add')) ∧ ∀ x ∈ keysT (t ++ add), x ∈ keysT (t ++ add') := by
  intro es
  induction es generalizing add with
  | nil => exact fun _ => ⟨add, rfl, h, fun e he => (nomatch he), fun x hx => hx⟩
  | cons e es ih =>
    intro hes
    obtain ⟨a1, e1, h1, k1, s1⟩ := BMid.one_ hm B h hr hl (hes e List.mem_cons_self)
    obtain ⟨a2, e2, h2, k2, s2⟩ := ih h1 fun x hx => hes x (List.mem_cons_of_mem _ hx)
    refine ⟨a2, by rw [List.foldl_cons, e1, e2], h2, fun x hx => ?_, fun x hx => s2 x (s1 x hx)⟩
    rcases List.mem_cons.mp hx with q | hx
    · rw [q]
      exact s2 _ k1
    · exact k2 x hx
theorem BOk.at_far {d : Nat} {t : Tab} {far : List Str} (B : BOk gs bar rs one d t far) {r : Str} (h : r ∈ far) : ∃ lr, tabGet t r = some lr ∧ (r, lr) ∈ t ∧ lr.length = d := by
  obtain ⟨lr, e⟩ := get_some (B.fsub r h)
  have m := get_mem e
  exact ⟨lr, e, m, (B.ffar _ m).mp h⟩
theorem BMid.lev {d : Nat} {t add : Tab} {far : List Str} (hm : ∀ g ∈ gs, ∀ z ∈ g.2.1, z ∈ rs) (B : BOk gs bar rs one d t far) (h : BMid gs bar rs one d t add) :
    ∀ fs : List Str, (∀ r ∈ fs, r ∈ far) → ∃ add', fs.foldl (bfsReg gs bar) (t ++ add, keysT add) = (t ++ add', keysT add') ∧ BMid gs bar rs one d t add' ∧ (∀ r ∈ fs, ∀ e ∈ exitsL gs bar r, e.2 ∈ keysT (t ++ add')) ∧ ∀ x ∈ keysT (t ++ add), x ∈ keysT (t ++ add') := by
  intro fs
  induction fs generalizing add with
  | nil => exact fun _ => ⟨add, rfl, h, fun e he => (nomatch he), fun x hx => hx⟩
  | cons r fs ih =>
    intro hf
    obtain ⟨lr, e0, m0, l0⟩ := B.at_far (hf r List.mem_cons_self)
    obtain ⟨a1, e1, h1, k1, s1⟩ := BMid.reg hm B h m0 l0 (exitsL gs bar r) fun e he => he
    obtain ⟨a2, e2, h2, k2, s2⟩ := ih h1 fun x hx => hf x (List.mem_cons_of_mem _ hx)
    have er : bfsReg gs bar (t ++ add, keysT add) r = (t ++ a1, keysT a1) := by
      unfold bfsReg
      rw [get_app (B.fsub r (hf r List.mem_cons_self)), e0]
      exact e1
    refine ⟨a2, by rw [List.foldl_cons, er, e2], h2, fun x hx e he => ?_, fun x hx => s2 x (s1 x hx)⟩
    rcases List.mem_cons.mp hx with q | hx
    · rw [q] at he
      exact s2 _ (k1 e he)
    · exact k2 x hx e he
theorem BOk.next {d : Nat} {t : Tab} {far : List Str} (hm : ∀ g ∈ gs, ∀ z ∈ g.2.1, z ∈ rs) (B : BOk gs bar rs one d t far) : ∃ add, bfsLev gs bar t far = (t ++ add, keysT add) ∧ BOk gs bar rs one (d + 1) (t ++ add) (keysT add) := by
  obtain ⟨add, e, h, k, _⟩ := BMid.lev hm B (.first B) far fun r hr => hr
  rw [List.append_nil] at e
  refine ⟨add, e, h.nod, fun x hx => ?_, fun p hp => ?_, fun x m hx hl => ?_, fun p hp => ?_, fun x hx => ?_⟩
  · rw [keys_app] at hx
    rcases List.mem_append.mp hx with hx | hx
    · exact B.sub x hx
    · exact h.sub x hx
  · rcases List.mem_append.mp hp with hp | hp
    · obtain ⟨h1, h2, h3⟩ := B.ok p hp
      exact ⟨h1, by omega, h3⟩
    · obtain ⟨h1, h2⟩ := h.ok p hp
      refine ⟨h1, by omega, fun m hq => ?_⟩
      rcases Nat.lt_or_ge d m.length with q | q
      · omega
      · exfalso
        have n := h.nod
        rw [keys_app] at n
        exact (List.nodup_append.mp n).2.2 _ (B.all _ m hq q) _ (mem_keys hp) rfl
  · rw [keys_app]
    rcases Nat.lt_or_ge d m.length with q | q
    · rcases List.eq_nil_or_concat m with rfl | ⟨m', p, rfl⟩
      · simp at q
      · obtain ⟨n, z⟩ := p
        rw [List.concat_eq_append] at hx hl q
        obtain ⟨y, h1, h2⟩ := hx.split
        cases h2 with
        | cons s s2 =>
          cases s2
          have ml : m'.length = d := by
            simp at hl q
            omega
          obtain ⟨ly, ey⟩ := get_some (B.all y m' h1 (by omega))
          have my := get_mem ey
          obtain ⟨o1, o2, o3⟩ := B.ok _ my
          rcases Nat.lt_or_ge ly.length d with q2 | q2
          · exact List.mem_append_left _ (B.all _ (ly ++ [(n, x)]) (o1.app (.cons s (.nil _))) (by simp; omega))
          · have q3 : ly.length = d := Nat.le_antisymm o2 q2
            have yf : y ∈ far := (B.ffar _ my).mpr q3
            by_cases c : x = y
            · rw [c]
              exact List.mem_append_left _ (mem_keys my)
            · obtain ⟨g, hg, e1, e2, e3, e4⟩ := s
              obtain ⟨ex, hex, q4⟩ := adj_exits (gs := gs) (bar := bar) (x := y) (y := x) ⟨g, hg, by rw [e1]; exact e2, e3, e4⟩ c
              have := k y yf ex hex
              rw [q4, keys_app] at this
              exact this
    · exact List.mem_append_left _ (B.all x m hx q)
  · rcases List.mem_append.mp hp with hp | hp
    · obtain ⟨h1, h2, h3⟩ := B.ok p hp
      constructor
      · intro z
        have n := h.nod
        rw [keys_app] at n
        exact absurd rfl ((List.nodup_append.mp n).2.2 _ (mem_keys hp) _ z)
      · intro z
        omega
    · exact ⟨fun _ => (h.ok p hp).2, fun _ => mem_keys hp⟩
  · rw [keys_app]
    exact List.mem_append_right _ hx
/-- how far the search still can go -/
def bmeas (rs : List Str) (t : Tab) (far : List Str) : Nat := 2 * (rs.length - t.length) + (if far = [] then 0 else 1)
theorem BOk.len {d : Nat} {t : Tab} {far : List Str} (B : BOk gs bar rs one d t far) : t.length ≤ rs.length := by
  have := nodup_le B.nod B.sub
  unfold keysT at this
  rw [List.length_map] at this
  exact this
theorem BOk.less {d : Nat} {t add : Tab} {far : List Str} (B : BOk gs bar rs one d t far) (hf : far ≠ []) (C : BOk gs bar rs one (d + 1) (t ++ add) (keysT add)) : bmeas rs (t ++ add) (keysT add) < bmeas rs t far := by
  have l1 := C.len
  unfold bmeas
  rw [if_neg hf]
  rw [List.length_append] at l1 ⊢
  by_cases e : add = []
  · subst e
    simp [keysT]
  · have : keysT add ≠ [] := fun z => e (by unfold keysT at z; exact List.map_eq_nil_iff.mp z)
    rw [if_neg this]
    have : 0 < add.length := List.length_pos_iff.mpr e
    omega
theorem bfs_stop {t : Tab} {far : List Str} (h : far = [] ∨ other ∈ keysT t) : ∀ n, bfs gs bar other n t far = t
  | 0 => rfl
  | n + 1 => by
    unfold bfs
    rw [if_pos h]
/-- where the search stops, it has found what there is -/
theorem BOk.stop {d : Nat} {t : Tab} {far : List Str} (B : BOk gs bar rs one d t far) (h : far = [] ∨ other ∈ keysT t) : Conn gs bar one other → other ∈ keysT t := by
  intro c
  rcases h with h | h
  · obtain ⟨l, hl⟩ := c.path
    clear c
    have key : ∀ {x : Str} {l : Pth}, SPath gs bar one l x → x ∈ keysT t := fun {x l} h' => by
      have : ∀ (k : Nat) (x : Str) (l : Pth), l.length = k → SPath gs bar one l x → x ∈ keysT t := fun k => by
        induction k with
        | zero => exact fun x l e hx => B.all x l hx (by omega)
        | succ k ih =>
          intro x l e hx
          rcases List.eq_nil_or_concat l with rfl | ⟨m', p, rfl⟩
          · simp at e
          · obtain ⟨n, z⟩ := p
            rw [List.concat_eq_append] at hx e
            obtain ⟨y, h1, h2⟩ := hx.split
            cases h2 with
            | cons s s2 =>
              cases s2
              have yk := ih y m' (by simp at e; omega) h1
              obtain ⟨ly, ey⟩ := get_some yk
              have my := get_mem ey
              obtain ⟨o1, o2, o3⟩ := B.ok _ my
              have nf : ly.length ≠ d := fun q => by
                have := (B.ffar _ my).mpr q
                rw [h] at this
                cases this
              have o2 : ly.length ≤ d := o2
              exact B.all _ (ly ++ [(n, x)]) (o1.app (.cons s (.nil _))) (by simp; omega)
      exact this _ x l rfl h'
    exact key hl
  · exact h
/-- the mirror's run is the invariant's -/
theorem bfs_ok (hm : ∀ g ∈ gs, ∀ z ∈ g.2.1, z ∈ rs) : ∀ (n d : Nat) (t : Tab) (far : List Str), BOk gs bar rs one d t far → bmeas rs t far ≤ n → ∃ d' far', BOk gs bar rs one d' (bfs gs bar other n t far) far' ∧ (far' = [] ∨ other ∈ keysT (bfs gs bar other n t far))
  | 0, d, t, far, B, h => by
    refine ⟨d, far, B, .inl ?_⟩
    unfold bmeas at h
    by_cases c : far = []
    · exact c
    · rw [if_neg c] at h
      omega
  | n + 1, d, t, far, B, h => by
    by_cases c : far = [] ∨ other ∈ keysT t
    · rw [bfs_stop c]
      exact ⟨d, far, B, c⟩
    · obtain ⟨add, e, C⟩ := B.next hm
      have l := B.less (fun z => c (.inl z)) C
      unfold bfs
      rw [if_neg c, e]
      exact bfs_ok hm n (d + 1) (t ++ add) (keysT add) C (Nat.le_of_lt_succ (Nat.lt_of_lt_of_le l h))
theorem bmeas_first : bmeas rs [(one, [])] [one] ≤ 2 * rs.length + 2 := by
  unfold bmeas
  simp
  omega
/-- shortest, or none where there is no path -/
theorem spath_none (hm : ∀ g ∈ gs, ∀ z ∈ g.2.1, z ∈ rs) (ho : one ∈ rs) : spath gs bar rs one other = none ↔ ¬ Conn gs bar one other := by
  obtain ⟨d, far, B, s⟩ := bfs_ok (other := other) hm _ 0 _ _ (BOk.first (gs := gs) (bar := bar) ho) bmeas_first
  unfold spath
  constructor
  · intro h c
    obtain ⟨l, e⟩ := get_some (B.stop s c)
    rw [e] at h
    cases h
  · intro h
    refine get_none fun z => h ?_
    obtain ⟨l, e⟩ := get_some z
    exact (B.ok _ (get_mem e)).1.conn
theorem spath_some (hm : ∀ g ∈ gs, ∀ z ∈ g.2.1, z ∈ rs) (ho : one ∈ rs) {l : Pth} (h : spath gs bar rs one other = some l) : SPath gs bar one l other ∧ ∀ m, SPath gs bar one m other → l.length ≤ m.length := by
  obtain ⟨d, far, B, s⟩ := bfs_ok (other := other) hm _ 0 _ _ (BOk.first (gs := gs) (bar := bar) ho) bmeas_first
  obtain ⟨h1, _, h3⟩ := B.ok _ (get_mem h)
  exact ⟨h1, h3⟩
theorem SPath.good (nd : (gs.map (·.1)).Nodup) {x y : Str} {l : Pth} (h : SPath gs bar x l y) (hl : ∀ m, SPath gs bar x m y → l.length ≤ m.length) : (x :: l.map (·.2)).Nodup ∧ (l.map (·.1)).Nodup := by
  obtain ⟨m, h1, h2, h3⟩ := simple_of nd l.length l rfl h
  by_cases c1 : (x :: l.map (·.2)).Nodup
  · by_cases c2 : (l.map (·.1)).Nodup
    · exact ⟨c1, c2⟩
    · exfalso
      obtain ⟨n, l1, l2, l3, e⟩ := twice c2
      obtain ⟨m1, p, r, rfl, e1, e2, e3⟩ := cut_map e
      obtain ⟨m2, p', m3, rfl, e4, e5, e6⟩ := cut_map e3
      obtain ⟨u, hu, hr⟩ := h.split
      obtain ⟨n1, z1⟩ := p
      obtain ⟨n2, z2⟩ := p'
      cases hr with
      | cons s1 t1 =>
        obtain ⟨v, hv, hr2⟩ := t1.split
        cases hr2 with
        | cons s2 t2 =>
          obtain ⟨g1, hg1, a1, b1, c1, d1⟩ := s1
          obtain ⟨g2, hg2, a2, b2, c2, d2⟩ := s2
          have en : n1 = n2 := by
            have e2 : n1 = n := e2
            have e5 : n2 = n := e5
            rw [e2, e5]
          obtain rfl : g1 = g2 := by_name nd hg1 hg2 (by rw [a1, a2, en])
          have := hl (m1 ++ (n1, z2) :: m3) (hu.app (.cons ⟨g1, hg1, a1, b1, c1, d2⟩ t2))
          simp at this
          omega
  · exfalso
    obtain ⟨z, l1, l2, l3, e⟩ := twice c1
    cases l1 with
    | nil =>
      rw [List.nil_append] at e
      obtain ⟨ex, er⟩ := List.cons.inj e
      subst ex
      obtain ⟨m1, p, m2, rfl, e1, e2, e3⟩ := cut_map er
      obtain ⟨n1, z1⟩ := p
      obtain rfl : z1 = x := e2
      obtain ⟨u, hu, hr⟩ := h.split
      cases hr with
      | cons s1 t1 =>
        have := hl m2 t1
        simp at this
        omega
    | cons a l1 =>
      obtain ⟨_, er⟩ := List.cons.inj e
      obtain ⟨m1, p, r, rfl, e1, e2, e3⟩ := cut_map er
      obtain ⟨m2, p', m3, rfl, e4, e5, e6⟩ := cut_map e3
      obtain ⟨n1, z1⟩ := p
      obtain ⟨n2, z2⟩ := p'
      obtain rfl : z1 = z := e2
      obtain rfl : z2 = z1 := e5
      obtain ⟨u, hu, hr⟩ := h.split
      cases hr with
      | cons s1 t1 =>
        obtain ⟨v, hv, hr2⟩ := t1.split
        cases hr2 with
        | cons s2 t2 =>
          have := hl (m1 ++ (n1, z2) :: m3) (hu.app (.cons s1 t2))
          simp at this
          omega
/-- a shortest path is a path in which nothing comes twice -/
theorem spath_good (nd : (gs.map (·.1)).Nodup) (hm : ∀ g ∈ gs, ∀ z ∈ g.2.1, z ∈ rs) (ho : one ∈ rs) {l : Pth} (h : spath gs bar rs one other = some l) : GoodP gs bar rs one l ∧ lastOf one l = other := by
  obtain ⟨h1, h2⟩ := spath_some hm ho h
  obtain ⟨h3, h4⟩ := h1.good nd h2
  exact ⟨⟨⟨_, h1⟩, h3, h4, h1.sub hm⟩, h1.end_.symm⟩
end
end WT

set_option Elab.async false
set_option linter.all false
namespace WT
open PySem PySem.Spec PyProof.Rows L2
/-- the dict of the search in memory -/
def TabAt (one : Str) (H : Hp) (kvs : List (Key × V)) (t : Tab) : Prop := Paired (fun (kv : Key × V) (p : Str × Pth) => kv.1 = Sum.inr p.1 ∧ ∃ a, kv.2 = .ref a ∧ H a = some (.tup (pathV one p.2))) kvs t
theorem TabAt.same {one : Str} {H H' : Hp} {kvs : List (Key × V)} {t : Tab} (h : TabAt one H kvs t) (s : ∀ c xs, H c = some (.tup xs) → H' c = some (.tup xs)) : TabAt one H' kvs t :=
  Paired.mapP h fun _ _ ⟨e, a, e1, e2⟩ => ⟨e, a, e1, s _ _ e2⟩
theorem TabAt.none_ {one : Str} {H : Hp} {x : Str} : ∀ {kvs : List (Key × V)} {t : Tab}, TabAt one H kvs t → x ∉ keysT t → valV kvs (Sum.inr x) = none
  | _, _, .nil, _ => rfl
  | _, _, .cons (a := kv) (b := p) r t, h => by
    rw [valV_neg fun e => h (by
      rw [r.1] at e
      cases e
      exact List.mem_cons_self)]
    exact TabAt.none_ t fun z => h (List.mem_cons_of_mem _ z)
theorem TabAt.some_ {one : Str} {H : Hp} {x : Str} {l : Pth} : ∀ {kvs : List (Key × V)} {t : Tab}, TabAt one H kvs t → tabGet t x = some l → ∃ a, valV kvs (Sum.inr x) = some (.ref a) ∧ H a = some (.tup (pathV one l))
  | _, _, .nil, h => by cases h
  | _, _, .cons (a := kv) (b := p) r t, h => by
    unfold tabGet at h
    by_cases c : p.1 = x
    · rw [if_pos c] at h
      cases h
      obtain ⟨e, a, e1, e2⟩ := r
      exact ⟨a, by rw [valV_pos (by rw [e, c]), e1], e2⟩
    · rw [if_neg c] at h
      rw [valV_neg fun e => c (by
        rw [r.1] at e
        cases e
        rfl)]
      exact TabAt.some_ t h
theorem TabAt.put {one : Str} {H : Hp} {kvs : List (Key × V)} {t : Tab} {x : Str} {l : Pth} {a : Addr} (h : TabAt one H kvs t) (hx : x ∉ keysT t) (ha : H a = some (.tup (pathV one l))) : putK kvs (Sum.inr x) (.ref a) = kvs ++ [(Sum.inr x, .ref a)] ∧ TabAt one H (kvs ++ [(Sum.inr x, .ref a)]) (t ++ [(x, l)]) :=
  ⟨putK_new _ (h.none_ hx), pair_snoc h ⟨rfl, a, rfl, ha⟩⟩
theorem BMid.len {gs : List Gt} {bar rs : List Str} {one : Str} {d : Nat} {t add : Tab} {far : List Str} (h : BMid gs bar rs one d t add) (B : BOk gs bar rs one d t far) : (t ++ add).length ≤ rs.length := by
  have := nodup_le (rs := rs) h.nod fun x hx => by
    rw [keys_app] at hx
    rcases List.mem_append.mp hx with hx | hx
    · exact B.sub x hx
    · exact h.sub x hx
  unfold keysT at this
  rw [List.length_map] at this
  exact this
/-- a path, or None -/
def PathRes (one : Str) (H : Hp) (v : V) : Option Pth → Prop
  | none => v = .non
  | some l => ∃ t, v = .ref t ∧ H t = some (.tup (pathV one l))
theorem PathRes.same {one : Str} {H H' : Hp} {v : V} {o : Option Pth} (h : PathRes one H v o) (s : Same H H') : PathRes one H' v o := by
  cases o with
  | none => exact h
  | some l =>
    obtain ⟨t, e1, e2⟩ := h
    exact ⟨t, e1, s _ _ e2⟩
end WT

set_option Elab.async false
set_option linter.all false
set_option maxRecDepth 100000
set_option maxHeartbeats 4000000
/-! min(xs, key=len, default=None), xs a list of tuples. -/
namespace WT
open PySem PySem.Spec PyProof.Rows L2
def lenAt (ts : List (Addr × List V)) (i : Nat) : Int := ((ts[i]?).map fun t => (t.2.length : Int)).getD 0
/-- the first of the shortest, or None -/
def tMinLen (K : PySem.W.Frag) (ta : TA) : TE := fun σ H Q => ta σ H fun vs H1 => ∃ (a : Addr) (ts : List (Addr × List V)), vs = [.ref a] ∧ SqL K H1 a (ts.map fun t => V.ref t.1) ∧ (∀ t ∈ ts, SqT K H1 t.1 t.2) ∧ (ts = [] → Q .non H1) ∧ ∀ t ∈ ts, (∀ u ∈ ts, t.2.length ≤ u.2.length) → Q (.ref t.1) H1
section
variable {X : Cx}
/-- what stood, stands -/
def Grown (s s' : Shared) : Prop := ∃ (h' : Heap) (tk : Nat), s' = { s with heap := h', toks := tk } ∧ ∀ b o, s.heap.get? b = some o → h'.get? b = some o
theorem Grown.moved {s s1 s2 : Shared} {ch : List Addr} (g : Grown s s1) (m : Moved ch (fun a b => b = a) s1 s2) (hc : ∀ b ∈ ch, s.heap.objs.size ≤ b) : Grown s s2 := by
  obtain ⟨h', tk, rfl, k⟩ := g
  refine ⟨s2.heap, s2.toks, ?_, fun b o e => m.heap b o (fun hb => absurd (Heap.lt_size e) (Nat.not_lt.mpr (hc b hb))) (k b o e)⟩
  obtain ⟨h2, g2, d2, t2, o2⟩ := s2
  have e1 := m.gens
  have e2 := m.drawn
  have e3 := m.os
  simp only at e1 e2 e3
  subst e1 e2 e3
  rfl
theorem run_minLen {pins : List (Addr × Obj)} {σ : L2.St} {H : Hp} {s : Shared} {Q : VK} {a : Addr} {ts : List (Addr × List V)} (hh : X.A.handled = none) (I : Inv X pins σ H s) (hl : SqL X.K H a (ts.map fun t => V.ref t.1)) (ht : ∀ t ∈ ts, SqT X.K H t.1 t.2)
    (h0 : ts = [] → Q .non H) (h1 : ∀ t ∈ ts, (∀ u ∈ ts, t.2.length ≤ u.2.length) → Q (.ref t.1) H) :
    wpAny (model X.prog X.w) X.A (call (.builtin "min") [.ref a] [(Str.ofString "key", .builtin "len"), (Str.ofString "default", .none)]) (EP X pins σ Q) X.xe s := by
  obtain ⟨its, rv, pl, hz⟩ := I.list hl
  have hlen : its.length = ts.length := by
    have := rv.length
    rw [List.length_map] at this
    exact this.symm
  have at_ : ∀ (i : Nat) (v : Value), its.toArray[i]? = some v → ∃ t, ts[i]? = some t ∧ v = .ref t.1 := fun i v hv => by
    have hv : its[i]? = some v := by simpa using hv
    have hi : i < ts.length := by
      have := (List.getElem?_eq_some_iff.mp hv).1
      omega
    obtain ⟨u, hu, ru⟩ := rv.get (i := i) (x := .ref ts[i].1) (by rw [List.getElem?_map, List.getElem?_eq_getElem hi]; rfl)
    rw [hv] at hu
    cases hu
    exact ⟨ts[i], List.getElem?_eq_getElem hi, ru⟩
  refine call_min_walkKBD (PySem.W.iter_listW (A := X.A.in1) hh pl.isList fun s2 e2 W hst hfp hnew hold => ?_)
  have hbig : ∀ b ∈ s2.heap.objs.size :: [s.heap.objs.size], s.heap.objs.size ≤ b := fun b hb => by
    rcases List.mem_cons.mp hb with rfl | hb
    · rw [e2]
      show s.heap.objs.size ≤ (s.heap.push _).objs.size
      rw [Heap.size_push]
      exact Nat.le_succ _
    · rw [List.mem_singleton.mp hb]
      exact Nat.le_refl _
  refine ⟨s.heap.objs.size, _, _, _, _, _, _, Grown s, fun i k _ => ∃ t, k = .int (lenAt ts i) t, fun i j => decide (lenAt ts i < lenAt ts j), rfl, W, hst, hfp, ?_, ⟨s2.heap, s2.toks, by rw [e2], hold⟩, fun hn s' g => ?_, fun hn v s' hv g => ?_⟩
  · refine ⟨fun s1 s' g m => g.moved m hbig, fun i k s1 s' h _ => h, fun i v s1 o Q' E' hi hv g st hS hQ => ?_, fun i j ki kj s1 Q' E' g hi hj hQ => ?_⟩
    · obtain ⟨t, hti, rfl⟩ := at_ i v hv
      obtain ⟨us, ru, pt, hz2⟩ := I.tuple (ht t (List.mem_of_getElem? hti))
      obtain ⟨h', tk, rfl, k⟩ := g
      refine len_tuple (pt.keeps k) ?_ (hQ _ _ ⟨h', tk + 1 + 1, rfl, k⟩ st hS ⟨tk + 1, ?_⟩ fun j k' hj => hj)
      · have l1 := ru.length
        have l2 := line63
        simp
        omega
      · have l1 := ru.length
        unfold lenAt
        rw [hti]
        simp [l1]
    · obtain ⟨t, rfl⟩ := hi
      obtain ⟨u, rfl⟩ := hj
      exact wpAny_lt_int hQ
  · have : ts = [] := by
      rw [List.size_toArray] at hn
      exact List.length_eq_zero_iff.mp (by omega)
    obtain ⟨h', tk, rfl, k⟩ := g
    exact ⟨.non, H, I.kept (t' := tk) k, rfl, h0 this⟩
  · obtain ⟨t, hti, rfl⟩ := at_ _ v hv
    obtain ⟨h', tk, rfl, k⟩ := g
    have best := argBest_lt (lenAt ts) (its.toArray.size - 1)
    refine ⟨.ref t.1, H, I.kept (t' := tk) k, rfl, h1 t (List.mem_of_getElem? hti) fun u hu => ?_⟩
    obtain ⟨j, hj, ej⟩ := List.getElem_of_mem hu
    have b := best.2 j (by rw [List.size_toArray]; omega)
    have e1 : lenAt ts j = (u.2.length : Int) := by
      unfold lenAt
      rw [List.getElem?_eq_getElem hj, ej]
      rfl
    have e2 : lenAt ts (argBest (fun i j => decide (lenAt ts i < lenAt ts j)) (its.toArray.size - 1)) = (t.2.length : Int) := by
      unfold lenAt at hti ⊢
      rw [hti]
      rfl
    rw [e1, e2] at b
    omega
theorem pe_minLen {e : Expr} {ta : TA} {p p2 k1 k2 k3 pos : Pos} {j : Nat} (hcalm : X.calm = true) (hg : Gl X "min") (hm : X.mg "min" = none) (hg2 : Gl X "len") (hm2 : X.mg "len" = none) (ha : PA X [e] ta)
    (hst : backTo pos (starEach [e] X.env) = (false, eval e X.env) :: backTo pos (starEach [] X.env) := by rfl) (hpl : (backTo pos (starEach [e] X.env)).any (·.1) = false := by rfl) :
    PE X (.Call (.Name "min" p) [e] [⟨some "key", .Name "len" p2, k1⟩, ⟨some "default", .Constant .none j k2, k3⟩] pos) (tMinLen X.K ta) := by
  refine ⟨fun pins s σ H Q I h => ?_⟩
  refine wpAny_Call_Name_kw (ld_blt I hg hm boot_min ?_)
  refine PyProof.Rows.callWith_kw (thn (ha.run pos pins s σ H _ I h) fun us s1 ⟨vs, H1, I1, r1, q1⟩ => ?_) hst hpl
  obtain ⟨a, ts, rfl, hl, ht, h0, h1⟩ := q1
  have ea := Vals.ref1 r1
  subst ea
  show wpAny _ _ (evalAll ((do let v ← eval (.Name "len" p2) X.env; standAt pos; pure v) :: (backToKw pos (keywordEach [⟨some "default", .Constant .none j k2, k3⟩] X.env)).map (·.2))) _ _ s1
  refine wpAny_evalAll_cons (wpAny_bind (ld_blt I1 hg2 hm2 boot_len (wpAny_bind (wpAny_standAt (wpAny_pure ?_)))))
  refine thn ((pk_cons pe_non pk_nil).run pos pins s1 σ H1 (fun vs H2 => vs = [.non] ∧ H2 = H1) I1 ⟨rfl, rfl⟩) fun ws s2 ⟨zs, H2, I2, r2, e2, e3⟩ => ?_
  subst e2 e3
  obtain ⟨u, rfl, ru⟩ := vals1 r2
  obtain rfl : u = Value.none := ru
  exact run_minLen (I2.ok.hd hcalm) I2 hl ht h0 h1
end
end WT

set_option Elab.async false
set_option linter.all false
set_option maxRecDepth 100000
set_option maxHeartbeats 4000000
/-! min(xs, key=len, default=None), told by the place: the first of the shortest. -/
namespace WT
open PySem PySem.Spec PyProof.Rows L2
def lenL (ns : List Nat) (i : Nat) : Int := ((ns[i]?).map fun n => (n : Int)).getD 0
/-- the place of the first of the least -/
def bestIx (ns : List Nat) : Nat := argBest (fun i j => decide (lenL ns i < lenL ns j)) (ns.length - 1)
theorem bestIx_ok (ns : List Nat) (h : ns ≠ []) : ∃ n, ns[bestIx ns]? = some n ∧ ∀ m ∈ ns, n ≤ m := by
  have b := argBest_lt (lenL ns) (ns.length - 1)
  have hl : 0 < ns.length := List.length_pos_iff.mpr h
  have hi : bestIx ns < ns.length := by
    have := b.1
    unfold bestIx
    omega
  refine ⟨ns[bestIx ns], List.getElem?_eq_getElem hi, fun m hm => ?_⟩
  obtain ⟨j, hj, ej⟩ := List.getElem_of_mem hm
  have c := b.2 j (by omega)
  have e1 : lenL ns j = (m : Int) := by
    unfold lenL
    rw [List.getElem?_eq_getElem hj, ej]
    rfl
  have e2 : lenL ns (bestIx ns) = (ns[bestIx ns] : Int) := by
    conv => lhs; unfold lenL
    rw [List.getElem?_eq_getElem hi]
    rfl
  have c2 : lenL ns (bestIx ns) ≤ lenL ns j := c
  rw [e1, e2] at c2
  omega
theorem lenAt_L (ts : List (Addr × List V)) : lenAt ts = lenL (ts.map fun t => t.2.length) := by
  funext i
  unfold lenAt lenL
  rw [List.getElem?_map]
  cases ts[i]? <;> rfl
def tMinLenI (K : PySem.W.Frag) (ta : TA) : TE := fun σ H Q => ta σ H fun vs H1 => ∃ (a : Addr) (ts : List (Addr × List V)), vs = [.ref a] ∧ SqL K H1 a (ts.map fun t => V.ref t.1) ∧ (∀ t ∈ ts, SqT K H1 t.1 t.2) ∧ (ts = [] → Q .non H1) ∧ ∀ t, ts[bestIx (ts.map fun t => t.2.length)]? = some t → Q (.ref t.1) H1
section
variable {X : Cx}
theorem run_minLenI {pins : List (Addr × Obj)} {σ : L2.St} {H : Hp} {s : Shared} {Q : VK} {a : Addr} {ts : List (Addr × List V)} (hh : X.A.handled = none) (I : Inv X pins σ H s) (hl : SqL X.K H a (ts.map fun t => V.ref t.1)) (ht : ∀ t ∈ ts, SqT X.K H t.1 t.2)
    (h0 : ts = [] → Q .non H) (h1 : ∀ t, ts[bestIx (ts.map fun t => t.2.length)]? = some t → Q (.ref t.1) H) :
    wpAny (model X.prog X.w) X.A (call (.builtin "min") [.ref a] [(Str.ofString "key", .builtin "len"), (Str.ofString "default", .none)]) (EP X pins σ Q) X.xe s := by
  obtain ⟨its, rv, pl, hz⟩ := I.list hl
  have hlen : its.length = ts.length := by
    have := rv.length
    rw [List.length_map] at this
    exact this.symm
  have at_ : ∀ (i : Nat) (v : Value), its.toArray[i]? = some v → ∃ t, ts[i]? = some t ∧ v = .ref t.1 := fun i v hv => by
    have hv : its[i]? = some v := by simpa using hv
    have hi : i < ts.length := by
      have := (List.getElem?_eq_some_iff.mp hv).1
      omega
    obtain ⟨u, hu, ru⟩ := rv.get (i := i) (x := .ref ts[i].1) (by rw [List.getElem?_map, List.getElem?_eq_getElem hi]; rfl)
    rw [hv] at hu
    cases hu
    exact ⟨ts[i], List.getElem?_eq_getElem hi, ru⟩
  refine call_min_walkKBD (PySem.W.iter_listW (A := X.A.in1) hh pl.isList fun s2 e2 W hst hfp hnew hold => ?_)
  have hbig : ∀ b ∈ s2.heap.objs.size :: [s.heap.objs.size], s.heap.objs.size ≤ b := fun b hb => by
    rcases List.mem_cons.mp hb with rfl | hb
    · rw [e2]
      show s.heap.objs.size ≤ (s.heap.push _).objs.size
      rw [Heap.size_push]
      exact Nat.le_succ _
    · rw [List.mem_singleton.mp hb]
      exact Nat.le_refl _
  refine ⟨s.heap.objs.size, _, _, _, _, _, _, Grown s, fun i k _ => ∃ t, k = .int (lenAt ts i) t, fun i j => decide (lenAt ts i < lenAt ts j), rfl, W, hst, hfp, ?_, ⟨s2.heap, s2.toks, by rw [e2], hold⟩, fun hn s' g => ?_, fun hn v s' hv g => ?_⟩
  · refine ⟨fun s1 s' g m => g.moved m hbig, fun i k s1 s' h _ => h, fun i v s1 o Q' E' hi hv g st hS hQ => ?_, fun i j ki kj s1 Q' E' g hi hj hQ => ?_⟩
    · obtain ⟨t, hti, rfl⟩ := at_ i v hv
      obtain ⟨us, ru, pt, hz2⟩ := I.tuple (ht t (List.mem_of_getElem? hti))
      obtain ⟨h', tk, rfl, k⟩ := g
      refine len_tuple (pt.keeps k) ?_ (hQ _ _ ⟨h', tk + 1 + 1, rfl, k⟩ st hS ⟨tk + 1, ?_⟩ fun j k' hj => hj)
      · have l1 := ru.length
        have l2 := line63
        simp
        omega
      · have l1 := ru.length
        unfold lenAt
        rw [hti]
        simp [l1]
    · obtain ⟨t, rfl⟩ := hi
      obtain ⟨u, rfl⟩ := hj
      exact wpAny_lt_int hQ
  · have : ts = [] := by
      rw [List.size_toArray] at hn
      exact List.length_eq_zero_iff.mp (by omega)
    obtain ⟨h', tk, rfl, k⟩ := g
    exact ⟨.non, H, I.kept (t' := tk) k, rfl, h0 this⟩
  · obtain ⟨t, hti, rfl⟩ := at_ _ v hv
    obtain ⟨h', tk, rfl, k⟩ := g
    refine ⟨.ref t.1, H, I.kept (t' := tk) k, rfl, h1 t ?_⟩
    unfold bestIx
    rw [← lenAt_L, List.length_map, ← hlen]
    exact hti
theorem pe_minLenI {e : Expr} {ta : TA} {p p2 k1 k2 k3 pos : Pos} {j : Nat} (hcalm : X.calm = true) (hg : Gl X "min") (hm : X.mg "min" = none) (hg2 : Gl X "len") (hm2 : X.mg "len" = none) (ha : PA X [e] ta)
    (hst : backTo pos (starEach [e] X.env) = (false, eval e X.env) :: backTo pos (starEach [] X.env) := by rfl) (hpl : (backTo pos (starEach [e] X.env)).any (·.1) = false := by rfl) :
    PE X (.Call (.Name "min" p) [e] [⟨some "key", .Name "len" p2, k1⟩, ⟨some "default", .Constant .none j k2, k3⟩] pos) (tMinLenI X.K ta) := by
  refine ⟨fun pins s σ H Q I h => ?_⟩
  refine wpAny_Call_Name_kw (ld_blt I hg hm boot_min ?_)
  refine PyProof.Rows.callWith_kw (thn (ha.run pos pins s σ H _ I h) fun us s1 ⟨vs, H1, I1, r1, q1⟩ => ?_) hst hpl
  obtain ⟨a, ts, rfl, hl, ht, h0, h1⟩ := q1
  have ea := Vals.ref1 r1
  subst ea
  show wpAny _ _ (evalAll ((do let v ← eval (.Name "len" p2) X.env; standAt pos; pure v) :: (backToKw pos (keywordEach [⟨some "default", .Constant .none j k2, k3⟩] X.env)).map (·.2))) _ _ s1
  refine wpAny_evalAll_cons (wpAny_bind (ld_blt I1 hg2 hm2 boot_len (wpAny_bind (wpAny_standAt (wpAny_pure ?_)))))
  refine thn ((pk_cons pe_non pk_nil).run pos pins s1 σ H1 (fun vs H2 => vs = [.non] ∧ H2 = H1) I1 ⟨rfl, rfl⟩) fun ws s2 ⟨zs, H2, I2, r2, e2, e3⟩ => ?_
  subst e2 e3
  obtain ⟨u, rfl, ru⟩ := vals1 r2
  obtain rfl : u = Value.none := ru
  exact run_minLenI (I2.ok.hd hcalm) I2 hl ht h0 h1
end
end WT

set_option Elab.async false
set_option linter.all false
set_option maxRecDepth 100000
set_option maxHeartbeats 4000000
namespace WT
open PySem PySem.Spec PyProof.Rows L2
/-! ### the cycle that cycle_through finds, as a function -/
def ltS (a b : Str) : Bool := decide (a.cps.toList < b.cps.toList)
def rowP (ms : List Str) (a : Str) : List (Str × Str) := (ms.filter (ltS a)).map fun b => (a, b)
def pairsP (ms : List Str) : List (Str × Str) := ms.flatMap (rowP ms)
def askP (gs : List Gt) (rs : List Str) (x : Str) (p : Str × Str) : Str × Option Pth := (p.1, spath gs [x] rs p.1 p.2)
def fsOf (ps : List (Str × Option Pth)) : List (Str × Pth) := ps.filterMap fun p => p.2.map fun l => (p.1, l)
def plen (f : Str × Pth) : Nat := (pathV f.1 f.2).length
def bestF (fs : List (Str × Pth)) : Option (Str × Pth) := fs[bestIx (fs.map plen)]?
def cycOf (x : Str) (f : Str × Pth) : List (Str × Str) := (lastOf f.1 f.2, x) :: ((f.1 :: f.2.map (·.2)).dropLast.zip (f.2.map (·.1)))
def cycT (gs : List Gt) (rs : List Str) (g : Gt) : Option (List (Str × Str)) := (bestF (fsOf ((pairsP g.2.1).map (askP gs rs g.1)))).map (cycOf g.1)
def wrapsG (gs : List Gt) : List Gt := gs.filter fun g : Gt => decide (g.2.2 = ("wrap" : Str))
def cycsW (gs : List Gt) (rs : List Str) : List (List (Str × Str)) := (wrapsG gs).filterMap (cycT gs rs)
def scyc (gs : List Gt) (rs : List Str) : Option (List (Str × Str)) := (cycsW gs rs)[bestIx ((cycsW gs rs).map List.length)]?
theorem best_none {fs : List (Str × Pth)} : bestF fs = none ↔ fs = [] := by
  constructor
  · intro h
    by_cases c : fs = []
    · exact c
    · obtain ⟨n, h1, _⟩ := bestIx_ok (fs.map plen) (by simpa using c)
      rw [List.getElem?_map] at h1
      unfold bestF at h
      rw [h] at h1
      cases h1
  · rintro rfl
    rfl
theorem best_some {fs : List (Str × Pth)} {f : Str × Pth} (h : bestF fs = some f) : f ∈ fs ∧ ∀ u ∈ fs, f.2.length ≤ u.2.length := by
  refine ⟨List.mem_of_getElem? h, fun u hu => ?_⟩
  obtain ⟨n, h1, h2⟩ := bestIx_ok (fs.map plen) (by
    intro z
    rw [List.map_eq_nil_iff.mp z] at hu
    cases hu)
  rw [List.getElem?_map] at h1
  unfold bestF at h
  rw [h] at h1
  cases h1
  have := h2 (plen u) (List.mem_map.mpr ⟨u, hu, rfl⟩)
  unfold plen at this
  rw [pathV_len, pathV_len] at this
  omega
theorem mem_pairs {ms : List Str} {a b : Str} : (a, b) ∈ pairsP ms ↔ a ∈ ms ∧ b ∈ ms ∧ a.cps.toList < b.cps.toList := by
  unfold pairsP rowP
  rw [List.mem_flatMap]
  constructor
  · rintro ⟨x, hx, h⟩
    obtain ⟨y, hy, e⟩ := List.mem_map.mp h
    cases e
    obtain ⟨h1, h2⟩ := List.mem_filter.mp hy
    exact ⟨hx, h1, of_decide_eq_true h2⟩
  · rintro ⟨h1, h2, h3⟩
    exact ⟨a, h1, List.mem_map.mpr ⟨b, List.mem_filter.mpr ⟨h2, decide_eq_true h3⟩, rfl⟩⟩
theorem mem_fs {gs : List Gt} {rs : List Str} {x : Str} {ms : List Str} {a : Str} {l : Pth} : (a, l) ∈ fsOf ((pairsP ms).map (askP gs rs x)) ↔ ∃ b, a ∈ ms ∧ b ∈ ms ∧ a.cps.toList < b.cps.toList ∧ spath gs [x] rs a b = some l := by
  unfold fsOf
  rw [List.mem_filterMap]
  constructor
  · rintro ⟨p, hp, h⟩
    obtain ⟨⟨a', b⟩, hq, rfl⟩ := List.mem_map.mp hp
    obtain ⟨l', e1, e2⟩ := Option.map_eq_some_iff.mp h
    cases e2
    obtain ⟨h1, h2, h3⟩ := mem_pairs.mp hq
    exact ⟨b, h1, h2, h3, e1⟩
  · rintro ⟨b, h1, h2, h3, h4⟩
    refine ⟨(a, some l), List.mem_map.mpr ⟨(a, b), mem_pairs.mpr ⟨h1, h2, h3⟩, ?_⟩, rfl⟩
    unfold askP
    rw [h4]
section
variable {gs : List Gt} {bar rs : List Str}
theorem Step.rev {x n z : Str} (h : Step gs bar x n z) : Step gs bar z n x := by
  obtain ⟨g, h1, h2, h3, h4, h5⟩ := h
  exact ⟨g, h1, h2, h3, h5, h4⟩
theorem SPath.rev {x y : Str} {l : Pth} (h : SPath gs bar x l y) : ∃ l', l'.length = l.length ∧ SPath gs bar y l' x := by
  induction h with
  | nil x => exact ⟨[], rfl, .nil x⟩
  | @cons x n z y l s _ ih =>
    obtain ⟨l', h1, h2⟩ := ih
    exact ⟨l' ++ [(n, x)], by simp [h1], h2.app (.cons s.rev (.nil _))⟩
theorem SPath.at_ {x y : Str} {l : Pth} (h : SPath gs bar x l y) : ∀ (i : Nat) (n z : Str), l[i]? = some (n, z) → ∃ u, (x :: l.map (·.2))[i]? = some u ∧ Step gs bar u n z := by
  induction h with
  | nil x => intro i n z h; cases h
  | @cons x n0 z0 y l s _ ih =>
    intro i n z h
    cases i with
    | zero =>
      cases h
      exact ⟨x, rfl, s⟩
    | succ i =>
      obtain ⟨u, h1, h2⟩ := ih i n z h
      exact ⟨u, h1, h2⟩
end
/-- the length of some cycle through the gateway -/
def CycLn (gs : List Gt) (rs : List Str) (g : Gt) (n : Nat) : Prop := ∃ a ∈ g.2.1, ∃ b ∈ g.2.1, b ≠ a ∧ ∃ l, GoodP gs [g.1] rs a l ∧ lastOf a l = b ∧ n = 1 + l.length
/-- the gateway called n has the regions a and b as members -/
def Has (gs : List Gt) (n a b : Str) : Prop := ∃ g ∈ gs, g.1 = n ∧ a ∈ g.2.1 ∧ b ∈ g.2.1
structure IsCyc (gs : List Gt) (rs : List Str) (c : List (Str × Str)) : Prop where
  two : 2 ≤ c.length
  reg : (c.map (·.1)).Nodup
  gat : (c.map (·.2)).Nodup
  join : ∀ (i : Nat) (q : Str × Str) (z : Str), c[i]? = some q → ((c.map (·.1)).tail ++ (c.map (·.1)).take 1)[i]? = some z → Has gs q.2 q.1 z
  short : c.length ≤ rs.length
theorem last_initD {α : Type} : ∀ (l : List α) (d : α), (d :: l).dropLast ++ [l.getLastD d] = d :: l
  | [], d => rfl
  | x :: l, d => by
    rw [List.getLastD_cons]
    show d :: ((x :: l).dropLast ++ [l.getLastD x]) = _
    rw [last_initD l x]
theorem last_init (a : Str) (l : Pth) : (a :: l.map (·.2)).dropLast ++ [lastOf a l] = a :: l.map (·.2) := last_initD _ _
theorem zip_maps (a : Str) (l : Pth) : ((a :: l.map (·.2)).dropLast.zip (l.map (·.1))).map (·.1) = (a :: l.map (·.2)).dropLast ∧ ((a :: l.map (·.2)).dropLast.zip (l.map (·.1))).map (·.2) = l.map (·.1) := by
  have e : (a :: l.map (·.2)).dropLast.length = (l.map (·.1)).length := by simp
  exact ⟨List.map_fst_zip (Nat.le_of_eq e), List.map_snd_zip (Nat.le_of_eq e.symm)⟩
section
variable {gs : List Gt} {rs : List Str}
theorem cycOf_len (x : Str) (f : Str × Pth) : (cycOf x f).length = 1 + f.2.length := by
  unfold cycOf
  rw [List.length_cons, List.length_zip]
  simp
  omega
theorem cycOf_ok (nd : (gs.map (·.1)).Nodup) (hm : ∀ g ∈ gs, ∀ z ∈ g.2.1, z ∈ rs) {g : Gt} (hg : g ∈ gs) {a b : Str} {l : Pth} (ha : a ∈ g.2.1) (hb : b ∈ g.2.1) (ne : a ≠ b) (G : GoodP gs [g.1] rs a l) (e : lastOf a l = b) : IsCyc gs rs (cycOf g.1 (a, l)) := by
  obtain ⟨m1, m2⟩ := zip_maps a l
  have i1 := last_init a l
  have lpos : 0 < l.length := by
    cases l with
    | nil => exact absurd e ne
    | cons _ _ => simp
  have sp : SPath gs [g.1] a l b := by
    rw [← e]
    exact G.last
  refine ⟨by rw [cycOf_len]; show 2 ≤ 1 + l.length; omega, ?_, ?_, fun i q z hq hz => ?_, ?_⟩
  · unfold cycOf
    rw [List.map_cons, m1]
    have p : (lastOf a l :: (a :: l.map (·.2)).dropLast).Perm (a :: l.map (·.2)) := by
      have := List.perm_append_comm (l₁ := [lastOf a l]) (l₂ := (a :: l.map (·.2)).dropLast)
      rw [i1] at this
      exact this
    exact p.nodup_iff.mpr G.reg
  · unfold cycOf
    rw [List.map_cons, m2]
    refine List.nodup_cons.mpr ⟨fun z => ?_, G.gat⟩
    obtain ⟨p, hp, ep⟩ := List.mem_map.mp z
    obtain ⟨i, hi, ei⟩ := List.getElem_of_mem hp
    obtain ⟨n, z2⟩ := p
    obtain ⟨u, _, g2, _, e3, e4, _⟩ := sp.at_ i n z2 (by rw [List.getElem?_eq_getElem hi, ei])
    have ep : n = g.1 := ep
    exact e4 (by rw [ep]; simp)
  · unfold cycOf at hq hz
    rw [List.map_cons, m1, List.tail_cons] at hz
    have hz : ((a :: l.map (·.2)).dropLast ++ [lastOf a l])[i]? = some z := hz
    rw [i1] at hz
    cases i with
    | zero =>
      cases hq
      cases hz
      refine ⟨g, hg, rfl, ?_, ha⟩
      show lastOf a l ∈ g.2.1
      rw [e]
      exact hb
    | succ i =>
      have hq : ((a :: l.map (·.2)).dropLast.zip (l.map (·.1)))[i]? = some q := hq
      have hz : (l.map (·.2))[i]? = some z := hz
      obtain ⟨h1, h2⟩ := List.getElem?_zip_eq_some.mp hq
      rw [List.getElem?_map] at hz h2
      obtain ⟨⟨n, z'⟩, e1, e2⟩ := Option.map_eq_some_iff.mp hz
      rw [e1] at h2
      have e2 : z' = z := e2
      have h2 : n = q.2 := Option.some.inj h2
      obtain ⟨u, e3, g2, f1, f2, f3, f4, f5⟩ := sp.at_ i n z' e1
      have hu : u = q.1 := by
        have : (a :: l.map (·.2)).dropLast[i]? = (a :: l.map (·.2))[i]? := by
          have hlt := (List.getElem?_eq_some_iff.mp h1).1
          rw [List.getElem?_dropLast]
          rw [if_pos]
          rw [List.length_dropLast] at hlt
          exact hlt
        rw [this, e3] at h1
        exact Option.some.inj h1
      exact ⟨g2, f1, by rw [f2, h2], by rw [← hu]; exact f4, by rw [← e2]; exact f5⟩
  · rw [cycOf_len]
    have := G.len (hm g hg a ha)
    show 1 + l.length ≤ rs.length
    omega
theorem cycT_none (hm : ∀ g ∈ gs, ∀ z ∈ g.2.1, z ∈ rs) {g : Gt} (hg : g ∈ gs) : cycT gs rs g = none ↔ ¬ ∃ a ∈ g.2.1, ∃ b ∈ g.2.1, a.cps.toList < b.cps.toList ∧ Conn gs [g.1] a b := by
  unfold cycT
  rw [Option.map_eq_none_iff, best_none]
  constructor
  · rintro h ⟨a, ha, b, hb, lt, c⟩
    cases e : spath gs [g.1] rs a b with
    | none => exact (spath_none hm (hm g hg a ha)).mp e c
    | some l =>
      have : (a, l) ∈ fsOf ((pairsP g.2.1).map (askP gs rs g.1)) := mem_fs.mpr ⟨b, ha, hb, lt, e⟩
      rw [h] at this
      cases this
  · intro h
    refine List.eq_nil_iff_forall_not_mem.mpr fun f hf => h ?_
    obtain ⟨a, l⟩ := f
    obtain ⟨b, h1, h2, h3, h4⟩ := mem_fs.mp hf
    exact ⟨a, h1, b, h2, h3, (spath_some hm (hm g hg a h1) h4).1.conn⟩
/-- what cycle_through finds is a shortest cycle through the gateway -/
theorem cycT_some (nd : (gs.map (·.1)).Nodup) (hm : ∀ g ∈ gs, ∀ z ∈ g.2.1, z ∈ rs) {g : Gt} (hg : g ∈ gs) {c : List (Str × Str)} (h : cycT gs rs g = some c) : IsCyc gs rs c ∧ g.1 ∈ c.map (·.2) ∧ CycLn gs rs g c.length ∧ ∀ n, CycLn gs rs g n → c.length ≤ n := by
  unfold cycT at h
  obtain ⟨⟨a, l⟩, hb, rfl⟩ := Option.map_eq_some_iff.mp h
  obtain ⟨hf, hmin⟩ := best_some hb
  obtain ⟨b, h1, h2, h3, h4⟩ := mem_fs.mp hf
  obtain ⟨G, e⟩ := spath_good nd hm (hm g hg a h1) h4
  refine ⟨cycOf_ok nd hm hg h1 h2 (str_irrefl h3) G e, by unfold cycOf; simp, ⟨a, h1, b, h2, (str_irrefl h3).symm, l, G, e, by rw [cycOf_len]⟩, fun n hn => ?_⟩
  obtain ⟨a', ha', b', hb', ne, m, Gm, em, rfl⟩ := hn
  have sp : SPath gs [g.1] a' m b' := by
    rw [← em]
    exact Gm.last
  rw [cycOf_len]
  show 1 + l.length ≤ 1 + m.length
  rcases str_tri a' b' with q | q | q
  · cases e2 : spath gs [g.1] rs a' b' with
    | none => exact absurd sp.conn ((spath_none hm (hm g hg a' ha')).mp e2)
    | some l2 =>
      have k1 := hmin (a', l2) (mem_fs.mpr ⟨b', ha', hb', q, e2⟩)
      have k2 := (spath_some hm (hm g hg a' ha') e2).2 m sp
      have k1 : l.length ≤ l2.length := k1
      omega
  · exact absurd q.symm ne
  · obtain ⟨m', el, sp'⟩ := sp.rev
    cases e2 : spath gs [g.1] rs b' a' with
    | none => exact absurd sp'.conn ((spath_none hm (hm g hg b' hb')).mp e2)
    | some l2 =>
      have k1 := hmin (b', l2) (mem_fs.mpr ⟨a', hb', ha', q, e2⟩)
      have k2 := (spath_some hm (hm g hg b' hb') e2).2 m' sp'
      have k1 : l.length ≤ l2.length := k1
      omega
theorem scyc_none : scyc gs rs = none ↔ ∀ g ∈ wrapsG gs, cycT gs rs g = none := by
  unfold scyc
  constructor
  · intro h g hg
    cases e : cycT gs rs g with
    | none => rfl
    | some c =>
      have hc : c ∈ cycsW gs rs := List.mem_filterMap.mpr ⟨g, hg, e⟩
      obtain ⟨n, h1, _⟩ := bestIx_ok ((cycsW gs rs).map List.length) (by
        intro z
        rw [List.map_eq_nil_iff.mp z] at hc
        cases hc)
      rw [List.getElem?_map, h] at h1
      cases h1
  · intro h
    have : cycsW gs rs = [] := by
      refine List.eq_nil_iff_forall_not_mem.mpr fun c hc => ?_
      obtain ⟨g, hg, e⟩ := List.mem_filterMap.mp hc
      rw [h g hg] at e
      cases e
    rw [this]
    rfl
theorem scyc_some {c : List (Str × Str)} (h : scyc gs rs = some c) : (∃ g ∈ wrapsG gs, cycT gs rs g = some c) ∧ ∀ g ∈ wrapsG gs, ∀ c', cycT gs rs g = some c' → c.length ≤ c'.length := by
  unfold scyc at h
  have hc := List.mem_of_getElem? h
  obtain ⟨g, hg, e⟩ := List.mem_filterMap.mp hc
  refine ⟨⟨g, hg, e⟩, fun g' hg' c' e' => ?_⟩
  have hc' : c' ∈ cycsW gs rs := List.mem_filterMap.mpr ⟨g', hg', e'⟩
  obtain ⟨n, h1, h2⟩ := bestIx_ok ((cycsW gs rs).map List.length) (by
    intro z
    rw [List.map_eq_nil_iff.mp z] at hc
    cases hc)
  rw [List.getElem?_map, h] at h1
  cases h1
  exact h2 _ (List.mem_map.mpr ⟨c', hc', rfl⟩)
end
theorem pick_same {α β : Type} {f g : α → Option β} : ∀ l : List α, (∀ m ∈ l, f m = g m) → l.filterMap f = l.filterMap g
  | [], _ => rfl
  | x :: l, h => by
    rw [List.filterMap_cons, List.filterMap_cons, h x List.mem_cons_self, pick_same l fun m hm => h m (List.mem_cons_of_mem _ hm)]
theorem step_init (one : Str) (l : Pth) : stepL (pathV one l) none (some (-1)) 2 = ((one :: l.map (·.2)).dropLast).map V.str := by
  have h := pick_all (((one :: l.map (·.2)).dropLast).map V.str)
  have dl : (((one :: l.map (·.2)).dropLast).map V.str).length = l.length := by simp
  have e0 : (Builtin.Slice.sliceAdjust none (some (-1)) 2 ((pathV one l).length : Int)).1 = 0 := rfl
  have e : Builtin.Slice.slicePlaces (Builtin.Slice.sliceAdjust none (some (-1)) 2 ((pathV one l).length : Int)).1 (Builtin.Slice.sliceAdjust none (some (-1)) 2 ((pathV one l).length : Int)).2 2 = l.length := by
    rw [e0, pathV_len]
    unfold Builtin.Slice.slicePlaces Builtin.Slice.sliceAdjust
    simp
    omega
  unfold stepL
  rw [e]
  rw [dl] at h
  refine Eq.trans (pick_same _ fun m hm => ?_) h
  have hm := List.mem_range.mp hm
  rw [e0, show ((0 : Int) + (m : Int) * 2).toNat = 2 * m by omega, pathV_even, List.getElem?_map, List.getElem?_map, List.getElem?_dropLast, if_pos (by simp; omega)]
/-- a cycle in memory, or None -/
def CycRes (H : Hp) (v : V) : Option (List (Str × Str)) → Prop
  | none => v = .non
  | some c => ∃ p us, v = .ref p ∧ H p = some (.tup (us.map V.ref)) ∧ Paired (fun u (q : Str × Str) => H u = some (.tup [.str q.1, .str q.2])) us c
theorem CycRes.same {H H' : Hp} {v : V} {o : Option (List (Str × Str))} (h : CycRes H v o) (s : Same H H') : CycRes H' v o := by
  cases o with
  | none => exact h
  | some l =>
    obtain ⟨p, us, e1, e2, e3⟩ := h
    exact ⟨p, us, e1, s _ _ e2, Paired.mapP e3 fun _ _ z => s _ _ z⟩
theorem pair_zip {H : Hp} : ∀ {us : List Addr} {rs ns : List Str}, Paired (fun t (q : V × V) => H t = some (.tup [q.1, q.2])) us ((rs.map V.str).zip (ns.map V.str)) → Paired (fun u (q : Str × Str) => H u = some (.tup [.str q.1, .str q.2])) us (rs.zip ns)
  | us, [], ns, h => by
    simp at h ⊢
    cases h
    exact .nil
  | us, r :: rs, [], h => by
    simp at h ⊢
    cases h
    exact .nil
  | us, r :: rs, n :: ns, h => by
    rw [List.map_cons, List.map_cons, List.zip_cons_cons] at h
    cases h with
    | cons h t => exact .cons h (pair_zip t)
end WT

set_option Elab.async false
set_option linter.all false
set_option maxRecDepth 100000
set_option maxHeartbeats 4000000
namespace WT
open PySem PySem.Spec PyProof.Rows L2
section
variable {X : Cx}
/-- b is not c, two booleans -/
theorem op_notB : OpR X (compareOp .IsNot) (fun x y H Q => ∃ c d : Bool, x = .bl c ∧ y = .bl d ∧ Q (.bl (c != d)) H) := by
  intro pins s σ H x y v u Q I rx ry h
  obtain ⟨c, d, rfl, rfl, q⟩ := h
  cases rx
  cases ry
  exact isnot_bool (fin_bl I q rfl)
theorem op_eqDK {K : PySem.W.Frag} (hu : X.A.units + 64 < cLine) (hK : X.K = K := by rfl) : OpR X (compareOp .Eq) (rEqD K) := by
  subst hK
  exact op_eqD hu
end
theorem merge_new : ∀ (more kvs : List (Key × V)), ((kvs ++ more).map (·.1)).Nodup → mergeK kvs more = kvs ++ more
  | [], kvs, _ => by
    rw [List.append_nil]
    rfl
  | m :: more, kvs, h => by
    have hn : m.1 ∉ kvs.map (·.1) := fun z => by
      rw [List.map_append] at h
      exact (List.nodup_append.mp h).2.2 _ z m.1 (by simp) rfl
    have e : putK kvs m.1 m.2 = kvs ++ [m] := putK_new _ (valV_none hn)
    have := merge_new more (kvs ++ [m]) (by rw [List.append_assoc]; exact h)
    rw [List.append_assoc] at this
    show mergeK (putK kvs m.1 m.2) more = _
    rw [e]
    exact this
theorem next_mod {c : List (Str × Str)} {i : Nat} (hi : i < c.length) : ((c.map (·.1)).tail ++ (c.map (·.1)).take 1)[i]? = (c[(i + 1) % c.length]?).map (·.1) := by
  cases c with
  | nil => simp at hi
  | cons c0 ct =>
    rw [List.length_cons] at hi ⊢
    show (ct.map (·.1) ++ [c0.1])[i]? = _
    by_cases h : i < ct.length
    · rw [Nat.mod_eq_of_lt (by omega), List.getElem?_append_left (by rw [List.length_map]; exact h), List.getElem?_map]
      rfl
    · obtain rfl : i = ct.length := by omega
      rw [Nat.mod_self, List.getElem?_append_right (by rw [List.length_map]; exact Nat.le_refl _), List.length_map, Nat.sub_self]
      rfl
def cycD (c : List (Str × Str)) : PyData := .tuple (c.map fun q => .tuple [.str q.1, .str q.2])
theorem dp_pairs {K : PySem.W.Frag} {H : Hp} : ∀ {us : List Addr} {c : List (Str × Str)}, Paired (fun u (q : Str × Str) => H u = some (.tup [.str q.1, .str q.2])) us c → DpAll K H (us.map V.ref) (c.map fun q => PyData.tuple [.str q.1, .str q.2])
  | _, _, .nil => .nil
  | _, _, .cons h t => .cons (.tup (SqT.of h) (.cons (.str _) (.cons (.str _) .nil))) (dp_pairs t)
theorem lay_pairs : ∀ c : List (Str × Str), (∀ q ∈ c, PyData.strOk q.1 = true ∧ PyData.strOk q.2 = true) → PyData.canLayAll0 (c.map fun q => PyData.tuple [.str q.1, .str q.2]) = true ∧ PyData.depthAll (c.map fun q => PyData.tuple [.str q.1, .str q.2]) ≤ 1
  | [], _ => ⟨by rw [List.map_nil, PyData.canLayAll0], by rw [List.map_nil, PyData.depthAll]; exact Nat.zero_le _⟩
  | q :: c, h => by
    obtain ⟨h1, h2⟩ := lay_pairs c fun x hx => h x (List.mem_cons_of_mem _ hx)
    obtain ⟨g1, g2⟩ := h q List.mem_cons_self
    have d := lay_strs [q.1, q.2] fun s hs => by
      have : s = q.1 ∨ s = q.2 := by simpa using hs
      rcases this with e | e
      · rw [e]; exact g1
      · rw [e]; exact g2
    have e : ([PyData.str q.1, PyData.str q.2] : List PyData) = [q.1, q.2].map PyData.str := rfl
    rw [List.map_cons, PyData.canLayAll0, PyData.depthAll, h1, PyData.canLay0, PyData.depth, e, d.1, d.2]
    exact ⟨rfl, Nat.max_le.mpr ⟨by decide, h2⟩⟩
theorem shaped_cyc {c : List (Str × Str)} (h : ∀ q ∈ c, PyData.strOk q.1 = true ∧ PyData.strOk q.2 = true) : SeqAt.shaped (cycD c) = true := by
  obtain ⟨h1, h2⟩ := lay_pairs c h
  unfold SeqAt.shaped cycD
  rw [PyData.canLay0, PyData.depth, h1]
  simp
  omega
theorem fit_small : ∀ n : Nat, n < 20 → (PyData.int (n : Int)).showable = true ∧ (PyData.int (n : Int)).depth ≤ 60 ∧ (PyData.int (n : Int)).shown.length ≤ sizeLine := by
  have : ∀ n : Fin 20, (PyData.int ((n.1 : Nat) : Int)).showable = true ∧ (PyData.int ((n.1 : Nat) : Int)).depth ≤ 60 ∧ (PyData.int ((n.1 : Nat) : Int)).shown.length ≤ sizeLine := by decide +kernel
  exact fun n h => this ⟨n, h⟩
end WT

set_option Elab.async false
set_option linter.all false
set_option maxRecDepth 100000
set_option maxHeartbeats 4000000
/-! values of any kind: x in a list or tuple of texts, isinstance. -/
namespace PySem.SeqAt
open AutoSeq1 (wpAny_loadPart')
open MeetsSeq
/-- a text declines to be compared with a dict -/
theorem txt_declines (b : Str) (u : Tok) (l : Addr) (di : Option Addr) (es : Array DictEntry) (ep : Nat) (sl : Array (Option Value)) : Meets (Builtin.«str.__eq__» ⟨[.str b u, .ref l], []⟩) (fun _ Rr st => st.heap.get? l = some { cls := .type "dict", dict := di, data := .dict es ep, slots := sl } ∧ Rr (.ok (.ret .notImplemented)) st) :=
  .of_wp fun pr wd Ar Rr st hyp => by
    obtain ⟨hh, gg, dd, tt, oo⟩ := st
    obtain ⟨hl, hyp⟩ := hyp
    wp_walk using wpAny_loadPart' hl, wpAny_load hl
    exact ⟨_, rfl, hyp⟩
theorem dict_declines (l : Addr) (b : Str) (u : Tok) (ob : Obj) : Meets (Builtin.«dict.__eq__» ⟨[.ref l, .str b u], []⟩) (fun _ Rr st => st.heap.get? l = some ob ∧ ob.cls = .type "dict" ∧ Rr (.ok (.ret .notImplemented)) st) :=
  .of_wp fun pr wd Ar Rr st hyp => by
    obtain ⟨hh, gg, dd, tt, oo⟩ := st
    obtain ⟨hl, hc, hyp⟩ := hyp
    obtain ⟨cl, di, da, sl⟩ := ob
    have hc : cl = .type "dict" := hc
    subst hc
    have f1 := F.sub_str_dict
    wp_walk using wpAny_loadPart' hl, wpAny_load hl
    exact ⟨_, rfl, hyp⟩
end PySem.SeqAt
namespace PySem.SeqAt
section
variable {A : Around} {s : Shared}
theorem eqAt_txt_dict {l : Addr} {ob : Obj} {es : Array DictEntry} {ep : Nat} (b : Str) (u : Tok) (ho : s.heap.get? l = some ob) (hc : ob.cls = .type "dict") (hd : ob.data = .dict es ep) (hu : A.units < cLine) : EqAt A s (.str b u) (.ref l) false := fun pr wd Er Q hq => by
  have rc : ∀ Q' : Value → Shared → Prop, Q' (.bool false) s → wpAny (model pr wd) A (richCompare .Eq (.str b u) (.ref l)) Q' Er s := fun Q' hq' => by
    obtain ⟨cl, di, da, sl⟩ := ob
    simp only at hc hd
    subst hc hd
    refine rc_eq_decline_or (k := false) (typeIs_str s b u) ⟨_, ho, rfl⟩ (by decide) F.sub_dict_str F.slot_str_eq F.slot_dict_eq_refl (fun _ z => ?_) (fun _ z => ?_) (fun _ z => wpAny_of_eq (rfl : isSame (.str b u) (.ref l) = pure false) z) (.inr hu) hq'
    · exact call_meets F.slot_str_eq (typeIs_str s b u) F.entry_str_eq (F.args_str_eq_2 _ _) (txt_declines b u l di es ep sl) ⟨ho, z⟩
    · exact call_meets F.slot_dict_eq_refl ⟨_, ho, rfl⟩ F.entry_dict_eq (F.args_dict_eq_2 _ _) (dict_declines l b u _) ⟨ho, rfl, z⟩
  unfold eqBool
  refine wpAny_holding (wpAny_ite_split (fun hab => absurd (eq_of_beq hab) nofun) (fun _ => ?_))
  exact wpAny_bind (rc _ (wpAny_truthy_bool hq))
end
end PySem.SeqAt
namespace WT
open PySem PySem.Spec PyProof.Rows L2
/-- the data is a text among these -/
def isIn (d : PyData) (ss : List Str) : Bool := match d with
  | .str s => decide (s ∈ ss)
  | _ => false
/-- what an item, a text, answers -/
def eqT (d : PyData) (u : Value) : Bool := match d, u with
  | .str s, .str z _ => z == s
  | _, _ => false
theorem any_eqT (d : PyData) : ∀ {ss : List Str} {us : List Value}, Vals (ss.map V.str) us → us.any (eqT d) = isIn d ss
  | [], _, r => by
    cases r
    cases d <;> rfl
  | s :: ss, _, r => by
    cases r with
    | @cons _ u _ us r t =>
      obtain ⟨tk, rfl⟩ := r
      rw [List.any_cons, any_eqT d t]
      cases d <;> first | rfl | skip
      rename_i z
      show ((s == z) || decide (z ∈ ss)) = decide (z ∈ s :: ss)
      by_cases c : s = z
      · subst c
        simp
      · have c2 : ¬ z = s := fun q => c q.symm
        simp [c, c2]
section
variable {X : Cx} {pins : List (Addr × Obj)} {σ : L2.St} {H : Hp} {s : Shared}
theorem all_eqT (I : Inv X pins σ H s) (hu : X.A.units < cLine) {x : V} {d : PyData} {v : Value} (hd : Dt X.K H x d) (rx : RelV x v) {A : Around} (hA : A.units < cLine) : ∀ {ss : List Str} {us : List Value}, Vals (ss.map V.str) us → ∀ u ∈ us, SeqAt.EqAt A s u v (eqT d u)
  | [], _, r => by
    cases r
    exact fun u hu => by cases hu
  | z :: ss, _, r => by
    cases r with
    | @cons _ u0 _ us r t =>
      intro u hu'
      rcases List.mem_cons.mp hu' with rfl | hu'
      · obtain ⟨tk, rfl⟩ := r
        cases hd with
        | non =>
          cases rx
          exact SeqAt.EqAt.str_none z tk
        | bl b =>
          cases rx
          exact SeqAt.EqAt.str_bool z tk b
        | int i =>
          obtain ⟨t2, rfl⟩ := rx
          exact SeqAt.EqAt.str_int z tk i t2
        | str y =>
          obtain ⟨t2, rfl⟩ := rx
          exact SeqAt.EqAt.str_str z tk y t2
        | lst h _ =>
          cases rx
          obtain ⟨its, _, pl, _⟩ := I.list h
          exact SeqAt.EqAt.str_list z tk pl.isList hA
        | tup h _ =>
          cases rx
          obtain ⟨its, _, pl, _⟩ := I.tuple h
          exact SeqAt.EqAt.str_tuple z tk pl hA
        | dic h _ =>
          cases rx
          obtain ⟨_, _, us2, _, o, es, ep, ho, hx, hdt, _⟩ := dk_rd I.hok h
          exact SeqAt.eqAt_txt_dict z tk ho hx.1 hdt hA
      · exact all_eqT I hu hd rx hA t u hu'
/-- x in a list or a tuple of texts, x any value -/
def rInA (K : PySem.W.Frag) (neg : Bool) : R2 := fun x y H Q => ∃ (p : Addr) (ss : List Str) (d : PyData), y = .ref p ∧ (SqL K H p (ss.map V.str) ∨ SqT K H p (ss.map V.str)) ∧ Dt K H x d ∧ Q (.bl (if neg then !isIn d ss else isIn d ss)) H
theorem op_inA {K : PySem.W.Frag} (hu : X.A.units + 64 < cLine) (hK : X.K = K := by rfl) : OpR X (compareOp .In) (rInA K false) := by
  subst hK
  intro pins s σ H x y v u Q I rx ry h
  obtain ⟨p, ss, d, rfl, hq, hd, q⟩ := h
  cases ry
  have hu' : X.A.units < cLine := by omega
  rcases hq with hq | hq
  · obtain ⟨its, r, pl, _⟩ := I.list hq
    refine SeqAt.in_listAt (eqT d) pl.isList (fun w hw => all_eqT I hu' hd rx ?_ r w (by simpa using hw)) ⟨.bl _, H, I, rfl, ?_⟩
    · simp
      omega
    · rw [show its.toArray.any (eqT d) = its.any (eqT d) by simp, any_eqT d r]
      exact q
  · obtain ⟨its, r, pl, _⟩ := I.tuple hq
    refine SeqAt.in_tupleAt (eqT d) pl (fun w hw => all_eqT I hu' hd rx ?_ r w (by simpa using hw)) ⟨.bl _, H, I, rfl, ?_⟩
    · simp
      omega
    · rw [show its.toArray.any (eqT d) = its.any (eqT d) by simp, any_eqT d r]
      exact q
theorem op_notInA {K : PySem.W.Frag} (hu : X.A.units + 64 < cLine) (hK : X.K = K := by rfl) : OpR X (compareOp .NotIn) (rInA K true) := by
  subst hK
  intro pins s σ H x y v u Q I rx ry h
  obtain ⟨p, ss, d, rfl, hq, hd, q⟩ := h
  cases ry
  have hu' : X.A.units < cLine := by omega
  rcases hq with hq | hq
  · obtain ⟨its, r, pl, _⟩ := I.list hq
    refine SeqAt.notIn_listAt (eqT d) pl.isList (fun w hw => all_eqT I hu' hd rx ?_ r w (by simpa using hw)) ⟨.bl _, H, I, rfl, ?_⟩
    · simp
      omega
    · rw [show its.toArray.any (eqT d) = its.any (eqT d) by simp, any_eqT d r]
      exact q
  · obtain ⟨its, r, pl, _⟩ := I.tuple hq
    refine SeqAt.notIn_tupleAt (eqT d) pl (fun w hw => all_eqT I hu' hd rx ?_ r w (by simpa using hw)) ⟨.bl _, H, I, rfl, ?_⟩
    · simp
      omega
    · rw [show its.toArray.any (eqT d) = its.any (eqT d) by simp, any_eqT d r]
      exact q
end
/-- the kind of data -/
def tyD : PyData → String
  | .none => "NoneType"
  | .bool _ => "bool"
  | .int _ => "int"
  | .str _ => "str"
  | .list _ => "list"
  | .tuple _ => "tuple"
  | .dict _ => "dict"
theorem tyX_of {K : PySem.W.Frag} {H : Hp} {x : V} {d : PyData} (h : Dt K H x d) : TyX K H x (.type (tyD d)) := by
  cases h with
  | non => exact .base .non
  | bl b => exact .base (.bl b)
  | int i => exact .base (.int i)
  | str z => exact .base (.str z)
  | lst h _ =>
    rcases h with (h | ⟨o, h⟩) | ⟨o, its, n, h, hc, _⟩
    · exact .base (.lst h)
    · exact .base (.frz h)
    · exact .kList h hc
  | tup h _ =>
    rcases h with (h | ⟨o, h⟩) | ⟨o, its, n, h, hc, _⟩
    · exact .base (.tup h)
    · exact .fTuple h
    · exact .kTuple h hc
  | dic h _ =>
    rcases h with h | ⟨o, h⟩
    · exact .base (.dK h)
    · exact .fDict h
/-- isinstance(x, T), x any value -/
def rIsiA (K : PySem.W.Frag) : List V → Hp → VK → Prop := fun xs H Q => ∃ (x : V) (T : String) (d : PyData) (b : Bool), xs = [x, .ty T] ∧ Dt K H x d ∧ kitB (tyD d) T = some b ∧ Q (.bl b) H
theorem call_isiA {X : Cx} {K : PySem.W.Frag} (hK : X.K = K := by rfl) : CallR X (.builtin "isinstance") (rIsiA K) := by
  subst hK
  intro pins s σ H xs us Q I r h
  obtain ⟨x, T, d, b, rfl, hd, hk, q⟩ := h
  exact call_isi pins s σ H _ us Q I r ⟨x, .ty T, _, _, b, rfl, .ty T, tyX_of hd, kit_ty hk, q⟩
def isTup : PyData → Bool
  | .tuple _ => true
  | _ => false
def isTxt : PyData → Bool
  | .str _ => true
  | _ => false
theorem kit_tuple : ∀ d : PyData, kitB (tyD d) "tuple" = some (isTup d)
  | .none => show kitB "NoneType" "tuple" = some false by decide +kernel
  | .bool _ => show kitB "bool" "tuple" = some false by decide +kernel
  | .int _ => show kitB "int" "tuple" = some false by decide +kernel
  | .str _ => show kitB "str" "tuple" = some false by decide +kernel
  | .list _ => show kitB "list" "tuple" = some false by decide +kernel
  | .tuple _ => show kitB "tuple" "tuple" = some true by decide +kernel
  | .dict _ => show kitB "dict" "tuple" = some false by decide +kernel
theorem kit_str : ∀ d : PyData, kitB (tyD d) "str" = some (isTxt d)
  | .none => show kitB "NoneType" "str" = some false by decide +kernel
  | .bool _ => show kitB "bool" "str" = some false by decide +kernel
  | .int _ => show kitB "int" "str" = some false by decide +kernel
  | .str _ => show kitB "str" "str" = some true by decide +kernel
  | .list _ => show kitB "list" "str" = some false by decide +kernel
  | .tuple _ => show kitB "tuple" "str" = some false by decide +kernel
  | .dict _ => show kitB "dict" "str" = some false by decide +kernel
end WT

set_option Elab.async false
set_option linter.all false
set_option maxRecDepth 100000
set_option maxHeartbeats 2000000
/-! an error that is caught under a name and kept beyond the clause. -/
namespace WT
open PySem PySem.Spec PyProof.Rows L2
/-- an object that was caught stands at a: its class, its dict -/
def cxo (a : Addr) (cls : Value) (d : Option Addr) : HO := .ext fun h => ∃ (oe : Obj) (vs : Array Value), h.get? a = some oe ∧ Zc cls d oe ∧ oe.data = .fields vs
theorem cxo_ok {P : Program} {w : World} {H : Hp} {h : Heap} {a : Addr} {cls : Value} {d : Option Addr} {oe : Obj} {vs : Array Value} (e : h.get? a = some oe) (z : Zc cls d oe) (hd : oe.data = .fields vs) : ObjOk P w H h a (cxo a cls d) :=
  ⟨⟨oe, vs, e, z, hd⟩, ⟨oe, e⟩, fun _ _ ⟨o, v, q, r⟩ k => ⟨o, v, k o q, r⟩⟩
section
variable {X : Cx} {pins : List (Addr × Obj)} {σ : L2.St} {H : Hp} {s : Shared}
/-- an object that nobody tracks, and that was not there at the start, may be tracked from now on -/
theorem inv_track {a : Addr} {u : HO} (I : Inv X pins σ H s) (na : H a = none) (n0 : X.s_0.heap.get? a = none) (nL : a ≠ X.env.locals) (nC : ∀ x c, X.env.cells.lookup x = some c → c ≠ a) (nP : ∀ p ∈ X.pn ++ pins, p.1 ≠ a)
    (ho : ObjOk X.prog X.w (upd H a u) s.heap a u) : Inv X pins σ (upd H a u) s := by
  have ne0 : ∀ b o, X.s_0.heap.get? b = some o → b ≠ a := fun b o e z => by
    rw [z, n0] at e
    cases e
  have neS : ∀ b o, H b = some o → b ≠ a := fun b o e => ne_of_none e na
  refine ⟨I.ok, I.os, I.bare, ⟨I.base.keep, I.base.slot, fun b o e n hq => ?_, I.base.there, fun b xs e => ?_, fun b o v e => ?_, fun b ps e => ?_⟩, I.loc, I.cell, ?_, fun x c e => ?_, fun p hp => ?_, fun b v e => ?_, I.len⟩
  · rw [upd_ne (ne0 b o e)]
    exact I.base.free b o e n hq
  · have q := I.base.tups b xs e
    rw [upd_ne (neS _ _ q)]
    exact q
  · have q := I.base.frzs b o v e
    rw [upd_ne (neS _ _ q)]
    exact q
  · obtain ⟨m, q⟩ := I.base.tbls b ps e
    exact ⟨m, by rw [upd_ne (neS _ _ q)]; exact q⟩
  · rw [upd_ne (Ne.symm nL)]
    exact I.free
  · rw [upd_ne (nC x c e)]
    exact I.freeC x c e
  · obtain ⟨e, n, r⟩ := I.pin p hp
    exact ⟨e, by rw [upd_ne (nP p hp)]; exact n, r⟩
  · by_cases hb : b = a
    · subst hb
      rw [upd_same] at e
      cases e
      exact ho
    · rw [upd_ne hb] at e
      exact (I.hok b v e).stay (fun c w _ q => q) (fun c q => by rw [upd_ne (neS _ _ q)]; exact q) fun c xs q => by rw [upd_ne (neS _ _ q)]; exact q
end
/-- an error of the body is of the class c, is bound to slot i, and is tracked when the suite is through -/
def wKeep (K : PySem.W.Frag) (c : Value) (i n : Nat) (ts : Addr → Value → Option Addr → L2.TS) (D : Ends) : WX := fun cls d σ H => PySem.W.exmOne K cls c = some true ∧
  (σ.length = n → ∀ a, H a = none → ts a cls d { nx := fun σ' H' => H' a = none → D.nx (σ'.set i none) (upd H' a (cxo a cls d)), rt := fun _ _ => False, bk := fun _ _ => False, ct := fun _ _ => False } (σ.set i (some (.ref a))) H)
section
variable {X : Cx} {x n : Str} {c : Value} {i : Nat} {body suite : List Stmt} {b₀ : Stmt} {np pos pos' : Pos} {tb : WX → L2.TS} {ts : Addr → Value → Option Addr → L2.TS}
/-- where the object of an error in the air stands: none of the frames, none of the start, none of the pinned ones -/
theorem sky_new {pins : List (Addr × Obj)} {σ : L2.St} {H : Hp} {sI : Shared} {B h : Heap} {a : Addr} {Z : Obj → Prop} (J : Inv X pins σ H sI) (hs : X.stack = X.env :: X.outer) (hf : X.env.frame = some X.env.locals) (hex : X.ex = [])
    (nb : ∀ b o, sI.heap.get? b = some o → b ∉ frs X.stack → B.get? b = some o) (fl : HandSPX.FlyingZ B (X.env :: X.outer) a Z h) : a ≠ X.env.locals ∧ a ∉ X.fs ∧ X.s_0.heap.get? a = none ∧ ∀ p ∈ X.pn ++ pins, p.1 ≠ a := by
  have nfr : a ∉ frs (X.env :: X.outer) := fun hm => by
    obtain ⟨o, vs, e, _, hd⟩ := fl.there
    obtain ⟨_, o', e', q⟩ := fl.2.2.1.mem hm
    rw [e] at e'
    cases e'
    exact q _ hd
  have nI : sI.heap.get? a = none := by
    cases e : sI.heap.get? a with
    | none => rfl
    | some o =>
      have z := nb a o e (by rw [hs]; exact nfr)
      rw [show B.get? a = none from fl.2.1] at z
      cases z
  refine ⟨fun z => nfr (List.mem_filterMap.mpr ⟨X.env, List.mem_cons_self, by rw [hf, z]⟩), fun hm => ?_, ?_, fun p hp z => ?_⟩
  · obtain ⟨e, he, q⟩ := List.mem_filterMap.mp hm
    exact nfr (List.mem_filterMap.mpr ⟨e, List.mem_cons_of_mem _ he, q⟩)
  · cases e : X.s_0.heap.get? a with
    | none => rfl
    | some o =>
      obtain ⟨o', z⟩ := J.base.there a o e (by rw [hex]; exact fun z => nomatch z)
      rw [nI] at z
      cases z
  · have e := (J.pin p hp).1
    rw [z, nI] at e
    cases e
/-- behind the suite: the name goes, the object that was held apart is tracked -/
theorem keep_end {pins : List (Addr × Obj)} {σ : L2.St} {H : Hp} {s : Shared} {a : Addr} {oe : Obj} {vs : Array Value} {cls : Value} {d : Option Addr} {Q : L2.St → Hp → Prop} (ok : X.Ok) (hN : X.N.Nodup) (hi : X.N[i]? = some n) (hln : X.env.kindOf n = some .local)
    (S : Inv (X.suite a ((a, oe) :: (X.pn ++ pins))) [] σ H s) (hz : Zc cls d oe) (hd : oe.data = .fields vs) (n0 : X.s_0.heap.get? a = none) (nL : a ≠ X.env.locals) (nP : ∀ p ∈ X.pn ++ pins, p.1 ≠ a) (q : H a = none → Q (σ.set i none) (upd H a (cxo a cls d))) :
    wpAny (model X.prog X.w) X.A (do bindName X.env n .none; unbindBehindTheSuite X.env n pos') (fun _ s' => ∃ σ' H', Inv X pins σ' H' s' ∧ Q σ' H') X.xe s := by
  refine gone_ok (X := X.suite a ((a, oe) :: (X.pn ++ pins))) S hN hi hln fun s' S' => ?_
  obtain ⟨e, na, _, _, nc⟩ := S'.pin (a, oe) (List.mem_append_left _ List.mem_cons_self)
  have J : Inv X pins (σ.set i none) H s' := S'.unsuite ok
  refine ⟨_, _, inv_track J na n0 nL (fun y c' ec z => ?_) nP (cxo_ok e hz hd), q na⟩
  obtain ⟨v, o, ho, hv⟩ := J.cell y c' ec
  rw [z, show s'.heap.get? a = some oe from e] at ho
  cases ho
  exact nc v hv
theorem ps_try_keep (hs : X.stack = X.env :: X.outer) (hf : X.env.frame = some X.env.locals) (hex : X.ex = []) (hN : X.N.Nodup) (hi : X.N[i]? = some n) (hln : X.env.kindOf n = some .local) (hg : Gl X x) (hdb : (x == ("__debug__" : Str)) = false) (hm : X.mg x = some c)
    (hb : ∀ (W : WX) (pn : List (Addr × Obj)) (xe : Value → Shared → Prop), Takes (X.tr pn xe) W → PassesOwn (model X.prog X.w) X.A X.env xe → PSs (X.tr pn xe) body (tb W))
    (hsu : ∀ (a : Addr) (oe : Obj) (cls : Value) (d : Option Addr) (pn : List (Addr × Obj)), Zc cls d oe → (∃ vs, oe.data = .fields vs) → PSs (X.suite a ((a, oe) :: pn)) (b₀ :: suite) (ts a cls d)) :
    PS X (.Try body [.ExceptHandler (some (.Name x np)) (some n) (b₀ :: suite) pos'] [] [] pos) (fun D σ H => tb (wKeep X.K c i X.N.length ts D) D σ H) := by
  refine ⟨fun pins s σ H D I h => ?_⟩
  have ok := I.ok
  refine wpAny_Try_except (wpAny_mono ((hb (wKeep X.K c i X.N.length ts D) (X.pn ++ pins) _ (fun u s' xx => ?_) PassesOwn.looking).run [] s σ H D (I.toTry _) h) (fun fl s1 hsp => ?_) fun e s1 he => he)
  · obtain ⟨a, B, sI, _, σ', H', cls, d, rfl, J', nb, up, sky, na, os, ag, hx, hyes⟩ := xx
    have J : Inv X pins σ' H' sI := J'.ofTry ok
    refine Sky.land Zc.steady (by rw [ok.frames, hs]) hf (by rw [← hs]; exact sky) fun h3 fl3 up3 => ?_
    have J3 : Inv X pins σ' H' { s' with heap := h3 } := J.landed nb fl3.1 (up.trans up3) os ag
    obtain ⟨nL, nF, n0, nP⟩ := sky_new J hs hf hex nb fl3
    obtain ⟨o3, v3, e3, z3, d3⟩ := fl3.there
    refine wpAny_handleBy_cons (codeAny_handlers_test ?_) (by intro q; cases q)
    refine ld_glob (X := X.suite a ((a, o3) :: (X.pn ++ pins))) (J3.suite e3 d3 na nL nF) hg hm ?_ hdb
    refine (PySem.W.exm_one (M := model X.prog X.w) J3.kIn (fun A Q E s k q => wpAny_typeOf_ref (k _ _ e3) (by rw [z3.1]; exact q)) hx).here ?_
    refine codeAny_handlers_suite_as (HandSPX.lands_againZ fl3 fun h4 fl4 up4 => ?_)
    have J4 : Inv X pins σ' H' { s' with heap := h4 } := J.landed nb fl4.1 ((up.trans up3).trans up4) os ag
    obtain ⟨o4, v4, e4, z4, d4⟩ := fl4.there
    refine store_ok (X := X.suite a ((a, o4) :: (X.pn ++ pins))) (v := .ref a) (J4.suite e4 d4 na nL nF) hN hi (.inl hln) rfl (fun s5 S5 => ?_) (.inr hln)
    refine wpAny_mono ((hsu a o4 cls d (X.pn ++ pins) z4 ⟨_, d4⟩).run [] s5 _ H' _ S5 (hyes J.len a na)) (fun fl s6 hsp => ?_) fun _ _ z => False.elim z
    match fl, hsp with
    | .next, ⟨σ6, H6, S6, q6⟩ => exact keep_end ok hN hi hln S6 z4 d4 n0 nL nP q6
    | .brk, ⟨_, _, _, q6⟩ => exact q6.elim
    | .cont, ⟨_, _, _, q6⟩ => exact q6.elim
    | .ret _, ⟨_, _, _, _, _, q6⟩ => exact q6.elim
  · match fl, hsp with
    | .next, ⟨σ', H', J', q⟩ => exact wpAny_execs_nil ⟨σ', H', J'.ofTry ok, q⟩
    | .brk, ⟨σ', H', J', q⟩ => exact ⟨σ', H', J'.ofTry ok, q⟩
    | .cont, ⟨σ', H', J', q⟩ => exact ⟨σ', H', J'.ofTry ok, q⟩
    | .ret _, ⟨v, σ', H', J', r, q⟩ => exact ⟨v, σ', H', J'.ofTry ok, r, q⟩
end
/-! ### the error that was kept -/
/-- an error of the class at C, caught and kept, stands at a; its fields -/
def Cgt (H : Hp) (a C : Addr) (fs : List (Str × V)) : Prop := (fs = [] ∧ ∃ d, H a = some (cxo a (.ref C) d) ∧ (d = none ∨ ∃ b gs, d = some b ∧ H b = some (.xd gs))) ∨ ∃ d, H a = some (cxo a (.ref C) (some d)) ∧ H d = some (.xd fs)
theorem Cgt.same {H H' : Hp} {a C : Addr} {fs : List (Str × V)} (e : Cgt H a C fs) (s : Same H H') : Cgt H' a C fs := by
  rcases e with ⟨z, d, e, q⟩ | ⟨d, e1, e2⟩
  · refine .inl ⟨z, d, s _ _ e, ?_⟩
    rcases q with q | ⟨b, gs, q1, q2⟩
    · exact .inl q
    · exact .inr ⟨b, gs, q1, s _ _ q2⟩
  · exact .inr ⟨d, s _ _ e1, s _ _ e2⟩
section
variable {X : Cx}
theorem Cgt.at {pins : List (Addr × Obj)} {σ : L2.St} {H : Hp} {s : Shared} {a C : Addr} {fs : List (Str × V)} (e : Cgt H a C fs) (I : Inv X pins σ H s) :
    ∃ (ox : Obj) (od : Option Obj), PySem.W.InstAt s.heap a ox C od ∧ (fs ≠ [] → ∃ o, od = some o ∧ ∀ n : Str, ∃ u, PySem.W.lookIn n o = some u ∧ RelO (fs.lookup n) u) := by
  rcases e with ⟨z, d, e, q⟩ | ⟨d, e1, e2⟩
  · obtain ⟨⟨ox, vs, ho, hz, hd⟩, _, _⟩ := I.hok a _ e
    rcases q with rfl | ⟨b, gs, rfl, q⟩
    · exact ⟨ox, none, ⟨ho, hz.1, by unfold PySem.W.notCls; rw [hd], by rw [hz.2]; trivial⟩, fun y => absurd z y⟩
    · obtain ⟨mA, hns, rel⟩ := I.hok b _ q
      obtain ⟨od, hod, hl⟩ := lookIn_ns hns
      exact ⟨ox, some od, ⟨ho, hz.1, by unfold PySem.W.notCls; rw [hd], by rw [hz.2]; exact hod⟩, fun y => absurd z y⟩
  · obtain ⟨⟨ox, vs, ho, hz, hd⟩, _, _⟩ := I.hok a _ e1
    obtain ⟨mA, hns, rel⟩ := I.hok d _ e2
    obtain ⟨od, hod, hl⟩ := lookIn_ns hns
    exact ⟨ox, some od, ⟨ho, hz.1, by unfold PySem.W.notCls; rw [hd], by rw [hz.2]; exact hod⟩, fun _ => ⟨od, rfl, fun n => ⟨mA n, hl n, rel n⟩⟩⟩
/-- isinstance(e, c), e an error that was kept -/
def rIsCgt (K : PySem.W.Frag) : List V → Hp → VK → Prop := fun xs H Q => ∃ (a C : Addr) (fs : List (Str × V)) (c : V) (cv : Value) (b : Bool), xs = [.ref a, c] ∧ Cgt H a C fs ∧ ExcC K C ∧ (∀ u, RelV c u → u = cv) ∧ PySem.W.kitOne K (.ref C) cv = some b ∧ Q (.bl b) H
theorem call_isCgt : CallR X (.builtin "isinstance") (rIsCgt X.K) := by
  intro pins s σ H xs us Q I r h
  obtain ⟨a, C, fs, c, cv, b, rfl, e, T, hc, hk, q⟩ := h
  obtain ⟨u, u', rfl, rx, rt⟩ := vals2 r
  obtain rfl : u = Value.ref a := rx
  obtain rfl := hc _ rt
  obtain ⟨ox, od, J, _⟩ := e.at I
  have hcl : (PySem.W.clsIn X.K C).isSome = true := by
    obtain ⟨cd, h1, _⟩ := PySem.W.any_some T.hd
    rw [h1]
    rfl
  exact PySem.W.kia_one (PySem.W.kitx_exc (ox := ox) (od := od) hcl T.hg T.hk T.hs T.ha T.hn T.ht T.hm) I.kIn J hk (fun z => nomatch z) fun tk => ⟨.bl b, H, I.kept (t' := tk) fun _ _ z => z, rfl, q⟩
/-- e.f, e an error that was kept -/
def tCgtF (K : PySem.W.Frag) (n : Str) (te : TE) : TE := fun σ H Q => te σ H fun x H1 => ∃ (a C : Addr) (fs : List (Str × V)) (v : V), x = .ref a ∧ Cgt H1 a C fs ∧ ExcC K C ∧ PySem.W.findIn K (.ref C) n = some none ∧ fs.lookup n = some v ∧ Q v H1
theorem pe_cgtF {e : Expr} {te : TE} {pos : Pos} {n : Str} (he : PE X e te) (hb : attributeBase e n X.env (eval e X.env) = eval e X.env := by rfl) : PE X (.Attribute e n pos) (tCgtF X.K n te) := by
  refine ⟨fun pins s σ H Q I h => ?_⟩
  refine attr_of hb (thn (he.run pins s σ H _ I h) fun u s1 hh => ?_)
  obtain ⟨x, H1, I1, rx, a, C, fs, v, rfl, e1, T, hno, hl, q⟩ := hh
  obtain rfl : u = Value.ref a := rx
  obtain ⟨ox, od, J, k⟩ := e1.at I1
  obtain ⟨o, rfl, k2⟩ := k (fun z => by rw [z] at hl; cases hl)
  obtain ⟨u, hu, ru⟩ := k2 n
  rw [hl] at ru
  cases u with
  | none => exact ru.elim
  | some u =>
    exact HandSPX.exc_get I1.kIn J T.hg T.hk T.hs (PySem.W.findObj_own T.hd hno rfl hu) (handed_of ru) ⟨v, H1, I1.tok _, ru, q⟩
end
end WT
namespace WT
open PySem PySem.Spec PyProof.Rows L2 LamX
/-- a(), the lambda that was handed over, as a statement: tl is what its body's reading makes of it -/
def tAct (f c' : Addr) (q : Str) (tl : XK → Hp → VK → Prop) (W : WX) : L2.TS := fun D σ H =>
  ∃ E : XK, (∀ cls d σ' H', E cls d H' → W cls d σ' H') ∧ σ[0]? = some (some (.ref f)) ∧ H c' = some (CodeO c' q) ∧ tl E H fun _ H1 => D.nx σ H1
theorem pss_act {Z : Cx} {f c' : Addr} {q a : Str} {tl : XK → Hp → VK → Prop} {W : WX} {p1 p2 p3 : Pos}
    (act : ∀ E : XK, (∀ cls d σ' H', E cls d H' → W cls d σ' H') → PE Z (.Call (.Name a p1) [] [] p2) (fun σZ HZ Q => σZ[0]? = some (some (.ref f)) ∧ HZ c' = some (CodeO c' q) ∧ tl E HZ Q)) :
    PSs Z [.Expr (.Call (.Name a p1) [] [] p2) p3] (tAct f c' q tl W) := by
  refine ⟨fun pins s σ H D I h => ?_⟩
  obtain ⟨E, hW, h1, h2, h3⟩ := h
  exact (pss_one (ps_expr (act E hW))).run pins s σ H D I ⟨h1, h2, h3⟩
end WT

set_option Elab.async false
set_option linter.all false
set_option maxRecDepth 100000
set_option maxHeartbeats 2000000
/-! text == any value; a def that raises an own error. -/
namespace PySem.SeqAt
theorem rcAt_txt_dict {A : Around} {s : Shared} {l : Addr} {ob : Obj} {es : Array DictEntry} {ep : Nat} (b : Str) (u : Tok) (ho : s.heap.get? l = some ob) (hc : ob.cls = .type "dict") (hd : ob.data = .dict es ep) (hu : A.units < cLine) : RcAt A s (.str b u) (.ref l) false := fun pr wd Er Q' hq' => by
  obtain ⟨cl, di, da, sl⟩ := ob
  simp only at hc hd
  subst hc hd
  refine rc_eq_decline_or (k := false) (typeIs_str s b u) ⟨_, ho, rfl⟩ (by decide) F.sub_dict_str F.slot_str_eq F.slot_dict_eq_refl (fun _ z => ?_) (fun _ z => ?_) (fun _ z => wpAny_of_eq (rfl : isSame (.str b u) (.ref l) = pure false) z) (.inr hu) hq'
  · exact call_meets F.slot_str_eq (typeIs_str s b u) F.entry_str_eq (F.args_str_eq_2 _ _) (txt_declines b u l di es ep sl) ⟨ho, z⟩
  · exact call_meets F.slot_dict_eq_refl ⟨_, ho, rfl⟩ F.entry_dict_eq (F.args_dict_eq_2 _ _) (dict_declines l b u _) ⟨ho, rfl, z⟩
end PySem.SeqAt
namespace WT
open PySem PySem.Spec PyProof.Rows L2
/-- the data is this text -/
def isT (d : PyData) (z : Str) : Bool := match d with
  | .str s => z == s
  | _ => false
theorem isT_iff {d : PyData} {z : Str} : isT d z = true ↔ d = .str z := by
  cases d with
  | str s =>
    show (z == s) = true ↔ _
    rw [beq_iff_eq]
    exact ⟨fun h => by rw [h], fun h => by cases h; rfl⟩
  | _ => exact ⟨fun h => Bool.noConfusion h, fun h => PyData.noConfusion h⟩
section
variable {X : Cx}
def rEqT (K : PySem.W.Frag) : R2 := fun x y H Q => ∃ (z : Str) (d : PyData), x = .str z ∧ Dt K H y d ∧ Q (.bl (isT d z)) H
theorem op_eqTA {K : PySem.W.Frag} (hu : X.A.units + 64 < cLine) (hK : X.K = K := by rfl) : OpR X (compareOp .Eq) (rEqT K) := by
  subst hK
  intro pins s σ H x y v u Q I rx ry h
  obtain ⟨z, d, rfl, hd, q⟩ := h
  obtain ⟨tk, rfl⟩ := rx
  have hA : X.A.units < cLine := by omega
  have rc : SeqAt.RcAt X.A s (.str z tk) u (isT d z) := by
    cases hd with
    | non =>
      cases ry
      exact SeqAt.RcAt.str_none z tk
    | bl b =>
      cases ry
      exact SeqAt.RcAt.str_bool z tk b
    | int i =>
      obtain ⟨t2, rfl⟩ := ry
      exact SeqAt.RcAt.str_int z tk i t2
    | str y =>
      obtain ⟨t2, rfl⟩ := ry
      exact SeqAt.RcAt.str_str z tk y t2
    | lst h _ =>
      cases ry
      obtain ⟨its, _, pl, _⟩ := I.list h
      exact SeqAt.RcAt.str_list z tk pl.isList hA
    | tup h _ =>
      cases ry
      obtain ⟨its, _, pl, _⟩ := I.tuple h
      exact SeqAt.RcAt.str_tuple z tk pl hA
    | dic h _ =>
      cases ry
      obtain ⟨_, _, us2, _, o, es, ep, ho, hx, hdt, _⟩ := dk_rd I.hok h
      exact SeqAt.rcAt_txt_dict z tk ho hx.1 hdt hA
  exact rc _ _ _ _ ⟨.bl _, H, I, rfl, q⟩
end
/-- a def that may raise, as a caller knows it -/
structure DfX (P : Program) (w : World) (K : PySem.W.Frag) (mg : Str → Option Value) (base : Heap) (x : Str) (k : Nat) (f : Addr) (fd : FuncData) (ps : List Str) (sp : Sp) : Prop where
  g : mg x = some (.ref f)
  kp : PySem.W.keepIn K (.ref f) = true
  bd : Binds K fd ps []
  G : FnOk P w K mg base (L2.CX P w) k f fd ps sp
def sp1 (C : Addr) (f : Str) : Sp := fun vs H Q _ => ∃ (a : Addr) (v : V), vs = [.ref a, v] ∧ H a = some (exo a C none) ∧ ∀ dx, H dx = none → dx ≠ a → Q .non (upd (upd H dx (exd dx [(f, v)])) a (exo a C (some dx)))
/-- an own error with one field, as its maker knows it -/
structure Mk1 (P : Program) (w : World) (K : PySem.W.Frag) (mg : Str → Option Value) (base : Heap) (x n : Str) (C fI : Addr) (fd : FuncData) : Prop where
  g : mg x = some (.ref C)
  oex : OexC K C
  i : PySem.W.findIn K (.ref C) "__init__" = some (some (.ref fI))
  t : PySem.W.typeIn K (.ref fI) = some (.type "function")
  bd : Binds K fd ["self", n] []
  G : FnOk P w K mg base CX0 1 fI fd ["self", n] (sp1 C n)
/-- what __init__ of an own error with one field keeps -/
theorem rz_at {C : Addr} {n : Str} {v : V} {H1 : Hp} {Q : XK} (h : ∀ dx, H1 dx = none → Q (.ref C) (some dx) (upd H1 dx (.xd [(n, v)]))) : ∀ a, H1 a = none → sp1 C n (.ref a :: ([v] ++ [])) (upd H1 a (exo a C none))
    (fun u H2 => u = .non ∧ ∃ (d : Addr) (fs : List (Str × V)), H2 a = some (exo a C (some d)) ∧ H2 d = some (exd d fs) ∧ H1 d = none ∧ Q (.ref C) (some d) (upd (L2.del H2 a) d (.xd fs))) (fun _ _ _ => False) := by
  intro a na
  refine ⟨a, v, rfl, upd_same, fun dx nd ne => ⟨rfl, dx, [(n, v)], upd_same, by rw [upd_ne ne]; exact upd_same, ?_, ?_⟩⟩
  · rw [upd_ne ne] at nd
    exact nd
  · rw [upd_ne ne] at nd
    have e : upd (L2.del (upd (upd (upd H1 a (exo a C none)) dx (exd dx [(n, v)])) a (exo a C (some dx))) a) dx (.xd [(n, v)]) = upd H1 dx (.xd [(n, v)]) := by
      funext b
      by_cases h1 : b = dx
      · rw [h1, upd_same, upd_same]
      · rw [upd_ne h1, upd_ne h1]
        by_cases h2 : b = a
        · rw [h2, L2.del_same, na]
        · rw [L2.del_ne h2, upd_ne h2, upd_ne h1, upd_ne h2]
    rw [e]
    exact h dx nd
end WT

set_option Elab.async false
set_option linter.all false
set_option maxRecDepth 100000
set_option maxHeartbeats 1000000
/-! defs that raise nothing, known without the guards. -/
namespace WT
open PySem PySem.Spec PyProof.Rows L2
structure DfO (P : Program) (w : World) (K : PySem.W.Frag) (mg : Str → Option Value) (base : Heap) (x : Str) (k : Nat) (f : Addr) (fd : FuncData) (ps : List Str) (sp : Sp) : Prop where
  g : mg x = some (.ref f)
  kp : PySem.W.keepIn K (.ref f) = true
  bd : Binds K fd ps []
  G : FnOk P w K mg base CX0 k f fd ps sp
/-- a def known without the guards is known with them -/
theorem DfO.df {P : Program} {w : World} {K : PySem.W.Frag} {mg : Str → Option Value} {base : Heap} {x : Str} {k : Nat} {f : Addr} {fd : FuncData} {ps : List Str} {sp : Sp} (D : DfO P w K mg base x k f fd ps sp) : Df P w K mg base x k f fd ps sp := ⟨D.g, D.kp, D.bd, .of D.G⟩
end WT

set_option Elab.async false
set_option linter.all false
set_option maxRecDepth 100000
set_option maxHeartbeats 4000000
namespace K14
open PySem PySem.Spec PyProof.Rows L2 WT
abbrev st_exits : Stmt := top 8
theorem sc_exits : FnScope ["world", "region", "without", "ways", "name", "those", "kind", "other"] ["world", "region", "without"] (defScope st_exits) := ⟨rfl, rfl, rfl, by decide +kernel, rfl, by decide +kernel, by decide +kernel⟩
section
variable {P : Program} {w : World} {K : PySem.W.Frag} {mg : Str → Option Value} {base : Heap} {f : Addr} {fd : FuncData}
def PairAt (H : Hp) (t : Addr) (e : Str × Str) : Prop := H t = some (.tup [.str e.1, .str e.2])
/-- exits(world, region, without) -/
def spExits (K : PySem.W.Frag) : Sp := fun vs H Q _ => ∃ (wa r g wo : Addr) (as : List Addr) (rs : List Str) (gs : List Gt) (x : Str) (bar : List Str), vs = [.ref wa, .str x, .ref wo] ∧ WorldAt H wa r g as rs gs ∧ SqT K H wo (bar.map V.str) ∧ gs.length ≤ 100 ∧ (∀ g ∈ gs, g.2.1.length ≤ 100) ∧
  ∀ (H' : Hp) (p : Addr) (ts : List Addr), Same H H' → H p = none → H' p = some (.lst (ts.map V.ref)) → Paired (PairAt H') ts (exitsL gs bar x) → Q (.ref p) H'
theorem ok_exits (F : Fun K "exits" "exits" st_exits f fd) : FnOk P w K mg base CX0 1 f fd ["world", "region", "without"] (spExits K) := by
  refine F.ok sc_exits (fun vs H Q E h => ?_) (fun cdv A outer s H vs Q E hr h => ?_)
  · obtain ⟨_, _, _, _, _, _, _, _, _, rfl, _⟩ := h
    rfl
  · obtain ⟨wa, r, g, wo, as, rs, gs, x, bar, rfl, hw, hwo, hgl, hil, q⟩ := h
    refine ⟨_, (pss_cons (ps_set (i := 3) sc_exits.nd rfl (.inl rfl) (pe_lst pa_nil))
      (pss_cons (ps_for PassesOwn.never rfl (pi_tup (pe_ix ix_tup (pv 0) pe_int (fun _ _ => rfl))) (pg_tup rfl (pgs_cons (pg_name (i := 4) sc_exits.nd rfl (.inr rfl)) (pgs_cons (pg_name (i := 5) sc_exits.nd rfl (.inl rfl)) (pgs_cons (pg_name (i := 6) sc_exits.nd rfl (.inl rfl)) pgs_nil))))
       (pss_one (ps_if (PW.pt (pw_and (pt_cmpR op_in_seq (pv 1) (pv 5) (by rfl)) (pw_and1 (pt_cmpR op_notIn_seq (pv 4) (pv 2) (by rfl)))))
        (pss_one (ps_expr (pe_bm PySem.F.plainAttrs_list PySem.F.slot_list_extend PySem.F.type_list_extend mt_extend (pv 3) (pa_cons (pe_lc (own := [("other", 7)]) (by rfl) sc_exits.nd (pi_tup (pv 5)) (blkOk_by (own := [("other", 7)]) (N := ["world", "region", "without", "ways", "name", "those", "kind", "other"]) (sc := defScope st_exits) (by decide +kernel)) (fun _ _ _ _ _ => (pg_name (i := 7) sc_exits.nd rfl (.inl rfl))) (fun _ _ _ _ _ => (pts_one (pt_cmpR op_ne (pv 7) (pv 1) (nomark _)))) (fun _ _ _ _ _ => (pe_tup (pa_cons (pv 4) (pa_cons (pv 7) pa_nil))))) pa_nil))))
        pss_nil)))
      (pss_one (ps_ret (pv 3))))), ?_⟩
    refine ⟨(by show 0 ≤ sizeLine; decide), fun D nD => ?_⟩
    have z0 := same_new nD (o := .lst [])
    have hw0 := hw.same z0
    have hlen := Paired.length hw.each
    refine ⟨_, rfl, wa, _, 1, .ref g, rfl, rfl, SqT.of hw0.top, atI_nat (j := 1) rfl, g, rfl, ⟨_, SqT.of hw0.gat⟩, for_it (walk_tup (xs := as.map V.ref))
      (fun j σ H' => ∃ (v4 v5 v6 : Option V) (ts : List Addr), σ = [some (.ref wa), some (.str x), some (.ref wo), some (.ref D), v4, v5, v6, none] ∧ Same H H' ∧ H' D = some (.lst (ts.map V.ref)) ∧ Paired (PairAt H') ts (exitsL (gs.take j) bar x))
      ⟨none, none, none, [], rfl, z0, upd_same, .nil⟩ (fun j σ H' _ ⟨_, _, _, _, _, sm, _⟩ => SqT.of (hw.same sm).gat) (fun j v σ H2 H3 hj hP hY => ?_) (fun σ H' hP => ?_)⟩
    · obtain ⟨v4, v5, v6, ts, rfl, sm, hD, prs⟩ := hP
      obtain ⟨rfl, hv⟩ := hY
      rw [List.length_map] at hj
      rw [List.getElem?_map, List.getElem?_eq_getElem hj] at hv
      cases hv
      have hj2 : j < gs.length := by omega
      obtain ⟨gg, hgg, ia, e1, e2⟩ := pair_at (hw.same sm).each (List.getElem?_eq_getElem hj)
      rw [List.getElem?_eq_getElem hj2] at hgg
      have hgj : gs[j] = gg := Option.some.inj hgg
      have step : exitsL (gs.take (j + 1)) bar x = exitsL (gs.take j) bar x ++ (if x ∈ gg.2.1 ∧ gg.1 ∉ bar then (gg.2.1.filter fun y => decide (y ≠ x)).map fun y => (gg.1, y) else []) := by
        unfold exitsL
        rw [List.take_add_one, List.getElem?_eq_getElem hj2, hgj, List.flatMap_append]
        simp
      refine ⟨_, [.str gg.1, .ref ia, .str gg.2.2], rfl, SqT.of e1, rfl, .str gg.1, _, rfl, .ref ia, _, rfl, .str gg.2.2, [], rfl, rfl, ?_⟩
      -- region in those and name not in without
      refine ⟨_, rfl, _, rfl, ia, _, rfl, .inr (SqT.of e2), rfl, WT.flat_strs _, _, rfl, ?_⟩
      rw [inV_str]
      by_cases c1 : x ∈ gg.2.1
      · rw [decide_eq_true c1]
        refine iteT ⟨_, rfl, _, rfl, wo, _, rfl, .inr (sameT sm hwo), rfl, WT.flat_strs _, _, rfl, ?_⟩
        rw [inV_str]
        by_cases c2 : gg.1 ∈ bar
        · rw [decide_eq_true c2]
          refine iteF ⟨_, _, _, ts, rfl, sm, hD, ?_⟩
          rw [step, if_neg fun z => z.2 c2, List.append_nil]
          exact prs
        · rw [decide_eq_false c2]
          refine iteT ?_
          rw [if_pos ⟨c1, c2⟩] at step
          refine ⟨_, rfl, .inl ⟨rfl, _, SqL.of hD⟩, _, rfl, ia, rfl, ⟨_, SqT.of e2⟩, fun L nL => lc_tup (K := K) (a := ia) (xs := gg.2.1.map V.str) (fun m H' => Same H3 H' ∧ ∃ us : List Addr, H' L = some (.lst (us.map V.ref)) ∧ Paired (PairAt H') us (((gg.2.1.take m).filter fun y => decide (y ≠ x)).map fun y => (gg.1, y)))
            ⟨same_new nL, [], upd_same, .nil⟩ (fun m H' _ ⟨s', _⟩ => SqT.of (s' _ _ e2)) (fun m v H4 hm hP => ?_) fun H4 hP => ?_⟩
          · obtain ⟨s4, us, hL, pu⟩ := hP
            rw [List.getElem?_map] at hm
            obtain ⟨y, hy, rfl⟩ := Option.map_eq_some_iff.mp hm
            have stp : (gg.2.1.take (m + 1)).filter (fun y => decide (y ≠ x)) = (gg.2.1.take m).filter (fun y => decide (y ≠ x)) ++ (if y ≠ x then [y] else []) := by
              rw [List.take_add_one, hy, List.filter_append]
              by_cases c : y = x
              · rw [if_neg fun z => z c]
                simp [c]
              · rw [if_pos c]
                simp [c]
            refine ⟨rfl, _, rfl, _, rfl, rfl, _, rfl, ?_⟩
            by_cases c : y = x
            · subst c
              rw [show (!decide (V.str y = V.str y)) = false by simp]
              refine iteF ⟨s4, us, hL, ?_⟩
              rw [stp, if_neg fun z => z rfl, List.append_nil]
              exact pu
            · rw [show (!decide (V.str y = V.str x)) = true by simp [c]]
              refine iteT ⟨_, rfl, _, rfl, (by show 2 ≤ sizeLine; decide), fun t nt => ?_⟩
              have z5 := same_new nt (o := .tup [.str gg.1, .str y])
              have hul : us.length ≤ 100 := by
                have e := Paired.length pu
                rw [List.length_map] at e
                have l1 := List.length_filter_le (fun y => decide (y ≠ x)) (gg.2.1.take m)
                have l2 : (gg.2.1.take m).length ≤ gg.2.1.length := by rw [List.length_take]; exact Nat.min_le_right _ _
                have l3 := hil gg (hgj ▸ List.getElem_mem hj2)
                omega
              have keepL : ∀ (c : Addr) (xs : List V) (o : HO), upd H4 t (.tup [.str gg.1, .str y]) c = some (.tup xs) → upd (upd H4 t (.tup [.str gg.1, .str y])) L o c = some (.tup xs) := fun c xs o e => by
                rw [upd_ne (ne_of e (z5 _ _ hL) (by intro z; cases z))]
                exact e
              refine ⟨_, z5 _ _ hL, ?_, ?_, us ++ [t], ?_, ?_⟩
              · rw [List.length_map]
                exact Nat.lt_of_le_of_lt hul (by decide)
              · intro c o ec
                rw [upd_ne (ne_of_none ec nL)]
                exact z5 _ _ (s4 _ _ ec)
              · rw [upd_same, List.map_append]
                rfl
              · rw [stp, if_pos c, List.map_append]
                exact pair_snoc (Paired.mapP pu fun c e h => keepL _ _ _ (z5 _ _ h)) (keepL _ _ _ upd_same)
          · obtain ⟨s4, us, hL, pu⟩ := hP
            rw [List.length_map, List.take_length] at pu
            have hD4 := s4 _ _ hD
            have nLD : L ≠ D := Ne.symm (ne_of_none hD nL)
            refine ⟨D, L, _, _, rfl, rfl, hD4, hL, ?_, ?_⟩
            · rw [List.length_map, List.length_map]
              have a1 := Paired.length prs
              have a2 := Paired.length pu
              have b1 := exits_len (gs := gs.take j) (bar := bar) (x := x) fun g hg => hil g (List.mem_of_mem_take hg)
              have b2 : (gs.take j).length ≤ gs.length := by rw [List.length_take]; exact Nat.min_le_right _ _
              have b3 : ((gg.2.1.filter fun y => decide (y ≠ x)).map fun y => (gg.1, y)).length ≤ 100 := by
                rw [List.length_map]
                exact Nat.le_trans (List.length_filter_le _ _) (hil gg (hgj ▸ List.getElem_mem hj2))
              have b4 : (gs.take j).length * 100 ≤ 100 * 100 := Nat.mul_le_mul (by omega) (by omega)
              exact Nat.le_trans (show ts.length + us.length ≤ 20000 by omega) (by decide)
            · have keepD : ∀ (c : Addr) (xs : List V) (o : HO), H4 c = some (.tup xs) → upd H4 D o c = some (.tup xs) := fun c xs o e => by
                rw [upd_ne (ne_of e hD4 (by intro z; cases z))]
                exact e
              refine ⟨_, _, _, ts ++ us, rfl, ?_, ?_, ?_⟩
              · intro c o ec
                rw [upd_ne (ne_of_none ec nD)]
                exact s4 _ _ (sm _ _ ec)
              · rw [upd_same, List.map_append]
              · rw [step]
                exact pair_app (Paired.mapP prs fun c e h => keepD _ _ _ (s4 _ _ h)) (Paired.mapP pu fun c e h => keepD _ _ _ h)
      · rw [decide_eq_false c1]
        refine iteF (iteF ⟨_, _, _, ts, rfl, sm, hD, ?_⟩)
        rw [step, if_neg fun z => c1 z.1, List.append_nil]
        exact prs
    · obtain ⟨v4, v5, v6, ts, rfl, sm, hD, prs⟩ := hP
      rw [List.length_map, hlen, List.take_length] at prs
      exact ⟨_, rfl, q _ D ts sm nD hD prs⟩
end
end K14

set_option Elab.async false
set_option linter.all false
set_option maxRecDepth 100000
set_option maxHeartbeats 4000000
namespace K14
open PySem PySem.Spec PyProof.Rows L2 WT
abbrev st_shortest_path : Stmt := top 9
theorem sc_shortest_path : FnScope ["world", "one", "other", "without", "paths", "farthest", "reached", "region", "name", "behind"] ["world", "one", "other", "without"] (defScope st_shortest_path) := ⟨rfl, rfl, rfl, by decide +kernel, rfl, by decide +kernel, by decide +kernel⟩
section
variable {P : Program} {w : World} {K : PySem.W.Frag} {mg : Str → Option Value} {base : Heap} {f fE : Addr} {fd fdE : FuncData}
/-- shortest_path(world, one, other, without): the path that the search finds -/
def spShort (K : PySem.W.Frag) : Sp := fun vs H Q _ => ∃ (wa r g wo : Addr) (as : List Addr) (rs : List Str) (gs : List Gt) (one other : Str) (bar : List Str), vs = [.ref wa, .str one, .str other, .ref wo] ∧ WorldAt H wa r g as rs gs ∧ SqT K H wo (bar.map V.str) ∧ rs.length ≤ 100 ∧ gs.length ≤ 100 ∧ (gs.map (·.1)).Nodup ∧
  (∀ g ∈ gs, g.2.1.length ≤ 100 ∧ ∀ y ∈ g.2.1, y ∈ rs) ∧ one ∈ rs ∧ ∀ (H' : Hp) (v : V), Same H H' → PathRes one H' v (spath gs bar rs one other) → Q v H'
theorem ok_shortest_path (F : Fun K "shortest_path" "shortest_path" st_shortest_path f fd) (F_exits : DfO P w K mg base "exits" 1 fE fdE ["world", "region", "without"] (spExits K)) : FnOk P w K mg base CX0 2 f fd ["world", "one", "other", "without"] (spShort K) := by
  refine F.ok sc_shortest_path (fun vs H Q E h => ?_) (fun cdv A outer s H vs Q E hr h => ?_)
  · obtain ⟨_, _, _, _, _, _, _, _, _, _, rfl, _⟩ := h
    rfl
  · obtain ⟨wa, r, g, wo, as, rs, gs, one, other, bar, rfl, hw, hwo, hrl, hgl, nd0, hil, hone, q⟩ := h
    refine ⟨_, (pss_cons (ps_set (i := 4) sc_shortest_path.nd rfl (.inl rfl) (pe_disp (pps_cons (pv 1) (pe_tup (pa_cons (pv 1) pa_nil)) pps_nil) (by rfl) (by rfl) (fun z => by cases z) (by decide)))
      (pss_cons (ps_set (i := 5) sc_shortest_path.nd rfl (.inl rfl) (pe_lst (pa_cons (pv 1) pa_nil)))
      (pss_cons (ps_while PassesOwn.never (PW.pt (pw_and (pt_truth (pv 5) (by intro _; rfl)) (pw_and1 (pt_cmp (pc_dnotin (hu_of hr) (pv 2) (pv 4))))))
       (pss_cons (ps_set (i := 6) sc_shortest_path.nd rfl (.inl rfl) (pe_lst pa_nil))
       (pss_cons (ps_for PassesOwn.never rfl (pi_list (pv 5)) (pg_name (i := 7) sc_shortest_path.nd rfl (.inl rfl))
        (pss_one (ps_for PassesOwn.never rfl (pi_list (pe_call F_exits.G (hr.mono (by decide)) (by rfl) F_exits.g F_exits.kp F_exits.bd .nil pass0 (pa_cons (pv 0) (pa_cons (pv 7) (pa_cons (pv 3) pa_nil))))) (pg_tup rfl (pgs_cons (pg_name (i := 8) sc_shortest_path.nd rfl (.inl rfl)) (pgs_cons (pg_name (i := 9) sc_shortest_path.nd rfl (.inl rfl)) pgs_nil)))
         (pss_one (ps_if (pt_cmp (pc_dnotin (hu_of hr) (pv 9) (pv 4)))
          (pss_cons (ps_dput (hu_of hr) (pv 4) (pv 9) (pe_op op_catT (pe_dget (hu_of hr) (pv 4) (pv 7) (fun _ _ => rfl)) (pe_tup (pa_cons (pv 8) (pa_cons (pv 9) pa_nil)))) rfl)
          (pss_one (ps_expr (pe_bm PySem.F.plainAttrs_list PySem.F.slot_list_append PySem.F.type_list_append mt_append (pv 6) (pa_cons (pv 9) pa_nil)))))
          pss_nil)))))
       (pss_one (ps_set (i := 5) sc_shortest_path.nd rfl (.inl rfl) (pv 6))))))
      (pss_one (ps_ret (pe_dget1 (hu_of hr) (pv 4) (pv 2) ⟨by rfl, by rfl, by rfl, by rfl⟩)))))), ?_⟩
    have hm : ∀ g ∈ gs, ∀ z ∈ g.2.1, z ∈ rs := fun g hg => (hil g hg).2
    -- paths = {one: (one,)}
    intro d nd
    refine ⟨_, rfl, _, rfl, (by show 1 ≤ sizeLine; decide), fun t0 nt0 => ?_⟩
    have z0 := same_new nd (o := .dK [])
    have z1 := same_new nt0 (o := .tup [.str one])
    have hd1 := z1 _ _ (show (upd H d (.dK [])) d = some (.dK []) from upd_same)
    refine ⟨hd1, [(Sum.inr one, .ref t0)], rfl, (by show 1 ≤ 15; decide), ?_⟩
    -- farthest = [one]
    refine ⟨_, rfl, (by show 1 ≤ sizeLine; decide), fun fl0 nfl0 => ?_⟩
    have ntd : t0 ≠ d := Ne.symm (ne_of_none (show (upd H d (.dK [])) d = some (.dK []) from upd_same) nt0)
    have ht2 : (upd (upd (upd H d (.dK [])) t0 (.tup [.str one])) d (.dK (mergeK [] [(Sum.inr one, .ref t0)]))) t0 = some (.tup [.str one]) := by
      rw [upd_ne ntd]
      exact upd_same
    have z2 := same_new nfl0 (o := .lst [.str one])
    have sm0 : Same H (upd (upd (upd (upd H d (.dK [])) t0 (.tup [.str one])) d (.dK (mergeK [] [(Sum.inr one, .ref t0)]))) fl0 (.lst [.str one])) := fun c o e => by
      refine z2 _ _ ?_
      rw [upd_ne (ne_of_none e nd)]
      exact z1 _ _ (z0 _ _ e)
    refine ⟨fun m σ H' => ∃ (kvs : List (Key × V)) (t : Tab) (far : List Str) (dd n : Nat) (fl : Addr) (v6 v7 v8 v9 : Option V), σ = [some (.ref wa), some (.str one), some (.str other), some (.ref wo), some (.ref d), some (.ref fl), v6, v7, v8, v9] ∧ Same H H' ∧ H fl = none ∧ H' d = some (.dK kvs) ∧ H' fl = some (.lst (far.map V.str)) ∧
        TabAt one H' kvs t ∧ BOk gs bar rs one dd t far ∧ bmeas rs t far ≤ n ∧ bfs gs bar other n t far = bfs gs bar other (2 * rs.length + 2) [(one, [])] [one] ∧ m = bmeas rs t far,
      ⟨_, [(Sum.inr one, .ref t0)], [(one, [])], [one], 0, _, fl0, none, none, none, none, rfl, sm0, ?_, ?_, upd_same, .cons ⟨rfl, t0, rfl, z2 _ _ ht2⟩ .nil, .first hone, bmeas_first, rfl, rfl⟩, fun m σ H' hW => ?_⟩
    · cases e : H fl0 with
      | none => rfl
      | some o =>
        have : (upd (upd (upd H d (.dK [])) t0 (.tup [.str one])) d (.dK (mergeK [] [(Sum.inr one, .ref t0)]))) fl0 = some o := by
          rw [upd_ne (ne_of_none e nd)]
          exact z1 _ _ (z0 _ _ e)
        rw [nfl0] at this
        cases this
    · exact z2 _ _ upd_same
    obtain ⟨kvs, t, far, dd, n, fl, v6, v7, v8, v9, rfl, sm, nfl, hd, hfl, tb, BO, hn, hR, rfl⟩ := hW
    -- while farthest and other not in paths
    have ret : (far = [] ∨ other ∈ keysT t) → Q ((valV kvs (Sum.inr other)).getD .non) H' := fun hdn => q _ _ sm (by
      have e : spath gs bar rs one other = tabGet t other := by
        unfold spath
        rw [← hR, bfs_stop hdn]
      rw [e]
      by_cases ho : other ∈ keysT t
      · obtain ⟨l, el⟩ := get_some ho
        obtain ⟨a, ea, ha⟩ := tb.some_ el
        rw [el, ea]
        exact ⟨a, rfl, ha⟩
      · rw [get_none ho, tb.none_ ho]
        rfl)
    refine ⟨_, rfl, _, .inl ⟨_, SqL.of hfl, rfl⟩, ?_⟩
    cases far with
    | nil =>
      refine ifF rfl (ifF rfl ?_)
      exact ⟨_, rfl, d, rfl, .inl ⟨_, .inl hd⟩, _, rfl, _, DGet.k (k := Sum.inr other) hd, ret (.inl rfl)⟩
    | cons y far =>
      refine ifT rfl ⟨_, rfl, _, rfl, d, _, rfl, DGet.k (k := Sum.inr other) hd, _, rfl, ?_⟩
      by_cases ho : other ∈ keysT t
      · obtain ⟨l, el⟩ := get_some ho
        obtain ⟨a, ea, ha⟩ := tb.some_ el
        refine ifF (by rw [ea]; rfl) ?_
        exact ⟨_, rfl, d, rfl, .inl ⟨_, .inl hd⟩, _, rfl, _, DGet.k (k := Sum.inr other) hd, ret (.inr ho)⟩
      · refine ifT (by rw [tb.none_ ho]; rfl) ?_
        generalize hfr : y :: far = fr at *
        have frn : fr ≠ [] := by
          rw [← hfr]
          simp
        clear hfr
        refine ⟨fun σ' H2 => ∃ (kvs2 : List (Key × V)) (add : Tab) (rl : Addr) (v6 v7 v8 v9 : Option V), σ' = [some (.ref wa), some (.str one), some (.str other), some (.ref wo), some (.ref d), some (.ref rl), v6, v7, v8, v9] ∧ Same H H2 ∧ H rl = none ∧ H2 d = some (.dK kvs2) ∧ H2 rl = some (.lst ((keysT add).map V.str)) ∧
            TabAt one H2 kvs2 (t ++ add) ∧ bfsLev gs bar t fr = (t ++ add, keysT add), ?_, ?_⟩
        · intro σ' H2 hN
          obtain ⟨kvs2, add, rl, u6, u7, u8, u9, rfl, sm2, nrl, hd2, hrl2, tb2, hlev⟩ := hN
          obtain ⟨add', e', C⟩ := BO.next hm
          rw [hlev] at e'
          have ea : t ++ add = t ++ add' := congrArg Prod.fst e'
          obtain rfl : add = add' := List.append_cancel_left ea
          have less := BO.less frn C
          have nn : n ≠ 0 := by omega
          obtain ⟨n', rfl⟩ : ∃ n', n = n' + 1 := ⟨n - 1, by omega⟩
          refine ⟨_, less, kvs2, t ++ add, keysT add, dd + 1, n', rl, u6, u7, u8, u9, rfl, sm2, nrl, hd2, hrl2, tb2, C, by omega, ?_, rfl⟩
          rw [← hR]
          conv => rhs; unfold bfs
          rw [if_neg (fun z => z.elim frn ho), hlev]
        -- reached = []
        refine ⟨(by show 0 ≤ sizeLine; decide), fun rl nrl => ?_⟩
        have z3 := same_new nrl (o := .lst [])
        have nrlH : H rl = none := sm.free nrl
        have nlf : fl ≠ rl := ne_of_none hfl nrl
        have nld : d ≠ rl := ne_of_none hd nrl
        have nfd : fl ≠ d := ne_of hfl hd (by intro z; cases z)
        refine ⟨_, rfl, fl, rfl, ⟨_, SqL.of (z3 _ _ hfl)⟩, for_it (walk_list (xs := fr.map V.str))
          (fun i σ' H2 => ∃ (kvs2 : List (Key × V)) (add : Tab) (v7 v8 v9 : Option V), σ' = [some (.ref wa), some (.str one), some (.str other), some (.ref wo), some (.ref d), some (.ref fl), some (.ref rl), v7, v8, v9] ∧ Same H H2 ∧ H2 d = some (.dK kvs2) ∧ H2 fl = some (.lst (fr.map V.str)) ∧ H2 rl = some (.lst ((keysT add).map V.str)) ∧
            TabAt one H2 kvs2 (t ++ add) ∧ BMid gs bar rs one dd t add ∧ (fr.take i).foldl (bfsReg gs bar) (t, []) = (t ++ add, keysT add))
          ⟨kvs, [], v7, v8, v9, rfl, sm.trans z3, z3 _ _ hd, z3 _ _ hfl, upd_same, by rw [List.append_nil]; exact tb.same fun t xs e => z3 _ _ e, .first BO, by rw [List.append_nil]; rfl⟩ (fun i σ' H2 _ ⟨_, _, _, _, _, _, _, _, h, _⟩ => SqL.of h) (fun i v σ' H2 H3 hi hP hY => ?_) (fun σ' H2 hP => ?_)⟩
        · obtain ⟨kvs2, add, u7, u8, u9, rfl, sm2, hd2, hfl2, hrl2, tb2, md2, fo2⟩ := hP
          obtain ⟨rfl, hv⟩ := hY
          rw [List.getElem?_map] at hv
          obtain ⟨x, hx, rfl⟩ := Option.map_eq_some_iff.mp hv
          have hxf : x ∈ fr := List.mem_of_getElem? hx
          obtain ⟨lr, el, ml, ll⟩ := BO.at_far hxf
          have xk := BO.fsub x hxf
          have lrl : lr.length + 1 ≤ rs.length := by
            obtain ⟨o1, o2, o3⟩ := BO.ok _ ml
            obtain ⟨g1, g2⟩ := o1.good nd0 o3
            exact GoodP.len ⟨⟨_, o1⟩, g1, g2, o1.sub hm⟩ hone
          refine ⟨_, rfl, _, rfl, _, rfl, wa, r, g, wo, as, rs, gs, x, bar, rfl, hw.same sm2, sameT sm2 hwo, hgl, fun g hg => (hil g hg).1, fun H4 p ts s4 np hp prs => ?_⟩
          have hlp := Paired.length prs
          refine ⟨p, rfl, ⟨_, SqL.of hp⟩, for_it (walk_list (xs := ts.map V.ref))
            (fun j σ' H5 => ∃ (kvs5 : List (Key × V)) (ad5 : Tab) (v8 v9 : Option V), σ' = [some (.ref wa), some (.str one), some (.str other), some (.ref wo), some (.ref d), some (.ref fl), some (.ref rl), some (.str x), v8, v9] ∧ Same H H5 ∧ H5 d = some (.dK kvs5) ∧ H5 fl = some (.lst (fr.map V.str)) ∧ H5 rl = some (.lst ((keysT ad5).map V.str)) ∧ H5 p = some (.lst (ts.map V.ref)) ∧
              Paired (PairAt H5) ts (exitsL gs bar x) ∧ TabAt one H5 kvs5 (t ++ ad5) ∧ BMid gs bar rs one dd t ad5 ∧ ((exitsL gs bar x).take j).foldl (bfsOne lr) (t ++ add, keysT add) = (t ++ ad5, keysT ad5))
            ⟨kvs2, add, u8, u9, rfl, sm2.trans s4, s4 _ _ hd2, s4 _ _ hfl2, s4 _ _ hrl2, hp, prs, tb2.same fun t xs e => s4 _ _ e, md2, rfl⟩ (fun j σ' H5 _ ⟨_, _, _, _, _, _, _, _, _, h, _⟩ => SqL.of h) (fun j v σ' H5 H6 hj hP hY => ?_) (fun σ' H5 hP => ?_)⟩
          · obtain ⟨kvs5, ad5, w8, w9, rfl, sm5, hd5, hfl5, hrl5, hp5, prs5, tb5, md5, fo5⟩ := hP
            obtain ⟨rfl, hv⟩ := hY
            rw [List.getElem?_map] at hv
            obtain ⟨u, hu, rfl⟩ := Option.map_eq_some_iff.mp hv
            obtain ⟨e, he, het⟩ := pair_at prs5 hu
            have hem : e ∈ exitsL gs bar x := List.mem_of_getElem? he
            obtain ⟨ad6, eq6, md6, k6, s6⟩ := BMid.one_ hm BO md5 ml ll hem
            have fo6 : ((exitsL gs bar x).take (j + 1)).foldl (bfsOne lr) (t ++ add, keysT add) = (t ++ ad6, keysT ad6) := by
              rw [List.take_add_one, he, List.foldl_append, fo5]
              exact eq6
            have l5 := md5.len BO
            refine ⟨u, [.str e.1, .str e.2], rfl, SqT.of het, rfl, .str e.1, _, rfl, .str e.2, [], rfl, rfl, ?_⟩
            refine ⟨_, rfl, _, rfl, d, _, rfl, DGet.k (k := Sum.inr e.2) hd5, _, rfl, ?_⟩
            by_cases hin : e.2 ∈ keysT (t ++ ad5)
            · obtain ⟨le, ele⟩ := get_some hin
              obtain ⟨ae, ee, _⟩ := tb5.some_ ele
              refine ifF (by rw [ee]; rfl) ?_
              have same6 : ad6 = ad5 := by
                unfold bfsOne at eq6
                rw [if_pos hin] at eq6
                exact (List.append_cancel_left (congrArg Prod.fst eq6)).symm
              rw [same6] at fo6
              exact ⟨kvs5, ad5, _, _, rfl, sm5, hd5, hfl5, hrl5, hp5, prs5, tb5, md5, fo6⟩
            · have is6 : ad6 = ad5 ++ [(e.2, lr ++ [e])] := by
                unfold bfsOne at eq6
                rw [if_neg hin] at eq6
                have := congrArg Prod.fst eq6
                dsimp only at this
                rw [List.append_assoc] at this
                exact (List.append_cancel_left this).symm
              refine ifT (by rw [tb5.none_ hin]; rfl) ?_
              obtain ⟨tp, ev, htp⟩ := tb5.some_ (x := x) (l := lr) (by rw [get_app xk]; exact el)
              have hxl := pathV_len one lr
              have hkl := Paired.length tb5
              -- paths[behind] = paths[region] + (name, behind)
              refine ⟨_, rfl, _, rfl, d, .ref tp, rfl, by rw [← ev]; exact DGet.k (k := Sum.inr x) hd5, _, rfl, _, rfl, (by show 2 ≤ sizeLine; decide), fun t7 n7 => ?_⟩
              have z7 := same_new n7 (o := .tup [.str e.1, .str e.2])
              refine ⟨tp, t7, pathV one lr, [.str e.1, .str e.2], rfl, rfl, SqT.of (z7 _ _ htp), SqT.of upd_same, (by unfold pathV; simp), ?_, fun z => (List.cons_ne_nil _ _ z).elim, fun _ t8 n8 => ?_⟩
              · show (pathV one lr).length + 2 ≤ sizeLine
                exact Nat.le_trans (show (pathV one lr).length + 2 ≤ 300 by omega) (by decide)
              have z8 := same_new n8 (o := .tup (pathV one lr ++ [.str e.1, .str e.2]))
              have z78 := z7.trans z8
              have ht8 : upd (upd H6 t7 (.tup [.str e.1, .str e.2])) t8 (.tup (pathV one lr ++ [.str e.1, .str e.2])) t8 = some (.tup (pathV one (lr ++ [e]))) := by
                rw [upd_same, ← pathV_snoc]
              generalize upd (upd H6 t7 (.tup [.str e.1, .str e.2])) t8 (.tup (pathV one lr ++ [.str e.1, .str e.2])) = H8 at z78 ht8 ⊢
              have hd8 := z78 _ _ hd5
              refine ⟨_, rfl, _, rfl, d, _, rfl, DPut.k (k := Sum.inr e.2) hd8 ?_, ?_⟩
              · exact Nat.lt_of_le_of_lt (show kvs5.length ≤ 100 by omega) (by decide)
              have tb8 : TabAt one H8 kvs5 (t ++ ad5) := tb5.same fun c xs ec => z78 _ _ ec
              obtain ⟨hput, tb9⟩ := tb8.put hin ht8
              rw [hput]
              rw [List.append_assoc, ← is6] at tb9
              have hrl8 := z78 _ _ hrl5
              have keepd : ∀ (c : Addr) (xs' : List V) (o : HO), H8 c = some (.tup xs') → upd H8 d o c = some (.tup xs') := fun c xs' o ec => by
                rw [upd_ne (ne_of ec hd8 (by intro z; cases z))]
                exact ec
              have hrl9 : upd H8 d (.dK (kvs5 ++ [(Sum.inr e.2, .ref t8)])) rl = some (.lst ((keysT ad5).map V.str)) := by
                rw [upd_ne (Ne.symm nld)]
                exact hrl8
              have hd9 : upd H8 d (.dK (kvs5 ++ [(Sum.inr e.2, .ref t8)])) d = some (.dK (kvs5 ++ [(Sum.inr e.2, .ref t8)])) := upd_same
              have tb10 := tb9.same fun c xs ec => keepd c xs (.dK (kvs5 ++ [(Sum.inr e.2, .ref t8)])) ec
              have prs9 : Paired (PairAt (upd H8 d (.dK (kvs5 ++ [(Sum.inr e.2, .ref t8)])))) ts (exitsL gs bar x) := Paired.mapP prs5 fun c e' hc => keepd _ _ _ (z78 _ _ hc)
              have fl9 : upd H8 d (.dK (kvs5 ++ [(Sum.inr e.2, .ref t8)])) fl = some (.lst (fr.map V.str)) := by
                rw [upd_ne nfd]
                exact z78 _ _ hfl5
              have npd : p ≠ d := fun z => by
                rw [z, hd2] at np
                cases np
              have npr : p ≠ rl := fun z => by
                rw [z, hrl2] at np
                cases np
              have p9 : upd H8 d (.dK (kvs5 ++ [(Sum.inr e.2, .ref t8)])) p = some (.lst (ts.map V.ref)) := by
                rw [upd_ne npd]
                exact z78 _ _ hp5
              have sm9 : Same H (upd H8 d (.dK (kvs5 ++ [(Sum.inr e.2, .ref t8)]))) := fun c o ec => by
                rw [upd_ne (ne_of_none ec nd)]
                exact z78 _ _ (sm5 _ _ ec)
              generalize upd H8 d (.dK (kvs5 ++ [(Sum.inr e.2, .ref t8)])) = H9 at hrl9 hd9 tb10 prs9 fl9 p9 sm9 ⊢
              refine ⟨_, rfl, .inl ⟨rfl, _, SqL.of hrl9⟩, _, rfl, rl, _, _, rfl, rfl, hrl9, ?_, ?_⟩
              · rw [List.length_map]
                unfold keysT
                rw [List.length_map]
                rw [List.length_append] at l5
                exact Nat.lt_of_le_of_lt (show ad5.length ≤ 100 by omega) (by decide)
              · have keepr : ∀ (c : Addr) (xs' : List V) (o : HO), H9 c = some (.tup xs') → upd H9 rl o c = some (.tup xs') := fun c xs' o ec => by
                  rw [upd_ne (ne_of ec hrl9 (by intro z; cases z))]
                  exact ec
                refine ⟨kvs5 ++ [(Sum.inr e.2, .ref t8)], ad6, _, _, rfl, ?_, ?_, ?_, ?_, ?_, ?_, ?_, md6, fo6⟩
                · intro c o ec
                  rw [upd_ne (ne_of_none ec nrlH)]
                  exact sm9 _ _ ec
                · rw [upd_ne nld]
                  exact hd9
                · rw [upd_ne nlf]
                  exact fl9
                · rw [upd_same, is6, keys_app, List.map_append]
                  rfl
                · rw [upd_ne npr]
                  exact p9
                · exact Paired.mapP prs9 fun c e' hc => keepr _ _ _ hc
                · exact tb10.same fun c xs ec => keepr _ _ _ ec
          · obtain ⟨kvs5, ad5, w8, w9, rfl, sm5, hd5, hfl5, hrl5, hp5, prs5, tb5, md5, fo5⟩ := hP
            rw [List.length_map, hlp, List.take_length] at fo5
            refine ⟨kvs5, ad5, _, _, _, rfl, sm5, hd5, hfl5, hrl5, tb5, md5, ?_⟩
            rw [List.take_add_one, hx, List.foldl_append, fo2]
            show bfsReg gs bar (t ++ add, keysT add) x = _
            unfold bfsReg
            rw [get_app xk, el]
            exact fo5
        · obtain ⟨kvs2, add, u7, u8, u9, rfl, sm2, hd2, hfl2, hrl2, tb2, md2, fo2⟩ := hP
          rw [List.length_map, List.take_length] at fo2
          exact ⟨_, rfl, kvs2, add, rl, _, _, _, _, rfl, sm2, nrlH, hd2, hrl2, tb2, fo2⟩
end
end K14

set_option Elab.async false
set_option linter.all false
set_option maxRecDepth 100000
set_option maxHeartbeats 4000000
/-! enumerate over a tuple. -/
namespace PySem
open Sem (wp)
theorem newEnumOne {x : Value} {io : Obj} {Hh : Heap → Prop} (Bg : Begins x io Hh) :
    Meets (Builtin.«enumerate.__new__» ⟨[.type "enumerate", x], []⟩) (fun _ Rr st => Hh st.heap ∧
      Rr (.ok (.ret (.ref (st.heap.push io).objs.size))) { st with heap := (st.heap.push io).push { cls := .type "enumerate", data := .fields #[.none, .bool false, .ref st.heap.objs.size, rawInt 0, .none, .none] } }) :=
  .of_wp fun pr wd Ar Rr st hyp => by
    obtain ⟨hh, gg, dd, tt, oo⟩ := st
    obtain ⟨hb, hyp⟩ := hyp
    have hsb := sub_enumerate
    have itr : ∀ {A2 : Around} {E2 : Value → Shared → Prop} {Q2 : Value → Shared → Prop}, Q2 (.ref hh.objs.size) ⟨hh.push io, gg, dd, tt, oo⟩ → wpAny (model pr wd) A2 (pyIter x) Q2 E2 ⟨hh, gg, dd, tt, oo⟩ :=
      fun r => Bg.iter pr wd _ _ ⟨hh, gg, dd, tt, oo⟩ _ hb r
    wp_walk using itr
    refine wpAny_stack_any fun stk => wpAny_pure ?_
    split
    · rename_i cc _ _ _ _ _
      cases (cc == Value.type "enumerate") <;> (wp_walk using itr; exact ⟨_, rfl, hyp⟩)
    · wp_walk using itr
      exact ⟨_, rfl, hyp⟩
theorem enumOne_begins {pr : Program} {wd : World} {Ar : Around} {Er : Value → Shared → Prop} {st : Shared} {x : Value} {io : Obj} {Hh : Heap → Prop} {Q : Value → Shared → Prop} (Bg : Begins x io Hh) (hb : Hh st.heap)
    (h : ∀ h2, IsEnum h2 (st.heap.objs.size + 1) st.heap.objs.size 0 .none → h2.get? st.heap.objs.size = some io → (∀ c oc, st.heap.get? c = some oc → h2.get? c = some oc) → Q (.ref (st.heap.objs.size + 1)) { st with heap := h2 }) :
    wpAny (model pr wd) Ar (call (.type "enumerate") [x]) Q Er st := by
  refine callType_new F.called_enumerate (by decide) (F.typeCall_enumerate_1 _) (F.newCall_enumerate_1 _) (fun ob => F.args_object_init_2 ob _) F.entry_enumerate_new (newEnumOne Bg) ⟨hb, ?_⟩
  have size1 : (st.heap.push io).objs.size = st.heap.objs.size + 1 := Heap.size_push ..
  show _ ∧ _
  rw [size1]
  have isE : IsEnum ((st.heap.push io).push { cls := .type "enumerate", data := .fields #[.none, .bool false, .ref st.heap.objs.size, rawInt 0, .none, .none] }) (st.heap.objs.size + 1) st.heap.objs.size 0 .none := by
    have z := Heap.get?_push_size (st.heap.push io) (o := { cls := .type "enumerate", data := .fields #[.none, .bool false, .ref st.heap.objs.size, rawInt 0, .none, .none] }) rfl
    rw [size1] at z
    exact z
  exact ⟨⟨_, isE, rfl⟩, h _ isE (Heap.get?_push_of_some _ (Heap.get?_push_size _ Bg.free)) fun c oc e => Heap.get?_push_of_some _ (Heap.get?_push_of_some _ e)⟩
end PySem
namespace WT
open PySem PySem.Spec PyProof.Rows L2
/-- the tuple at a, each item in a new pair with its number -/
def IteT (K : PySem.W.Frag) (a : Addr) : It where
  go i H := ∃ (xs : List V) (x : V), SqT K H a xs ∧ xs[i]? = some x
  yld i H v H' := ∃ T x, v = .ref T ∧ H T = none ∧ H' = upd H T (.tup [.int (i : Nat), x]) ∧ ∀ xs, SqT K H a xs → xs[i]? = some x
  stop i H := ∃ xs : List V, SqT K H a xs ∧ i = xs.length
theorem turn_enumT {P : Program} {w : World} {K : PySem.W.Frag} {ets : List Expr} {q : Nat} {tp : Pos} (a e it : Addr) :
    Turn P w K (.Tuple ets q tp) (IteT K a) [e, it] e (fun i h => ((∃ old, IsEnum h e it ((i : Nat) : Int) old) ∧ h.IsTupleIter it a i) ∧ e ≠ it ∧ a ≠ it ∧ a ≠ e) where
  mem := List.mem_cons_self
  obj := fun i h st b hb => by
    obtain ⟨⟨⟨old, he⟩, ⟨o, ho, hc, hd⟩⟩, _⟩ := st
    rcases List.mem_cons.mp hb with rfl | hb
    · exact ⟨_, he, fun v z => nomatch z⟩
    · rw [List.mem_singleton.mp hb]
      exact ⟨o, ho, fun v z => by rw [hd] at z; cases z⟩
  keep := fun i h h' st k => ⟨⟨⟨st.1.1.choose, k e List.mem_cons_self _ st.1.1.choose_spec⟩, st.1.2.at fun o z => k it (by simp) o z⟩, st.2⟩
  item := by
    intro X hP hw hK hc i pins s σ H E I hf st hg
    subst hP hw hK
    obtain ⟨⟨⟨old, he⟩, hit⟩, hne, hai, hae⟩ := st
    obtain ⟨xs, x, hq, hx⟩ := hg
    obtain ⟨its, rv, p, hz⟩ := I.tuple hq
    obtain ⟨u, hu, ru⟩ := rv.get hx
    have le : e < s.heap.objs.size := Heap.lt_size he
    have li : it < s.heap.objs.size := by
      obtain ⟨_, z, _⟩ := hit
      exact Heap.lt_size z
    have hp : s.heap.IsTuple a its.toArray := p
    have hlt : i < its.toArray.size := by
      have := (List.getElem?_eq_some_iff.mp hu).1
      simpa using this
    refine wpAny_pyNext_enum_itemD (Draws.tuple (A := X.A.in1) (show X.A.in1.handled = none from I.ok.hd hc) it a hai its.toArray) he ⟨hit, hp⟩ hlt hne (by simp only [List.mem_cons, List.not_mem_nil, or_false, not_or]; exact ⟨hne, Ne.symm hae⟩) fun y h' tk hy ho hst' hT hsz hk => ?_
    have ey : y = u := by
      have h1 : its.toArray[i]? = some y := hy
      have h2 : its.toArray[i]? = some u := by simpa using hu
      rw [h1] at h2
      exact Option.some.inj h2
    subst ey
    refine ⟨_, rfl, wpAny_letOwnedTupleGo_enum (s := { s with heap := h', toks := tk + 1 }) ho fun h2 he2 sb => ?_⟩
    have hT2 : h2.get? s.heap.objs.size = some { cls := .type "tuple", data := .seq #[.int i tk, y] } := (sb.2 _ (Nat.ne_of_gt le)).trans hT
    have nw : ObjOk X.prog X.w (upd H s.heap.objs.size (.tup [.int (i : Nat), x])) h2 s.heap.objs.size (.tup [.int (i : Nat), x]) :=
      ⟨by show 2 ≤ sizeLine; decide, [.int i tk, y], .cons ⟨_, rfl⟩ (.cons ru .nil), ⟨_, hT2, rfl, _, rfl⟩⟩
    have I1 : Inv X pins σ (upd H s.heap.objs.size (.tup [.int (i : Nat), x])) { s with heap := h2, toks := tk + 1 } :=
      I.turnedNew (ch := [e, it]) (fun b ob hb z => (sb.2 b fun y => hb (by simp [y])).trans (hk b ob (fun y => hb (by simp [y])) (fun y => hb (by simp [y])) z)) hf (Nat.le_refl _) nw
    refine ⟨.ref s.heap.objs.size, _, I1, rfl, ⟨_, x, rfl, I.hok.fresh (Nat.le_refl _), rfl, fun ys hy => by rw [I.tuple_inj hy hq]; exact hx⟩, ⟨⟨⟨y, ?_⟩, hst'.1.at fun o z => (sb.2 it (Ne.symm hne)).trans z⟩, hne, hai, hae⟩, fun b hb => ?_⟩
    · rw [show ((i + 1 : Nat) : Int) = (i : Int) + 1 by omega]
      exact he2
    · have hlb : b < s.heap.objs.size := by
        rcases List.mem_cons.mp hb with rfl | hb
        · exact le
        · rw [List.mem_singleton.mp hb]
          exact li
      rw [upd_ne (Nat.ne_of_lt hlb)]
      exact (hf b hb).1
  done := by
    intro X hP hw hK hc i pins s σ H E I hf st hg
    subst hP hw hK
    obtain ⟨⟨⟨old, he⟩, hit⟩, hne, hai, hae⟩ := st
    obtain ⟨xs, hq, rfl⟩ := hg
    obtain ⟨its, rv, p, hz⟩ := I.tuple hq
    obtain ⟨f0, f1, f2, f3, f4, f5⟩ := hf it (by simp)
    have hp : s.heap.IsTuple a its.toArray := p
    have hl : xs.length = its.toArray.size := by
      have := rv.length
      simp
      omega
    exact wpAny_pyNext_enum_endD (Draws.tuple (A := X.A.in1) (show X.A.in1.handled = none from I.ok.hd hc) it a hai its.toArray) he ⟨hl ▸ hit, hp⟩ fun h' eb => ⟨rfl, I.turned (t' := s.toks) (fun b o hb z => eb b o hb z) f0 f1 f3 f4 f5⟩
  self := fun A i s Q E st h => wpAny_pyIter_enum st.1.1.choose_spec h
def iEnumT (K : PySem.W.Frag) (ta : TA) : TI := fun σ H R => ta σ H fun vs H1 => ∃ a xs, vs = [.ref a] ∧ SqT K H1 a xs ∧ R (IteT K a) H1
theorem pi_enumT {X : Cx} {e : Expr} {ta : TA} {p pos tp : Pos} {ets : List Expr} {q : Nat} (hg : Gl X "enumerate") (hm : X.mg "enumerate" = none) (ha : PA X [e] ta) (hs : starEach [e] X.env = [(false, eval e X.env)] := by rfl) :
    PI X (.Tuple ets q tp) (.Call (.Name "enumerate" p) [e] [] pos) (iEnumT X.K ta) := by
  refine ⟨fun pins s σ H R I h => Call_ (ld_blt I hg hm boot_enumerate (PyProof.Rows.callWith_type1 (thn (ha.run pos pins s σ H _ I h) fun us s1 ⟨vs, H1, I1, r1, q1⟩ => ?_) hs rfl))⟩
  obtain ⟨a, xs, rfl, hq, q⟩ := q1
  obtain ⟨its, rv, p', hz⟩ := I1.tuple hq
  have hp : s1.heap.IsTuple a its.toArray := p'
  cases r1 with
  | cons r rr =>
    cases rr
    cases r
    refine enumOne_begins (begins_tuple a its.toArray) hp fun h2 he hit hk => wpAny_pyIter_enum he ?_
    have la : a < s1.heap.objs.size := by
      obtain ⟨_, z, _⟩ := hp
      exact Heap.lt_size z
    refine ⟨s1.heap.objs.size + 1, [s1.heap.objs.size + 1, s1.heap.objs.size], _, _, H1, rfl, I1.kept (t' := s1.toks) hk, turn_enumT a (s1.heap.objs.size + 1) s1.heap.objs.size, ⟨⟨⟨.none, he⟩, _, hit, rfl, rfl⟩, Nat.succ_ne_self _, Nat.ne_of_lt la, Nat.ne_of_lt (Nat.lt_succ_of_lt la)⟩, fun b hb => ?_, q⟩
    have hle : s1.heap.objs.size ≤ b := by
      rcases List.mem_cons.mp hb with rfl | hb
      · exact Nat.le_succ _
      · rw [List.mem_singleton.mp hb]
        exact Nat.le_refl _
    exact I1.fpOk hle (I1.hok.fresh hle)
/-- a tuple of targets, within a comprehension -/
theorem pg_tupK {X : Cx} {K : PySem.W.Frag} {es : List Expr} {q : Nat} {t : TGs} {n : Nat} {pos : Pos} (hc : X.calm = true) (h : PGs X es t) (hn : (assignEach es X.env).length = n := by rfl) (hst : (assignEach es X.env).findIdx? (·.1) = none := by rfl) (hK : X.K = K := by rfl) :
    PG X (.Tuple es q pos) (gTup K n t) := by
  subst hK
  exact pg_tup hc h hn hst
theorem walk_enumT {K : PySem.W.Frag} {a : Addr} {xs : List V} : Walk (IteT K a) xs.length (fun H => SqT K H a xs) (YPair (fun i => some (.int (i : Nat))) (fun i => xs[i]?)) where
  goes i _ hi h := ⟨xs, xs[i], h, by simp [hi]⟩
  stops _ h := ⟨xs, h, rfl⟩
  yields i H v H' _ h y := by
    obtain ⟨T, x, h1, h2, h3, h4⟩ := y
    exact ⟨T, .int (i : Nat), x, h1, h2, h3, rfl, h4 xs h⟩
end WT

set_option Elab.async false
set_option linter.all false
set_option maxRecDepth 100000
set_option maxHeartbeats 1000000
/-! Calls with a keyword of defs that are known without the guards. -/
namespace WT
open PySem PySem.Spec PyProof.Rows L2
section
variable {X : Cx} {cx : CXT} {k n m : Nat} {f : Addr} {fd : FuncData} {ps ks : List Str} {sp : Sp} {E : XK} {x : Str} {p pos : Pos} {e : Expr} {es : List Expr} {kws : List Keyword} {t tk : TA}
theorem run_fnO {pins : List (Addr × Obj)} {σ : L2.St} {H : Hp} {s : Shared} {Q : VK} {us : List Value} {kw : List (Str × Value)} {bs : List Value} {vs : List V} (G : FnOk X.prog X.w X.K X.mg X.base cx k f fd ps sp) (hr : Room k X.A)
    (hx : Passes cx X E) (I : Inv X pins σ H s) (hb : BindsTo s fd ⟨us, kw⟩ (ps.zip bs)) (r : Vals vs bs) (h : sp vs H Q E) : wpAny (model X.prog X.w) X.A (call (.ref f) us kw) (EP X pins σ Q) X.xe s := by
  refine wpAny_call (codeAny_mono (G.run X.A X.stack s H ⟨us, kw⟩ bs vs Q E hr I.env0 hb r h) fun r s2 hq => ?_)
  cases r with
  | error e => exact hx pins σ H s e s2 I hq
  | ok fl =>
    cases fl with
    | ret u => exact I.after hq
    | next => exact hq.elim
    | brk => exact hq.elim
    | cont => exact hq.elim
theorem pe_callKO (G : FnOk X.prog X.w X.K X.mg X.base cx k f fd ps sp) (hr : Room k X.A) (hg : Gl X x) (hm : X.mg x = some (.ref f)) (hk : PySem.W.keepIn X.K (.ref f) = true)
    (hb : ∀ (s1 : Shared) (us ws : List Value), X.K.In s1.heap → us.length = n → ws.length = m → BindsTo s1 fd ⟨us, ks.zip ws⟩ (ps.zip (us ++ ws))) (hx : Passes cx X E) (ha : PA X (e :: es) t) (hkw : PK X kws tk)
    (hall : (backToKw pos (keywordEach kws X.env)).all (·.1.isSome) = true := by rfl) (hks : (backToKw pos (keywordEach kws X.env)).filterMap (·.1) = ks := by rfl) (hdb : (x == ("__debug__" : Str)) = false := by decide)
    (he : starEach (e :: es) X.env = (false, eval e X.env) :: starEach es X.env := by rfl) (hpl : ((backTo pos (starEach (e :: es) X.env)).any (·.1) || (backToKw pos (keywordEach kws X.env)).any (·.1.isNone)) = false := by rfl) :
    PE X (.Call (.Name x p) (e :: es) kws pos) (tCallKG n m sp E t tk) := by
  refine ⟨fun pins s σ H Q I h => wpAny_Call_Name_kw (ld_glob I hg hm ?_ hdb)⟩
  refine PySem.W.callWith_KW (h₀ := X.base) I.ok.mod.kin hk hall (thn (ha.run pos pins s σ H _ I h) fun us s1 ⟨vs, H1, I1, r, q⟩ => ?_) hpl he
  refine thn (hkw.run pos pins s1 σ H1 _ I1 q) fun ws s2 ⟨zs, H2, I2, rz, l1, l2, q2⟩ => ⟨I2.kIn, ?_⟩
  rw [hks]
  exact run_fnO G hr hx I2 (hb s2 us ws I2.kIn ((Vals.length r).symm.trans l1) ((Vals.length rz).symm.trans l2)) (r.append rz) q2
end
/-- a def with one keyword-only parameter, known without the guards -/
structure DkO (P : Program) (w : World) (K : PySem.W.Frag) (mg : Str → Option Value) (base : Heap) (x : Str) (k : Nat) (f : Addr) (fd : FuncData) (ps : List Str) (n : Nat) (kw : Str) (dv : V) (sp : Sp) : Prop where
  g : mg x = some (.ref f)
  kp : PySem.W.keepIn K (.ref f) = true
  G : FnOk P w K mg base CX0 k f fd ps sp
  kb : ∀ (s1 : Shared) (us ws : List Value), K.In s1.heap → us.length = n → ws.length = 1 → BindsTo s1 fd ⟨us, ([kw] : List Str).zip ws⟩ (ps.zip (us ++ ws))
  bd : ∃ ds, Vals [dv] ds ∧ Binds K fd ps ds
end WT

set_option Elab.async false
set_option linter.all false
set_option maxRecDepth 100000
set_option maxHeartbeats 4000000
namespace K14
open PySem PySem.Spec PyProof.Rows L2 WT
abbrev st_connected : Stmt := top 10
theorem sc_connected : FnScope ["world", "one", "other", "without"] ["world", "one", "other", "without"] (defScope st_connected) := ⟨rfl, rfl, rfl, by decide +kernel, rfl, by decide +kernel, by decide +kernel⟩
section
variable {P : Program} {w : World} {K : PySem.W.Frag} {mg : Str → Option Value} {base : Heap} {f fS : Addr} {fd fdS : FuncData}
/-- connected(world, one, other, without) -/
def spConn (K : PySem.W.Frag) : Sp := fun vs H Q _ => ∃ (wa r g wo : Addr) (as : List Addr) (rs : List Str) (gs : List Gt) (one other : Str) (bar : List Str), vs = [.ref wa, .str one, .str other, .ref wo] ∧ WorldAt H wa r g as rs gs ∧ SqT K H wo (bar.map V.str) ∧ rs.length ≤ 100 ∧ gs.length ≤ 100 ∧ (gs.map (·.1)).Nodup ∧
  (∀ g ∈ gs, g.2.1.length ≤ 100 ∧ ∀ y ∈ g.2.1, y ∈ rs) ∧ one ∈ rs ∧ ∀ (H' : Hp) (c : Bool), Same H H' → (c = true ↔ Conn gs bar one other) → Q (.bl c) H'
theorem ok_connected (F : Fun K "connected" "connected" st_connected f fd) (F_shortest_path : DfO P w K mg base "shortest_path" 2 fS fdS ["world", "one", "other", "without"] (spShort K)) : FnOk P w K mg base CX0 3 f fd ["world", "one", "other", "without"] (spConn K) := by
  refine F.ok sc_connected (fun vs H Q E h => ?_) (fun cdv A outer s H vs Q E hr h => ?_)
  · obtain ⟨_, _, _, _, _, _, _, _, _, _, rfl, _⟩ := h
    rfl
  · obtain ⟨wa, r, g, wo, as, rs, gs, one, other, bar, rfl, hw, hwo, hrl, hgl, hnd, hil, hone, q⟩ := h
    refine ⟨_, (pss_one (ps_ret (pe_cmpR op_notN (pe_call F_shortest_path.G (hr.mono (by decide)) (by rfl) F_shortest_path.g F_shortest_path.kp F_shortest_path.bd .nil pass0 (pa_cons (pv 0) (pa_cons (pv 1) (pa_cons (pv 2) (pa_cons (pv 3) pa_nil))))) pe_non (nomark _)))), ?_⟩
    refine ⟨_, rfl, _, rfl, _, rfl, _, rfl, wa, r, g, wo, as, rs, gs, one, other, bar, rfl, hw, hwo, hrl, hgl, hnd, hil, hone, fun H' v sm hv => ⟨rfl, q H' _ sm ?_⟩⟩
    have hm : ∀ g ∈ gs, ∀ z ∈ g.2.1, z ∈ rs := fun g hg => (hil g hg).2
    cases e : spath gs bar rs one other with
    | none =>
      rw [e] at hv
      have hv : v = .non := hv
      have := (spath_none hm hone).mp e
      simp [hv, this]
    | some l =>
      rw [e] at hv
      obtain ⟨t, rfl, _⟩ := hv
      have := (spath_some hm hone e).1.conn
      simp [this]
/-- how connected is called: with its keyword, and without it -/
theorem dk_connected {T D : Addr} {oc : Value} {od : Option Addr} {doc pm : Value} {an : Option Addr} {cdv ct : Value} {osl : Array (Option Value)}
    (hfd : fd = PySem.W.fnOf "connected" "connected" (defArgs st_connected) (defBody st_connected) (defScope st_connected) .none (.ref D) doc pm an cdv ct) (lk : K.lookup f = some ⟨oc, od, .func fd, osl⟩) (hcd : PySem.W.codeIn K cdv "connected" = true)
    (kp : PySem.W.keepIn K (.ref f) = true) (hns : PySem.W.nsIn K D "without" = some (some (.ref T))) (g : mg "connected" = some (.ref f)) (G : FnOk P w K mg base CX0 3 f fd ["world", "one", "other", "without"] (spConn K)) :
    DkO P w K mg base "connected" 3 f fd ["world", "one", "other", "without"] 3 "without" (.ref T) (spConn K) where
  g := g
  kp := kp
  G := G
  kb := fun s1 us ws X l1 l2 => by
    subst hfd
    match us, ws, l1, l2 with
    | [_, _, _], [_], _, _ => exact .of_eq rfl
  bd := by
    have F : FunD K "connected" "connected" (defArgs st_connected) (defBody st_connected) (defScope st_connected) [] [("without", .ref T)] f fd :=
      ⟨⟨oc, od, .none, .ref D, doc, pm, an, cdv, ct, osl, hfd, lk, hcd, .inl ⟨rfl, rfl⟩, .inr ⟨D, rfl, fun q hq => by
        rw [List.mem_singleton.mp hq]
        exact ⟨.ref T, hns, rfl⟩⟩⟩, kp⟩
    refine F.binds0 (ps := ["world", "one", "other", "without"]) 3 (by simp) rfl fun D doc pm an cdv ct us ks l1 l2 => ?_
    match us, ks, l1, l2 with
    | [_, _, _], [_], _, _ => exact ⟨_, _, _, _, _, _, rfl, rfl, rfl⟩
end
end K14

set_option Elab.async false
set_option linter.all false
set_option maxRecDepth 100000
set_option maxHeartbeats 4000000
/-! texts that ascend; gateways sorted as data. -/
namespace WT
open PySem PySem.Spec PyProof.Rows L2 PySem.W
/-- one text before another -/
def Bef (x y : Str) : Prop := x.cps.toList < y.cps.toList
theorem Bef.trans {x y z : Str} (h : Bef x y) (k : Bef y z) : Bef x z := List.lt_trans h k
theorem Bef.ne {x y : Str} (h : Bef x y) : x ≠ y := fun e => by
  subst e
  exact List.lt_irrefl _ h
theorem bef_of {x y : Str} (h : ¬ Bef y x) (ne : x ≠ y) : Bef x y := by
  rcases str_tri x y with h1 | h1 | h1
  · exact h1
  · exact absurd h1 ne
  · exact absurd h1 h
/-- ascending -/
def AscS (ys : List Str) : Prop := ys.Pairwise Bef
theorem AscS.nodup {ys : List Str} (h : AscS ys) : ys.Nodup := List.Pairwise.imp (fun {a b} k => k.ne) h
/-- each before the next -/
def AdjS (ys : List Str) : Prop := ∀ (i : Nat) (x y : Str), ys[i]? = some x → ys[i + 1]? = some y → Bef x y
theorem adj_asc : ∀ {ys : List Str}, AdjS ys ↔ AscS ys
  | [] => ⟨fun _ => List.Pairwise.nil, fun _ i x y h => by simp at h⟩
  | [a] => ⟨fun _ => by unfold AscS; simp, fun _ i x y _ h => by simp at h⟩
  | a :: b :: ys => by
    have ih := adj_asc (ys := b :: ys)
    constructor
    · intro h
      have t : AdjS (b :: ys) := fun i x y h1 h2 => h (i + 1) x y h1 h2
      have ab : Bef a b := h 0 a b rfl rfl
      have k := ih.mp t
      refine List.pairwise_cons.mpr ⟨fun y hy => ?_, k⟩
      rcases List.mem_cons.mp hy with rfl | hy
      · exact ab
      · exact ab.trans ((List.pairwise_cons.mp k).1 y hy)
    · intro h i x y h1 h2
      obtain ⟨k1, k2⟩ := List.pairwise_cons.mp h
      cases i with
      | zero =>
        cases h1
        exact k1 y (List.mem_of_getElem? h2)
      | succ i => exact ih.mpr k2 i x y h1 h2
theorem rise_adj : ∀ {ys : List Str} {p : Str}, risingS p ys = true → (p :: ys).Nodup → AscS (p :: ys)
  | [], p, _, _ => by
    unfold AscS
    simp
  | y :: ys, p, h, nd => by
    unfold risingS at h
    rw [Bool.and_eq_true] at h
    obtain ⟨n1, n2⟩ := List.nodup_cons.mp nd
    have k := rise_adj h.2 n2
    have pb : Bef p y := bef_of (fun z => by
      have := h.1
      rw [ltCps_eq, decide_eq_true (show y.cps.toList < p.cps.toList from z)] at this
      cases this) fun e => n1 (by rw [e]; exact List.mem_cons_self)
    refine List.pairwise_cons.mpr ⟨fun z hz => ?_, k⟩
    rcases List.mem_cons.mp hz with rfl | hz
    · exact pb
    · exact pb.trans ((List.pairwise_cons.mp k).1 z hz)
theorem asc_of {ys : List Str} (h : sortedS ys = true) (nd : ys.Nodup) : AscS ys := by
  cases ys with
  | nil => exact List.Pairwise.nil
  | cons y ys => exact rise_adj h nd
theorem AscS.at {ys : List Str} (h : AscS ys) {i j : Nat} {x y : Str} (hi : ys[i]? = some x) (hj : ys[j]? = some y) (lt : i < j) : Bef x y := by
  obtain ⟨h1, e1⟩ := List.getElem?_eq_some_iff.mp hi
  obtain ⟨h2, e2⟩ := List.getElem?_eq_some_iff.mp hj
  rw [← e1, ← e2]
  exact List.pairwise_iff_getElem.mp h i j h1 h2 lt
/-- the order of gateways whose names differ -/
theorem gate_lt {g g' : Gt} (ne : g.1 ≠ g'.1) (h : dataLe false (fun b : PyData => b) (gateD g) (gateD g') = true) : Bef g.1 g'.1 := by
  have h : (!dataLt (gateD g') (gateD g)) = true := h
  rw [Bool.not_eq_true'] at h
  have e : dataLt (gateD g') (gateD g) = decide (g'.1.cps.toList < g.1.cps.toList) := by
    show dataLt (.tuple [.str g'.1, .tuple (g'.2.1.map PyData.str), .str g'.2.2]) (.tuple [.str g.1, .tuple (g.2.1.map PyData.str), .str g.2.2]) = _
    rw [dataLt_tuple, dataLt_cons (by simp [alike])]
    have ee : PyData.eqv (.str g'.1) (.str g.1) = false := by
      rw [PyData.eqv]
      exact beq_eq_false_iff_ne.mpr fun z => ne z.symm
    rw [ee, if_neg Bool.false_ne_true, dataLt_str]
  rw [e] at h
  exact bef_of (fun z => absurd (show g'.1.cps.toList < g.1.cps.toList from z) (of_decide_eq_false h)) ne
theorem gates_asc {ks : List (Addr × Gt)} {l : List (V × PyData)} (e : l.mergeSort (dataLe false fun b : V × PyData => b.2) = ks.map fun p : Addr × Gt => (V.ref p.1, gateD p.2)) (nd : (ks.map fun p => p.2.1).Nodup) : AscS (ks.map fun p => p.2.1) := by
  have T := sortLe_total (listOrd itemOrd) false fun b : V × PyData => keyToks b.2
  have pw : (l.mergeSort (dataLe false fun b : V × PyData => b.2)).Pairwise fun a b => dataLe false (fun b : V × PyData => b.2) a b = true := List.pairwise_mergeSort (fun a b c => T.trans a b c) (fun a b => by
    have := T.total a b
    rcases this with h | h
    · show (dataLe false (fun b : V × PyData => b.2) a b || _) = true
      rw [show dataLe false (fun b : V × PyData => b.2) a b = true from h]
      rfl
    · show (_ || dataLe false (fun b : V × PyData => b.2) b a) = true
      rw [show dataLe false (fun b : V × PyData => b.2) b a = true from h, Bool.or_true]) l
  rw [e, List.pairwise_map] at pw
  unfold AscS
  rw [List.pairwise_map]
  have nd := List.pairwise_map.mp nd
  exact (pw.and nd).imp fun {a b} ⟨h1, h2⟩ => gate_lt h2 h1
end WT

set_option Elab.async false
set_option linter.all false
set_option maxRecDepth 100000
set_option maxHeartbeats 4000000
/-! len(set(xs)), xs a list of different texts. -/
namespace WT
open PySem PySem.Spec PyProof.Rows L2
/-- an empty set -/
abbrev set0 (led : Bool) : Obj := { cls := .type "set", dict := none, data := .set #[] 0 (.fresh 0 0 led) }
abbrev hasIn (ys : List Str) (i : Nat) : Str → Bool := fun y => (ys.take i).any (· == y)
section
variable {P : Program} {w : World} {A : Around} {E : Value → Shared → Prop} {s : Shared}
theorem setOf_kept {h h2 : Heap} {a : Addr} {T : Str → Bool} {n : Nat} (hS : h.SetOf (PySem.strKind P w) a T n) (k : ∀ o, h.get? a = some o → h2.get? a = some o) : h2.SetOf (PySem.strKind P w) a T n := by
  obtain ⟨o, es, ep, tb, ho, r⟩ := hS
  exact ⟨o, es, ep, tb, k o ho, r⟩
theorem fill_texts {I : Addr} {fp wr : List Addr} {G : Array GenState → Array GenState → Prop} {n : Nat} {Pv : Nat → Value → Prop} {St : Nat → Shared → Prop} {R : Result → Shared → Prop} (W : WalksS P w A.in1 I fp wr G n Pv St) (a : Addr) (na : a ∉ fp) (ys : List Str) (nd : ys.Nodup) (en : n = ys.length) (room : ys.length + 1 < scanBound)
    (hv : ∀ i v, Pv i v → ∃ y t, ys[i]? = some y ∧ v = .str y t) : ∀ (k i : Nat) (s : Shared), n - i = k → i ≤ n → St i s → s.heap.SetOf (PySem.strKind P w) a (hasIn ys i) i →
      (∀ s2, Moved (a :: wr) G s s2 → s2.heap.SetOf (PySem.strKind P w) a (hasIn ys n) n → R (.ok (.ret .none)) s2) → codeAny (model P w) A (.builtin "set.update.loop" ⟨[.ref a, .ref I], []⟩) R s := by
  have nw : a ∉ wr := fun z => na (W.sub _ z)
  have more : ∀ b ∈ wr, b ∈ a :: wr := fun b z => List.mem_cons_of_mem _ z
  intro k
  induction k with
  | zero =>
    intro i s e1 e2 st hS q
    obtain rfl : i = n := by omega
    refine codeAny_builtin PyProof.Rows.F.entry_set_update_loop ?_
    rw [Around.under_plainId PyProof.Rows.F.plain_set_update_loop _]
    show wpAny (model P w) A.in1 (pyNext (.ref I) >>= _) _ _ s
    refine wpAny_bind (W.done s _ _ st fun s2 mv => ?_)
    show wpAny (model P w) A.in1 (ret Value.none) _ _ s2
    exact wpAny_pure (q s2 (mv.mono more) (setOf_kept hS fun o z => mv.heap a o nw z))
  | succ k ih =>
    intro i s e1 e2 st hS q
    have lt : i < n := by omega
    refine codeAny_builtin PyProof.Rows.F.entry_set_update_loop ?_
    rw [Around.under_plainId PyProof.Rows.F.plain_set_update_loop _]
    show wpAny (model P w) A.in1 (pyNext (.ref I) >>= _) _ _ s
    refine wpAny_bind (W.item i s _ _ lt st fun v s2 pv st2 mv => ?_)
    obtain ⟨y, t, hy, rfl⟩ := hv i v pv
    have hS2 := setOf_kept hS fun o z => mv.heap a o nw z
    show wpAny (model P w) A.in1 (holding [Value.str y t] (setAdd a (.str y t)) >>= _) _ _ s2
    refine wpAny_bind (wpAny_holding ?_)
    unfold setAdd
    refine wpAny_holding (wpAny_bind ((PySem.strKind P w).pyHash (k := y) (strKind_is _ _ _ _) ?_))
    refine wpAny_setAddHashed_of (knd := PySem.strKind P w) (s := { s2 with toks := s2.toks + 1 }) (strKind_is _ _ _ _) rfl hS2 (by omega) fun h3 sb hS3 => ?_
    have newY : hasIn ys i y = false := by
      refine Bool.eq_false_iff.mpr fun z => ?_
      obtain ⟨x, hx, ex⟩ := List.any_eq_true.mp z
      have ex : x = y := beq_iff_eq.mp ex
      obtain ⟨j, hj, e3⟩ := List.getElem_of_mem hx
      rw [List.length_take] at hj
      have hi := (List.getElem?_eq_some_iff.mp hy).1
      have e4 : ys[j]'(by omega) = ys[i] := by
        rw [(List.getElem?_eq_some_iff.mp hy).2, ← ex, ← e3, List.getElem_take]
      exact (List.pairwise_iff_getElem.mp nd j i (by omega) hi (by omega)) e4
    rw [newY, if_neg Bool.false_ne_true] at hS3
    have hS4 : h3.SetOf (PySem.strKind P w) a (hasIn ys (i + 1)) (i + 1) := by
      refine SetOf_congr hS3 (fun z => ?_) rfl
      show ((ys.take i).any (· == z) || decide (z = y)) = (ys.take (i + 1)).any (· == z)
      rw [List.take_add_one, hy, List.any_append]
      congr 1
      show decide (z = y) = ((y == z) || false)
      rw [Bool.or_false]
      by_cases c : z = y
      · subst c
        simp
      · have c2 : ¬ y = z := fun q => c q.symm
        rw [decide_eq_false c, beq_eq_false_iff_ne.mpr c2]
    refine wpAny_pure ⟨plainId_quiet PyProof.Rows.F.plain_set_update_loop _, ih (i + 1) _ (by omega) lt (W.frame _ s2 _ _ st2 (Nat.le_succ _) fun b hb o z => ?_) hS4 fun s4 mv4 hS5 => ?_⟩
    · rw [sb.2 b (fun z2 : b = a => na (by rw [← z2]; exact hb))]
      exact z
    · refine q s4 (Moved.trans W.gtrans ((mv.mono more).then_heap (Nat.le_succ _) fun b o hb z => ?_) mv4) hS5
      rw [sb.2 b (fun z2 : b = a => hb (by rw [z2]; exact List.mem_cons_self))]
      exact z
theorem set_of_texts {l : Addr} {its : Array Value} {ys : List Str} {Q : Value → Shared → Prop} (calm : A.handled = none) (hl : s.heap.IsList l its) (hi : StrsAre its.toList ys) (nd : ys.Nodup) (room : ys.length + 1 < scanBound)
    (q : ∀ (h2 : Heap) (tk : Nat), h2.SetOf (PySem.strKind P w) s.heap.objs.size (hasIn ys ys.length) ys.length → (∀ b o, b < s.heap.objs.size → s.heap.get? b = some o → h2.get? b = some o) → Q (.ref s.heap.objs.size) { s with heap := h2, toks := tk }) :
    wpAny (model P w) A (call (.type "set") [.ref l]) Q E s := by
  have esz : ys.length = its.size := by rw [← PyProof.Rows.StrsAre.len_eq hi, Array.length_toList]
  have ⟨c1, c2, hmr⟩ := PySem.F.called_set.mro
  have hm1 := PySem.F.called_set.made; have hm2 := PySem.F.called_set.sub
  refine wpAny_call (codeAny_of_tree ?_); show wpAny _ _ (callAny (.type "set") _) _ _ _
  refine wpAny_pure ⟨Code.quiet_builtin _ (by decide +kernel), codeAny_builtin PySem.F.entry_type_call ?_⟩
  rw [Around.under_plain (weight_type_call_type "set" [.ref l] []) (by rfl)]
  have hm3 := PySem.F.called_set.notType; have hm4 := PySem.F.called_set.canCreate
  have hm5 := PySem.F.typeCall_set_1 (.ref l)
  repeat (any_goals (first | assumption | wp_step))
  refine codeAny_mono (PySem.code_set_new_1 (.ref l) (E := E) (Q₁ := fun ob s1 => ∃ led : Bool, ob = .ref s.heap.objs.size ∧ s1 = { s with heap := s.heap.push (set0 led) }) fun led => ⟨led, rfl, rfl⟩) fun r s1 hr => ?_
  cases r with
  | error e => exact hr
  | ok fl =>
    cases fl with
    | ret ob =>
      obtain ⟨led, rfl, rfl⟩ := hr
      have hS : (s.heap.push (set0 led)).get? s.heap.objs.size = some (set0 led) := Heap.get?_push_size _ rfl
      have hT : Shared.TypeIs { s with heap := s.heap.push (set0 led) } (.ref s.heap.objs.size) "set" := ⟨_, hS, rfl⟩
      have hm6 := PySem.F.called_set.init.lookup; have hm7 := PySem.F.called_set.init.bind (.ref s.heap.objs.size)
      repeat (any_goals (first | assumption | wp_step))
      refine codeAny_mono (codeAny_call_builtin (R := wants (fun r s2 => r = .none ∧ ∃ h2 tk, s2 = { s with heap := h2, toks := tk } ∧ h2.SetOf (PySem.strKind P w) s.heap.objs.size (hasIn ys ys.length) ys.length ∧
          (∀ b o, b < s.heap.objs.size → s.heap.get? b = some o → h2.get? b = some o)) E) PySem.F.called_set.init.plain PySem.F.entry_set_init (PySem.check_set_init_1 hT ?_)) fun r2 s2 hr2 => ?_
      · have ⟨⟨ocl, odi, oda, osl⟩, hol, hcl, nl, hdl⟩ := hl
        simp only at hcl hdl
        subst hcl hdl
        have hol2 : (s.heap.push (set0 led)).get? l = some { cls := .type "list", dict := odi, data := .seq its nl, slots := osl } := Heap.get?_push_of_some _ hol
        have hm8 := PySem.F.sub_list_set; have hm9 := PySem.F.sub_list_frozenset
        have hm10 : (Value.type "list" == Value.type "dict") = false := by decide
        have hl2 : (s.heap.push (set0 led)).IsList l its := ⟨_, hol2, rfl, nl, rfl⟩
        unfold Builtin.«set.__init__» noKeywords Builtin.Frozenset.updateFrom
        generalize hIt : pyIter = It
        wp_walk
        subst hIt
        refine wpAny_pyIter_list hl2 (wpAny_bind (wpAny_runValue ?_))
        have lo : l < s.heap.objs.size := Heap.lt_size hol
        have calm3 : A.in1.in1.in1.handled = none := by simp [calm]
        have nl2 : l ≠ (s.heap.push (set0 led)).objs.size := by
          rw [Heap.size_push]
          exact Nat.ne_of_lt (Nat.lt_succ_of_lt lo)
        have nf : s.heap.objs.size ∉ [(s.heap.push (set0 led)).objs.size, l] := by
          rw [Heap.size_push]
          simp only [List.mem_cons, List.not_mem_nil, or_false, not_or]
          exact ⟨Nat.ne_of_lt (Nat.lt_succ_self _), Nat.ne_of_gt lo⟩
        have vals : ∀ (i : Nat) (v : Value), its[i]? = some v → ∃ y t, ys[i]? = some y ∧ v = .str y t := fun i v z => by
          have hlt : i < ys.length := by
            have := (Array.getElem?_eq_some_iff.mp z).1
            omega
          obtain ⟨t, e⟩ := SS.strs_at hi i v (by rw [Array.getElem?_toList]; exact z)
          rw [List.getD_eq_getElem?_getD, List.getElem?_eq_getElem hlt] at e
          exact ⟨ys[i], t, List.getElem?_eq_getElem hlt, e⟩
        refine fill_texts ((Walks.list calm3 _ l nl2 its).toS) s.heap.objs.size nf ys nd esz.symm room vals (its.size - 0) 0 _ (by omega) (Nat.zero_le _) ⟨⟨_, Heap.get?_push_size _ rfl, rfl, rfl⟩, (hl2.push _)⟩ ?hA ?hB
        case hA =>
          have hg : ((s.heap.push (set0 led)).push { cls := .type "list_iterator", data := .fields #[.ref l, .int 0 0] }).get? s.heap.objs.size = some (set0 led) := Heap.get?_push_of_some _ hS
          exact SetOf_congr ((setObjOf_fresh (knd := PySem.strKind P w) led).setOf hg (by unfold scanBound; omega)) (fun _ => rfl) rfl
        case hB =>
          intro s3 mv hS3
          obtain ⟨h3, g3, d3, tk3, os3⟩ := s3
          obtain rfl : g3 = s.gens := mv.gens
          obtain rfl : d3 = s.drawn := mv.drawn
          obtain rfl : os3 = s.os := mv.os
          show wpAny (model P w) _ _ _ _ _
          refine wpAny_pure ?_
          show wpAny (model P w) _ (ret Value.none) _ _ _
          refine wpAny_pure ⟨rfl, h3, tk3, rfl, by rw [← esz] at hS3; exact hS3, fun b o lt z => ?_⟩
          refine mv.heap b o ?_ (Heap.get?_push_of_some _ (Heap.get?_push_of_some _ z))
          rw [Heap.size_push]
          simp only [List.mem_cons, List.not_mem_nil, or_false, not_or]
          exact ⟨Nat.ne_of_lt lt, Nat.ne_of_lt (Nat.lt_succ_of_lt lt)⟩
      · cases r2 with
        | error e => exact hr2
        | ok fl2 =>
          cases fl2 with
          | ret r =>
            obtain ⟨rfl, h2, tk, rfl, hS2, k2⟩ := hr2
            repeat (any_goals (first | assumption | wp_step))
            exact q _ _ hS2 k2
          | _ => exact hr2.elim
    | _ => exact hr.elim
end
section
variable {X : Cx} {K : PySem.W.Frag}
/-- len(set(xs)) -/
def tLenSetS (K : PySem.W.Frag) (ta : TE) : TE := fun σ H Q => ta σ H fun x H1 => ∃ (l : Addr) (ys : List Str), x = .ref l ∧ SqL K H1 l (ys.map V.str) ∧ ys.Nodup ∧ ys.length < 64 ∧ Q (.int ys.length) H1
theorem pe_lenSetS {a : Expr} {ta : TE} {p p2 q pos : Pos} (calm : X.calm = true) (hg : Gl X "len") (hm : X.mg "len" = none) (hg2 : Gl X "set") (hm2 : X.mg "set" = none) (ha : PE X a ta) (hK : X.K = K := by rfl)
    (na : starEach [a] X.env = (false, eval a X.env) :: starEach [] X.env := by rfl) : PE X (.Call (.Name "len" p) [.Call (.Name "set" p2) [a] [] q] [] pos) (tLenSetS K ta) := by
  subst hK
  refine ⟨fun pins s σ H Q I h => Call_ (ld_blt I hg hm PySem.boot_len ?_)⟩
  refine PyProof.Rows.callWith_builtin1 (PyProof.Rows.args_cons (Call_ (ld_blt I hg2 hm2 PyProof.Rows.boot_set ?_)) rfl) rfl rfl
  refine PyProof.Rows.callWith_type1 (PyProof.Rows.args_cons (thn (ha.run pins s σ H _ I h) fun v s1 ⟨x, H1, I1, r1, z⟩ => PyProof.Rows.args_nil ?_) na) na rfl
  obtain ⟨l, ys, rfl, hq, nd, few, z⟩ := z
  cases r1
  obtain ⟨its, rv, pl, _⟩ := I1.list hq
  refine set_of_texts (I1.ok.hd calm) pl.isList (by simpa using strsAre_of rv) nd (by unfold scanBound; omega) fun h2 tk hS k2 => PyProof.Rows.args_nil ?_
  obtain ⟨o, es, ep, t, ho, hex, hd, _, _, _, hf, hn⟩ := hS
  have I2 : Inv X pins σ H1 { s1 with heap := h2, toks := tk } := I1.kept fun b o e => k2 b o (Heap.lt_size e) e
  exact call_len_set ho hex hd hf (by rw [hn]; omega) ⟨.int ys.length, H1, I2.tok _, ⟨_, by rw [hn]⟩, z⟩
end
end WT

set_option Elab.async false
set_option linter.all false
set_option maxRecDepth 100000
set_option maxHeartbeats 4000000
/-! len(set(xs)), xs a list or a tuple of texts: how many different ones. -/
namespace WT
open PySem PySem.Spec PyProof.Rows L2
/-- an empty set -/
abbrev setE (led : Bool) : Obj := { cls := .type "set", dict := none, data := .set #[] 0 (.fresh 0 0 led) }
abbrev hasY (ys : List Str) (i : Nat) : Str → Bool := fun y => (ys.take i).any (· == y)
/-- how many different ones among the first i -/
def disN (ys : List Str) : Nat → Nat
  | 0 => 0
  | i + 1 => disN ys i + (match ys[i]? with | some y => if hasY ys i y = true then 0 else 1 | none => 0)
theorem disN_le (ys : List Str) : ∀ i, disN ys i ≤ i
  | 0 => Nat.le_refl _
  | i + 1 => by
    have := disN_le ys i
    unfold disN
    split
    · split <;> omega
    · omega
theorem hasY_iff {ys : List Str} {i : Nat} {y : Str} : hasY ys i y = true ↔ y ∈ ys.take i := by
  constructor
  · intro z
    obtain ⟨x, hx, ex⟩ := List.any_eq_true.mp z
    rw [← beq_iff_eq.mp ex]
    exact hx
  · intro z
    exact List.any_eq_true.mpr ⟨y, z, by simp⟩
/-- all are different exactly if none is left out -/
theorem disN_all (ys : List Str) : ∀ i, i ≤ ys.length → (disN ys i = i ↔ (ys.take i).Nodup)
  | 0, _ => by simp [disN]
  | i + 1, h => by
    have ih := disN_all ys i (by omega)
    have le := disN_le ys i
    have e : ys[i]? = some ys[i] := List.getElem?_eq_getElem (by omega)
    unfold disN
    rw [e, List.take_add_one, e]
    show disN ys i + (if hasY ys i ys[i] = true then 0 else 1) = i + 1 ↔ (ys.take i ++ [ys[i]]).Nodup
    rw [List.nodup_append]
    by_cases c : hasY ys i ys[i] = true
    · rw [if_pos c]
      constructor
      · intro z
        omega
      · rintro ⟨_, _, z⟩
        exact absurd rfl (z _ (hasY_iff.mp c) _ (by simp))
    · rw [if_neg c]
      constructor
      · intro z
        refine ⟨ih.mp (by omega), by simp, fun a ha b hb q => c (hasY_iff.mpr ?_)⟩
        have hb : b = ys[i] := by simpa using hb
        rw [← hb, ← q]
        exact ha
      · rintro ⟨z, _⟩
        have := ih.mpr z
        omega
section
variable {P : Program} {w : World} {A : Around} {E : Value → Shared → Prop} {s : Shared}
theorem setOf_keeps {h h2 : Heap} {a : Addr} {T : Str → Bool} {n : Nat} (hS : h.SetOf (PySem.strKind P w) a T n) (k : ∀ o, h.get? a = some o → h2.get? a = some o) : h2.SetOf (PySem.strKind P w) a T n := by
  obtain ⟨o, es, ep, tb, ho, r⟩ := hS
  exact ⟨o, es, ep, tb, k o ho, r⟩
theorem fill_all {I : Addr} {fp wr : List Addr} {G : Array GenState → Array GenState → Prop} {n : Nat} {Pv : Nat → Value → Prop} {St : Nat → Shared → Prop} {R : Result → Shared → Prop} (W : WalksS P w A.in1 I fp wr G n Pv St) (a : Addr) (na : a ∉ fp) (ys : List Str) (en : n = ys.length) (room : ys.length + 1 < scanBound)
    (hv : ∀ i v, Pv i v → ∃ y t, ys[i]? = some y ∧ v = .str y t) : ∀ (k i : Nat) (s : Shared), n - i = k → i ≤ n → St i s → s.heap.SetOf (PySem.strKind P w) a (hasY ys i) (disN ys i) →
      (∀ s2, Moved (a :: wr) G s s2 → s2.heap.SetOf (PySem.strKind P w) a (hasY ys n) (disN ys n) → R (.ok (.ret .none)) s2) → codeAny (model P w) A (.builtin "set.update.loop" ⟨[.ref a, .ref I], []⟩) R s := by
  have nw : a ∉ wr := fun z => na (W.sub _ z)
  have more : ∀ b ∈ wr, b ∈ a :: wr := fun b z => List.mem_cons_of_mem _ z
  intro k
  induction k with
  | zero =>
    intro i s e1 e2 st hS q
    obtain rfl : i = n := by omega
    refine codeAny_builtin PyProof.Rows.F.entry_set_update_loop ?_
    rw [Around.under_plainId PyProof.Rows.F.plain_set_update_loop _]
    show wpAny (model P w) A.in1 (pyNext (.ref I) >>= _) _ _ s
    refine wpAny_bind (W.done s _ _ st fun s2 mv => ?_)
    show wpAny (model P w) A.in1 (ret Value.none) _ _ s2
    exact wpAny_pure (q s2 (mv.mono more) (setOf_keeps hS fun o z => mv.heap a o nw z))
  | succ k ih =>
    intro i s e1 e2 st hS q
    have lt : i < n := by omega
    refine codeAny_builtin PyProof.Rows.F.entry_set_update_loop ?_
    rw [Around.under_plainId PyProof.Rows.F.plain_set_update_loop _]
    show wpAny (model P w) A.in1 (pyNext (.ref I) >>= _) _ _ s
    refine wpAny_bind (W.item i s _ _ lt st fun v s2 pv st2 mv => ?_)
    obtain ⟨y, t, hy, rfl⟩ := hv i v pv
    have hS2 := setOf_keeps hS fun o z => mv.heap a o nw z
    show wpAny (model P w) A.in1 (holding [Value.str y t] (setAdd a (.str y t)) >>= _) _ _ s2
    refine wpAny_bind (wpAny_holding ?_)
    unfold setAdd
    refine wpAny_holding (wpAny_bind ((PySem.strKind P w).pyHash (k := y) (strKind_is _ _ _ _) ?_))
    refine wpAny_setAddHashed_of (knd := PySem.strKind P w) (s := { s2 with toks := s2.toks + 1 }) (strKind_is _ _ _ _) rfl hS2 (by have := disN_le ys i; omega) fun h3 sb hS3 => ?_
    have hS4 : h3.SetOf (PySem.strKind P w) a (hasY ys (i + 1)) (disN ys (i + 1)) := by
      refine SetOf_congr hS3 (fun z => ?_) ?_
      · show ((ys.take i).any (· == z) || decide (z = y)) = (ys.take (i + 1)).any (· == z)
        rw [List.take_add_one, hy, List.any_append]
        congr 1
        show decide (z = y) = ((y == z) || false)
        rw [Bool.or_false]
        by_cases c : z = y
        · subst c
          simp
        · have c2 : ¬ y = z := fun q => c q.symm
          rw [decide_eq_false c, beq_eq_false_iff_ne.mpr c2]
      · conv => rhs; unfold disN
        rw [hy]
        show _ = disN ys i + (if hasY ys i y = true then 0 else 1)
        by_cases c : hasY ys i y = true
        · rw [if_pos c, if_pos c]
          rfl
        · rw [if_neg c, if_neg c]
    refine wpAny_pure ⟨plainId_quiet PyProof.Rows.F.plain_set_update_loop _, ih (i + 1) _ (by omega) lt (W.frame _ s2 _ _ st2 (Nat.le_succ _) fun b hb o z => ?_) hS4 fun s4 mv4 hS5 => ?_⟩
    · rw [sb.2 b (fun z2 : b = a => na (by rw [← z2]; exact hb))]
      exact z
    · refine q s4 (Moved.trans W.gtrans ((mv.mono more).then_heap (Nat.le_succ _) fun b o hb z => ?_) mv4) hS5
      rw [sb.2 b (fun z2 : b = a => hb (by rw [z2]; exact List.mem_cons_self))]
      exact z
theorem set_of_any {l : Addr} {its : Array Value} {ys : List Str} {Q : Value → Shared → Prop} (calm : A.handled = none) (hl : s.heap.IsList l its ∨ s.heap.IsTuple l its) (hi : StrsAre its.toList ys) (room : ys.length + 1 < scanBound)
    (q : ∀ (h2 : Heap) (tk : Nat), h2.SetOf (PySem.strKind P w) s.heap.objs.size (hasY ys ys.length) (disN ys ys.length) → (∀ b o, b < s.heap.objs.size → s.heap.get? b = some o → h2.get? b = some o) → Q (.ref s.heap.objs.size) { s with heap := h2, toks := tk }) :
    wpAny (model P w) A (call (.type "set") [.ref l]) Q E s := by
  have esz : ys.length = its.size := by rw [← PyProof.Rows.StrsAre.len_eq hi, Array.length_toList]
  have ⟨c1, c2, hmr⟩ := PySem.F.called_set.mro
  have hm1 := PySem.F.called_set.made; have hm2 := PySem.F.called_set.sub
  refine wpAny_call (codeAny_of_tree ?_); show wpAny _ _ (callAny (.type "set") _) _ _ _
  refine wpAny_pure ⟨Code.quiet_builtin _ (by decide +kernel), codeAny_builtin PySem.F.entry_type_call ?_⟩
  rw [Around.under_plain (weight_type_call_type "set" [.ref l] []) (by rfl)]
  have hm3 := PySem.F.called_set.notType; have hm4 := PySem.F.called_set.canCreate
  have hm5 := PySem.F.typeCall_set_1 (.ref l)
  repeat (any_goals (first | assumption | wp_step))
  refine codeAny_mono (PySem.code_set_new_1 (.ref l) (E := E) (Q₁ := fun ob s1 => ∃ led : Bool, ob = .ref s.heap.objs.size ∧ s1 = { s with heap := s.heap.push (setE led) }) fun led => ⟨led, rfl, rfl⟩) fun r s1 hr => ?_
  cases r with
  | error e => exact hr
  | ok fl =>
    cases fl with
    | ret ob =>
      obtain ⟨led, rfl, rfl⟩ := hr
      have hS : (s.heap.push (setE led)).get? s.heap.objs.size = some (setE led) := Heap.get?_push_size _ rfl
      have hT : Shared.TypeIs { s with heap := s.heap.push (setE led) } (.ref s.heap.objs.size) "set" := ⟨_, hS, rfl⟩
      have hm6 := PySem.F.called_set.init.lookup; have hm7 := PySem.F.called_set.init.bind (.ref s.heap.objs.size)
      repeat (any_goals (first | assumption | wp_step))
      refine codeAny_mono (codeAny_call_builtin (R := wants (fun r s2 => r = .none ∧ ∃ h2 tk, s2 = { s with heap := h2, toks := tk } ∧ h2.SetOf (PySem.strKind P w) s.heap.objs.size (hasY ys ys.length) (disN ys ys.length) ∧
          (∀ b o, b < s.heap.objs.size → s.heap.get? b = some o → h2.get? b = some o)) E) PySem.F.called_set.init.plain PySem.F.entry_set_init (PySem.check_set_init_1 hT ?_)) fun r2 s2 hr2 => ?_
      · rcases hl with hl | hl
        · have ⟨⟨ocl, odi, oda, osl⟩, hol, hcl, nl, hdl⟩ := hl
          simp only at hcl hdl
          subst hcl hdl
          have hol2 : (s.heap.push (setE led)).get? l = some { cls := .type "list", dict := odi, data := .seq its nl, slots := osl } := Heap.get?_push_of_some _ hol
          have hm8 := PySem.F.sub_list_set; have hm9 := PySem.F.sub_list_frozenset
          have hm10 : (Value.type "list" == Value.type "dict") = false := by decide
          have hl2 : (s.heap.push (setE led)).IsList l its := ⟨_, hol2, rfl, nl, rfl⟩
          unfold Builtin.«set.__init__» noKeywords Builtin.Frozenset.updateFrom
          generalize hIt : pyIter = It
          wp_walk
          subst hIt
          refine wpAny_pyIter_list hl2 (wpAny_bind (wpAny_runValue ?_))
          have lo : l < s.heap.objs.size := Heap.lt_size hol
          have calm3 : A.in1.in1.in1.handled = none := by simp [calm]
          have nl2 : l ≠ (s.heap.push (setE led)).objs.size := by
            rw [Heap.size_push]
            exact Nat.ne_of_lt (Nat.lt_succ_of_lt lo)
          have nf : s.heap.objs.size ∉ [(s.heap.push (setE led)).objs.size, l] := by
            rw [Heap.size_push]
            simp only [List.mem_cons, List.not_mem_nil, or_false, not_or]
            exact ⟨Nat.ne_of_lt (Nat.lt_succ_self _), Nat.ne_of_gt lo⟩
          have vals : ∀ (i : Nat) (v : Value), its[i]? = some v → ∃ y t, ys[i]? = some y ∧ v = .str y t := fun i v z => by
            have hlt : i < ys.length := by
              have := (Array.getElem?_eq_some_iff.mp z).1
              omega
            obtain ⟨t, e⟩ := SS.strs_at hi i v (by rw [Array.getElem?_toList]; exact z)
            rw [List.getD_eq_getElem?_getD, List.getElem?_eq_getElem hlt] at e
            exact ⟨ys[i], t, List.getElem?_eq_getElem hlt, e⟩
          refine fill_all ((Walks.list calm3 _ l nl2 its).toS) s.heap.objs.size nf ys esz.symm room vals (its.size - 0) 0 _ (by omega) (Nat.zero_le _) ⟨⟨_, Heap.get?_push_size _ rfl, rfl, rfl⟩, (hl2.push _)⟩ ?hA ?hB
          case hA =>
            have hg : ((s.heap.push (setE led)).push { cls := .type "list_iterator", data := .fields #[.ref l, .int 0 0] }).get? s.heap.objs.size = some (setE led) := Heap.get?_push_of_some _ hS
            exact SetOf_congr ((setObjOf_fresh (knd := PySem.strKind P w) led).setOf hg (by unfold scanBound; omega)) (fun _ => rfl) rfl
          case hB =>
            intro s3 mv hS3
            obtain ⟨h3, g3, d3, tk3, os3⟩ := s3
            obtain rfl : g3 = s.gens := mv.gens
            obtain rfl : d3 = s.drawn := mv.drawn
            obtain rfl : os3 = s.os := mv.os
            show wpAny (model P w) _ _ _ _ _
            refine wpAny_pure ?_
            show wpAny (model P w) _ (ret Value.none) _ _ _
            refine wpAny_pure ⟨rfl, h3, tk3, rfl, by rw [← esz] at hS3; exact hS3, fun b o lt z => ?_⟩
            refine mv.heap b o ?_ (Heap.get?_push_of_some _ (Heap.get?_push_of_some _ z))
            rw [Heap.size_push]
            simp only [List.mem_cons, List.not_mem_nil, or_false, not_or]
            exact ⟨Nat.ne_of_lt lt, Nat.ne_of_lt (Nat.lt_succ_of_lt lt)⟩
        · have ⟨⟨ocl, odi, oda, osl⟩, hol, hcl, nl, hdl⟩ := hl
          simp only at hcl hdl
          subst hcl hdl
          have hol2 : (s.heap.push (setE led)).get? l = some { cls := .type "tuple", dict := odi, data := .seq its nl, slots := osl } := Heap.get?_push_of_some _ hol
          have hm8 := PySem.F.sub_tuple_set; have hm9 := PySem.F.sub_tuple_frozenset
          have hm10 : (Value.type "tuple" == Value.type "dict") = false := by decide
          have hl2 : (s.heap.push (setE led)).IsTuple l its := ⟨_, hol2, rfl, nl, rfl⟩
          unfold Builtin.«set.__init__» noKeywords Builtin.Frozenset.updateFrom
          generalize hIt : pyIter = It
          wp_walk
          subst hIt
          refine wpAny_pyIter_tuple hl2 (wpAny_bind (wpAny_runValue ?_))
          have lo : l < s.heap.objs.size := Heap.lt_size hol
          have calm3 : A.in1.in1.in1.handled = none := by simp [calm]
          have nl2 : l ≠ (s.heap.push (setE led)).objs.size := by
            rw [Heap.size_push]
            exact Nat.ne_of_lt (Nat.lt_succ_of_lt lo)
          have nf : s.heap.objs.size ∉ [(s.heap.push (setE led)).objs.size, l] := by
            rw [Heap.size_push]
            simp only [List.mem_cons, List.not_mem_nil, or_false, not_or]
            exact ⟨Nat.ne_of_lt (Nat.lt_succ_self _), Nat.ne_of_gt lo⟩
          have vals : ∀ (i : Nat) (v : Value), its[i]? = some v → ∃ y t, ys[i]? = some y ∧ v = .str y t := fun i v z => by
            have hlt : i < ys.length := by
              have := (Array.getElem?_eq_some_iff.mp z).1
              omega
            obtain ⟨t, e⟩ := SS.strs_at hi i v (by rw [Array.getElem?_toList]; exact z)
            rw [List.getD_eq_getElem?_getD, List.getElem?_eq_getElem hlt] at e
            exact ⟨ys[i], t, List.getElem?_eq_getElem hlt, e⟩
          refine fill_all ((Walks.tuple calm3 _ l nl2 its).toS) s.heap.objs.size nf ys esz.symm room vals (its.size - 0) 0 _ (by omega) (Nat.zero_le _) ⟨⟨_, Heap.get?_push_size _ rfl, rfl, rfl⟩, (hl2.push _)⟩ ?hA ?hB
          case hA =>
            have hg : ((s.heap.push (setE led)).push { cls := .type "tuple_iterator", data := .fields #[.ref l, .int 0 0] }).get? s.heap.objs.size = some (setE led) := Heap.get?_push_of_some _ hS
            exact SetOf_congr ((setObjOf_fresh (knd := PySem.strKind P w) led).setOf hg (by unfold scanBound; omega)) (fun _ => rfl) rfl
          case hB =>
            intro s3 mv hS3
            obtain ⟨h3, g3, d3, tk3, os3⟩ := s3
            obtain rfl : g3 = s.gens := mv.gens
            obtain rfl : d3 = s.drawn := mv.drawn
            obtain rfl : os3 = s.os := mv.os
            show wpAny (model P w) _ _ _ _ _
            refine wpAny_pure ?_
            show wpAny (model P w) _ (ret Value.none) _ _ _
            refine wpAny_pure ⟨rfl, h3, tk3, rfl, by rw [← esz] at hS3; exact hS3, fun b o lt z => ?_⟩
            refine mv.heap b o ?_ (Heap.get?_push_of_some _ (Heap.get?_push_of_some _ z))
            rw [Heap.size_push]
            simp only [List.mem_cons, List.not_mem_nil, or_false, not_or]
            exact ⟨Nat.ne_of_lt lt, Nat.ne_of_lt (Nat.lt_succ_of_lt lt)⟩
      · cases r2 with
        | error e => exact hr2
        | ok fl2 =>
          cases fl2 with
          | ret r =>
            obtain ⟨rfl, h2, tk, rfl, hS2, k2⟩ := hr2
            repeat (any_goals (first | assumption | wp_step))
            exact q _ _ hS2 k2
          | _ => exact hr2.elim
    | _ => exact hr.elim
end
section
variable {X : Cx} {K : PySem.W.Frag}
/-- len(set(xs)) -/
def tLenSetA (K : PySem.W.Frag) (ta : TE) : TE := fun σ H Q => ta σ H fun x H1 => ∃ (l : Addr) (ys : List Str), x = .ref l ∧ (SqL K H1 l (ys.map V.str) ∨ SqT K H1 l (ys.map V.str)) ∧ ys.length < 4000 ∧ Q (.int (disN ys ys.length)) H1
theorem pe_lenSetA {a : Expr} {ta : TE} {p p2 q pos : Pos} (calm : X.calm = true) (hg : Gl X "len") (hm : X.mg "len" = none) (hg2 : Gl X "set") (hm2 : X.mg "set" = none) (ha : PE X a ta) (hK : X.K = K := by rfl)
    (na : starEach [a] X.env = (false, eval a X.env) :: starEach [] X.env := by rfl) : PE X (.Call (.Name "len" p) [.Call (.Name "set" p2) [a] [] q] [] pos) (tLenSetA K ta) := by
  subst hK
  refine ⟨fun pins s σ H Q I h => Call_ (ld_blt I hg hm PySem.boot_len ?_)⟩
  refine PyProof.Rows.callWith_builtin1 (PyProof.Rows.args_cons (Call_ (ld_blt I hg2 hm2 PyProof.Rows.boot_set ?_)) rfl) rfl rfl
  refine PyProof.Rows.callWith_type1 (PyProof.Rows.args_cons (thn (ha.run pins s σ H _ I h) fun v s1 ⟨x, H1, I1, r1, z⟩ => PyProof.Rows.args_nil ?_) na) na rfl
  obtain ⟨l, ys, rfl, hq, few, z⟩ := z
  cases r1
  have dl := disN_le ys ys.length
  have fin : ∀ (its : List Value), Vals (ys.map V.str) its → (s1.heap.IsList l its.toArray ∨ s1.heap.IsTuple l its.toArray) → wpAny (model X.prog X.w) X.A (call (.type "set") [.ref l]) (fun v s₁ => wpAny (model X.prog X.w) X.A (spliced (backTo pos (starEach [] X.env))) (fun vs s₂ => wpAny (model X.prog X.w) X.A (call (.builtin "len") (v :: vs)) (EP X pins σ Q) X.xe s₂) X.xe s₁) X.xe s1 := fun its rv pl => by
    refine set_of_any (I1.ok.hd calm) pl (by simpa using strsAre_of rv) (by unfold scanBound; omega) fun h2 tk hS k2 => PyProof.Rows.args_nil ?_
    obtain ⟨o, es, ep, t, ho, hex, hd, _, _, _, hf, hn⟩ := hS
    have I2 : Inv X pins σ H1 { s1 with heap := h2, toks := tk } := I1.kept fun b o e => k2 b o (Heap.lt_size e) e
    exact call_len_set ho hex hd hf (by rw [hn]; omega) ⟨.int (disN ys ys.length), H1, I2.tok _, ⟨_, by rw [hn]⟩, z⟩
  rcases hq with hq | hq
  · obtain ⟨its, rv, pl, _⟩ := I1.list hq
    exact fin its rv (.inl pl.isList)
  · obtain ⟨its, rv, pl, _⟩ := I1.tuple hq
    exact fin its rv (.inr pl)
end
end WT

set_option Elab.async false
set_option linter.all false
set_option maxRecDepth 100000
set_option maxHeartbeats 4000000
/-! for x, y, z in zip(a, b, c), three lists. -/
namespace WT
open PySem PySem.Spec PyProof.Rows L2
/-- the three lists as they stand, the items in new triples -/
def It3 (K : PySem.W.Frag) (a b c : Addr) : It where
  go i H := ∃ (xs ys zs : List V) (x y z : V), (SqL K H a xs ∧ xs[i]? = some x) ∧ (SqL K H b ys ∧ ys[i]? = some y) ∧ SqL K H c zs ∧ zs[i]? = some z
  yld i H v H' := ∃ T x y z, v = .ref T ∧ H T = none ∧ H' = upd H T (.tup [x, y, z]) ∧ (∀ l, SqL K H a l → l[i]? = some x) ∧ (∀ l, SqL K H b l → l[i]? = some y) ∧ ∀ l, SqL K H c l → l[i]? = some z
  stop i H := ∃ xs ys zs : List V, (SqL K H a xs ∧ i ≤ xs.length) ∧ (SqL K H b ys ∧ i ≤ ys.length) ∧ (SqL K H c zs ∧ i ≤ zs.length) ∧ (i = xs.length ∨ i = ys.length ∨ i = zs.length)
/-- the cells of the zip -/
structure Sep3 (z TI TO i1 i2 i3 a b c : Addr) : Prop where
  sep : ZipSep3 z TI TO i1 i2 i3 [i1, a] [i2, b] [i3, c]
  n1 : a ≠ i1
  n2 : b ≠ i2
  n3 : c ≠ i3
def tn3 (z TI TO i1 i2 i3 a b c : Addr) (i : Nat) (h : Heap) : Prop := IsZip h z TI TO .none ∧ IsTupOf3 h TI (.ref i1) (.ref i2) (.ref i3) ∧ (∃ u1 u2 u3, IsTupOf3 h TO u1 u2 u3) ∧ h.IsListIter i1 a i ∧ h.IsListIter i2 b i ∧ h.IsListIter i3 c i
theorem turn3 {P : Program} {w : World} {K : PySem.W.Frag} {ets : List Expr} {q : Nat} {tp : Pos} {a b c z TI TO i1 i2 i3 : Addr} (D : Sep3 z TI TO i1 i2 i3 a b c) :
    Turn P w K (.Tuple ets q tp) (It3 K a b c) [z, TI, TO, i1, i2, i3] z (tn3 z TI TO i1 i2 i3 a b c) where
  mem := List.mem_cons_self
  obj := fun i h st d hd => by
    obtain ⟨hz, hTI, ⟨_, _, _, hTO⟩, ⟨o1, e1, _, d1⟩, ⟨o2, e2, _, d2⟩, ⟨o3, e3, _, d3⟩⟩ := st
    simp only [List.mem_cons, List.not_mem_nil, or_false] at hd
    rcases hd with rfl | rfl | rfl | rfl | rfl | rfl
    · exact ⟨_, hz, fun v z => nomatch z⟩
    · exact ⟨_, hTI, fun v z => nomatch z⟩
    · exact ⟨_, hTO, fun v z => nomatch z⟩
    · exact ⟨o1, e1, fun v z => by rw [d1] at z; cases z⟩
    · exact ⟨o2, e2, fun v z => by rw [d2] at z; cases z⟩
    · exact ⟨o3, e3, fun v z => by rw [d3] at z; cases z⟩
  keep := fun i h h' st k => by
    obtain ⟨hz, hTI, ⟨u1, u2, u3, hTO⟩, s1, s2, s3⟩ := st
    exact ⟨k z (by simp) _ hz, k TI (by simp) _ hTI, ⟨u1, u2, u3, k TO (by simp) _ hTO⟩, s1.at fun o z => k i1 (by simp) o z, s2.at fun o z => k i2 (by simp) o z, s3.at fun o z => k i3 (by simp) o z⟩
  item := by
    intro X hP hw hK calm i pins s σ H E I hf st hg
    subst hP hw hK
    obtain ⟨hz, hTI, ⟨w1, w2, w3, hTO⟩, s1, s2, s3⟩ := st
    obtain ⟨xs, ys, zs, x, y, z0, ⟨q1, e1⟩, ⟨q2, e2⟩, q3, e3⟩ := hg
    obtain ⟨t1, r1, l1, _⟩ := I.list q1
    obtain ⟨t2, r2, l2, _⟩ := I.list q2
    obtain ⟨t3, r3, l3, _⟩ := I.list q3
    obtain ⟨u1, a1, b1⟩ := r1.get e1
    obtain ⟨u2, a2, b2⟩ := r2.get e2
    obtain ⟨u3, a3, b3⟩ := r3.get e3
    have calm1 : X.A.in1.handled = none := by simp [I.ok.hd calm]
    have zl : z < s.heap.objs.size := Heap.lt_size hz
    have lt1 := (List.getElem?_eq_some_iff.mp a1).1
    have lt2 := (List.getElem?_eq_some_iff.mp a2).1
    have lt3 := (List.getElem?_eq_some_iff.mp a3).1
    refine wpAny_pyNext_zipD3_item D.sep (Draws.list calm1 i1 a D.n1 t1.toArray) (Draws.list calm1 i2 b D.n2 t2.toArray) (Draws.list calm1 i3 c D.n3 t3.toArray) hz hTI hTO ⟨s1, l1.isList⟩ ⟨s2, l2.isList⟩ ⟨s3, l3.isList⟩ (by simpa using lt1) (by simpa using lt2) (by simpa using lt3)
      fun v1 v2 v3 h2 tk p1 p2 p3 z2 TO2 k1 k2 k3 hT hsz keep => ?_
    have p1 : t1[i]? = some v1 := by simpa using p1
    have p2 : t2[i]? = some v2 := by simpa using p2
    have p3 : t3[i]? = some v3 := by simpa using p3
    obtain rfl : u1 = v1 := by rw [a1] at p1; exact Option.some.inj p1
    obtain rfl : u2 = v2 := by rw [a2] at p2; exact Option.some.inj p2
    obtain rfl : u3 = v3 := by rw [a3] at p3; exact Option.some.inj p3
    refine ⟨_, rfl, wpAny_letOwnedTupleGo_zip (s := { s with heap := h2, toks := tk }) z2 fun h3 z3 sb => ?_⟩
    have hT3 : h3.get? s.heap.objs.size = some { cls := .type "tuple", data := .seq #[u1, u2, u3] } := (sb.2 _ (Nat.ne_of_gt zl)).trans hT
    have new : ObjOk X.prog X.w (upd H s.heap.objs.size (.tup [x, y, z0])) h3 s.heap.objs.size (.tup [x, y, z0]) := ⟨by show 3 ≤ sizeLine; decide, [u1, u2, u3], .cons b1 (.cons b2 (.cons b3 .nil)), ⟨_, hT3, rfl, _, rfl⟩⟩
    have I3 : Inv X pins σ (upd H s.heap.objs.size (.tup [x, y, z0])) { s with heap := h3, toks := tk } := by
      refine I.turnedNew (t' := tk) (ch := [z, TI, TO, i1, i2, i3]) (fun d o hd e => ?_) hf (Nat.le_refl _) new
      simp only [List.mem_cons, List.not_mem_nil, or_false, not_or] at hd
      exact (sb.2 d hd.1).trans (keep d o hd.1 hd.2.2.1 hd.2.2.2.1 hd.2.2.2.2.1 hd.2.2.2.2.2 e)
    refine ⟨.ref s.heap.objs.size, _, I3, rfl, ⟨_, x, y, z0, rfl, I.hok.fresh (Nat.le_refl _), rfl, fun l hl => by rw [I.list_inj hl q1]; exact e1, fun l hl => by rw [I.list_inj hl q2]; exact e2, fun l hl => by rw [I.list_inj hl q3]; exact e3⟩, ⟨z3, ?_, ⟨u1, u2, u3, ?_⟩, ?_, ?_, ?_⟩, fun d hd => ?_⟩
    · exact (sb.2 _ D.sep.TIz).trans (keep _ _ D.sep.TIz D.sep.TITO D.sep.TIi1 D.sep.TIi2 D.sep.TIi3 hTI)
    · exact (sb.2 _ D.sep.TOz).trans TO2
    · exact k1.1.at fun o e => (sb.2 _ (Ne.symm D.sep.zi1)).trans e
    · exact k2.1.at fun o e => (sb.2 _ (Ne.symm D.sep.zi2)).trans e
    · exact k3.1.at fun o e => (sb.2 _ (Ne.symm D.sep.zi3)).trans e
    · have lt : d < s.heap.objs.size := by
        simp only [List.mem_cons, List.not_mem_nil, or_false] at hd
        rcases hd with rfl | rfl | rfl | rfl | rfl | rfl
        · exact zl
        · exact Heap.lt_size hTI
        · exact Heap.lt_size hTO
        · obtain ⟨_, e, _⟩ := s1
          exact Heap.lt_size e
        · obtain ⟨_, e, _⟩ := s2
          exact Heap.lt_size e
        · obtain ⟨_, e, _⟩ := s3
          exact Heap.lt_size e
      rw [upd_ne (Nat.ne_of_lt lt)]
      exact (hf d hd).1
  done := by
    intro X hP hw hK calm i pins s σ H E I hf st hg
    subst hP hw hK
    obtain ⟨hz, hTI, ⟨w1, w2, w3, hTO⟩, s1, s2, s3⟩ := st
    obtain ⟨xs, ys, zs, ⟨q1, e1⟩, ⟨q2, e2⟩, ⟨q3, e3⟩, hend⟩ := hg
    obtain ⟨t1, r1, l1, _⟩ := I.list q1
    obtain ⟨t2, r2, l2, _⟩ := I.list q2
    obtain ⟨t3, r3, l3, _⟩ := I.list q3
    have m1 := r1.length
    have m2 := r2.length
    have m3 := r3.length
    have calm1 : X.A.in1.handled = none := by simp [I.ok.hd calm]
    refine wpAny_pyNext_zipD3_end D.sep (Draws.list calm1 i1 a D.n1 t1.toArray) (Draws.list calm1 i2 b D.n2 t2.toArray) (Draws.list calm1 i3 c D.n3 t3.toArray) hz hTI hTO ⟨s1, l1.isList⟩ ⟨s2, l2.isList⟩ ⟨s3, l3.isList⟩ (by simp; omega) (by simp; omega) (by simp; omega) (by simp; omega)
      fun h2 tk keep => ⟨rfl, I.turnedL (t' := tk) (ch := [z, TI, TO, i1, i2, i3]) (fun d o hd e => ?_) hf⟩
    simp only [List.mem_cons, List.not_mem_nil, or_false, not_or] at hd
    exact keep d o hd.1 hd.2.2.1 hd.2.2.2.1 hd.2.2.2.2.1 hd.2.2.2.2.2 e
  self := fun A i s Q E st h => wpAny_pyIter_zip st.1 h
theorem sep3_mk (n a b c : Nat) (la : a < n) (lb : b < n) (lc : c < n) : Sep3 (n + 5) (n + 3) (n + 4) n (n + 1) (n + 2) a b c := by
  refine ⟨⟨?_, ?_, ?_, ?_, ?_, ?_, ?_, ?_, ?_, ?_, ?_, ?_, ?_, ?_, ?_, ?_, ?_, ?_, ?_, ?_, ?_⟩, ?_, ?_, ?_⟩ <;>
    first
      | exact fun (h : @Eq Nat _ _) => by omega
      | exact List.mem_cons_self
      | (simp only [List.mem_cons, List.not_mem_nil, or_false, not_or]; exact ⟨fun (h : @Eq Nat _ _) => by omega, fun (h : @Eq Nat _ _) => by omega⟩)
def iZip3 (K : PySem.W.Frag) (ta : TA) : TI := fun σ H R => ta σ H fun vs H1 => ∃ a b c xs ys zs, vs = [.ref a, .ref b, .ref c] ∧ SqL K H1 a xs ∧ SqL K H1 b ys ∧ SqL K H1 c zs ∧ R (It3 K a b c) H1
theorem pi_zip3 {X : Cx} {e e2 e3 : Expr} {ta : TA} {p pos tp : Pos} {ets : List Expr} {kk : Nat} (hg : Gl X "zip") (hm : X.mg "zip" = none) (ha : PA X [e, e2, e3] ta)
    (hs : starEach [e, e2, e3] X.env = (false, eval e X.env) :: starEach [e2, e3] X.env := by rfl) (hpl : (backTo pos (starEach [e2, e3] X.env)).any (·.1) = false := by rfl) :
    PI X (.Tuple ets kk tp) (.Call (.Name "zip" p) [e, e2, e3] [] pos) (iZip3 X.K ta) := by
  refine ⟨fun pins s σ H R I h => Call_ (ld_blt I hg hm PyProof.Rows.boot_zip (PyProof.Rows.callWith_type1 (thn (ha.run pos pins s σ H _ I h) fun us s1 ⟨vs, H1, I1, rv, q1⟩ => ?_) hs hpl))⟩
  obtain ⟨a, b, c, xs, ys, zs, rfl, q1, q2, q3, q⟩ := q1
  cases rv with
  | cons r rv =>
    cases rv with
    | cons r' rv =>
      cases rv with
      | cons r'' rv =>
        cases rv
        cases r
        cases r'
        cases r''
        obtain ⟨t1, _, l1, _⟩ := I1.list q1
        obtain ⟨t2, _, l2, _⟩ := I1.list q2
        obtain ⟨t3, _, l3, _⟩ := I1.list q3
        have la : a < s1.heap.objs.size := l1.lt
        have lb : b < s1.heap.objs.size := l2.lt
        have lc : c < s1.heap.objs.size := l3.lt
        refine zip_begins3 (begins_list a t1.toArray) (begins_list b t2.toArray) (begins_list c t3.toArray) l1.isList l2.isList l3.isList fun h2 hz hTI hTO g1 g2 g3 hsz keep => wpAny_pyIter_zip hz ?_
        have I2 : Inv X pins σ H1 { s1 with heap := h2 } := I1.kept (t' := s1.toks) keep
        refine ⟨s1.heap.objs.size + 5, [s1.heap.objs.size + 5, s1.heap.objs.size + 3, s1.heap.objs.size + 4, s1.heap.objs.size, s1.heap.objs.size + 1, s1.heap.objs.size + 2], _, _, H1, rfl, I2, turn3 (sep3_mk s1.heap.objs.size a b c la lb lc), ⟨hz, hTI, ⟨_, _, _, hTO⟩, ⟨_, g1, rfl, rfl⟩, ⟨_, g2, rfl, rfl⟩, ⟨_, g3, rfl, rfl⟩⟩, fun d hd => ?_, q⟩
        have le : s1.heap.objs.size ≤ d := by
          simp only [List.mem_cons, List.not_mem_nil, or_false] at hd
          rcases hd with rfl | rfl | rfl | rfl | rfl | rfl
          · exact Nat.le_add_right _ _
          · exact Nat.le_add_right _ _
          · exact Nat.le_add_right _ _
          · exact Nat.le_refl _
          · exact Nat.le_add_right _ _
          · exact Nat.le_add_right _ _
        exact I1.fpOk le (I1.hok.fresh le)
def YTrip (xs ys zs : List V) : Nat → Hp → V → Hp → Prop := fun i H v H' => ∃ T x y z, v = .ref T ∧ H T = none ∧ H' = upd H T (.tup [x, y, z]) ∧ xs[i]? = some x ∧ ys[i]? = some y ∧ zs[i]? = some z
theorem walk_zip3 {K : PySem.W.Frag} {a b c : Addr} {xs ys zs : List V} {n : Nat} (hn : n = min (min xs.length ys.length) zs.length) : Walk (It3 K a b c) n (fun H => SqL K H a xs ∧ SqL K H b ys ∧ SqL K H c zs) (YTrip xs ys zs) := by
  subst hn
  refine ⟨fun i _ hi q => ?_, fun _ q => ⟨xs, ys, zs, ⟨q.1, by omega⟩, ⟨q.2.1, by omega⟩, ⟨q.2.2, by omega⟩, by omega⟩, fun i H v H' _ q y => ?_⟩
  · have h1 : i < xs.length := by omega
    have h2 : i < ys.length := by omega
    have h3 : i < zs.length := by omega
    exact ⟨xs, ys, zs, xs[i], ys[i], zs[i], ⟨q.1, by simp [h1]⟩, ⟨q.2.1, by simp [h2]⟩, q.2.2, by simp [h3]⟩
  · obtain ⟨T, x, y, z, h1, h2, h3, h4, h5, h6⟩ := y
    exact ⟨T, x, y, z, h1, h2, h3, h4 xs q.1, h5 ys q.2.1, h6 zs q.2.2⟩
end WT

set_option Elab.async false
set_option linter.all false
set_option maxRecDepth 100000
set_option maxHeartbeats 4000000
/-! for x, y, z in zip(a, b, c), three tuples. -/
namespace WT
open PySem PySem.Spec PyProof.Rows L2
def It3T (K : PySem.W.Frag) (a b c : Addr) : It where
  go i H := ∃ (xs ys zs : List V) (x y z : V), (SqT K H a xs ∧ xs[i]? = some x) ∧ (SqT K H b ys ∧ ys[i]? = some y) ∧ SqT K H c zs ∧ zs[i]? = some z
  yld i H v H' := ∃ T x y z, v = .ref T ∧ H T = none ∧ H' = upd H T (.tup [x, y, z]) ∧ (∀ l, SqT K H a l → l[i]? = some x) ∧ (∀ l, SqT K H b l → l[i]? = some y) ∧ ∀ l, SqT K H c l → l[i]? = some z
  stop i H := ∃ xs ys zs : List V, (SqT K H a xs ∧ i ≤ xs.length) ∧ (SqT K H b ys ∧ i ≤ ys.length) ∧ (SqT K H c zs ∧ i ≤ zs.length) ∧ (i = xs.length ∨ i = ys.length ∨ i = zs.length)
def tn3T (z TI TO i1 i2 i3 a b c : Addr) (i : Nat) (h : Heap) : Prop := IsZip h z TI TO .none ∧ IsTupOf3 h TI (.ref i1) (.ref i2) (.ref i3) ∧ (∃ u1 u2 u3, IsTupOf3 h TO u1 u2 u3) ∧ h.IsTupleIter i1 a i ∧ h.IsTupleIter i2 b i ∧ h.IsTupleIter i3 c i
theorem turn3T {P : Program} {w : World} {K : PySem.W.Frag} {ets : List Expr} {q : Nat} {tp : Pos} {a b c z TI TO i1 i2 i3 : Addr} (D : Sep3 z TI TO i1 i2 i3 a b c) :
    Turn P w K (.Tuple ets q tp) (It3T K a b c) [z, TI, TO, i1, i2, i3] z (tn3T z TI TO i1 i2 i3 a b c) where
  mem := List.mem_cons_self
  obj := fun i h st d hd => by
    obtain ⟨hz, hTI, ⟨_, _, _, hTO⟩, ⟨o1, e1, _, d1⟩, ⟨o2, e2, _, d2⟩, ⟨o3, e3, _, d3⟩⟩ := st
    simp only [List.mem_cons, List.not_mem_nil, or_false] at hd
    rcases hd with rfl | rfl | rfl | rfl | rfl | rfl
    · exact ⟨_, hz, fun v z => nomatch z⟩
    · exact ⟨_, hTI, fun v z => nomatch z⟩
    · exact ⟨_, hTO, fun v z => nomatch z⟩
    · exact ⟨o1, e1, fun v z => by rw [d1] at z; cases z⟩
    · exact ⟨o2, e2, fun v z => by rw [d2] at z; cases z⟩
    · exact ⟨o3, e3, fun v z => by rw [d3] at z; cases z⟩
  keep := fun i h h' st k => by
    obtain ⟨hz, hTI, ⟨u1, u2, u3, hTO⟩, s1, s2, s3⟩ := st
    exact ⟨k z (by simp) _ hz, k TI (by simp) _ hTI, ⟨u1, u2, u3, k TO (by simp) _ hTO⟩, s1.at fun o z => k i1 (by simp) o z, s2.at fun o z => k i2 (by simp) o z, s3.at fun o z => k i3 (by simp) o z⟩
  item := by
    intro X hP hw hK calm i pins s σ H E I hf st hg
    subst hP hw hK
    obtain ⟨hz, hTI, ⟨w1, w2, w3, hTO⟩, s1, s2, s3⟩ := st
    obtain ⟨xs, ys, zs, x, y, z0, ⟨q1, e1⟩, ⟨q2, e2⟩, q3, e3⟩ := hg
    obtain ⟨t1, r1, l1, _⟩ := I.tuple q1
    obtain ⟨t2, r2, l2, _⟩ := I.tuple q2
    obtain ⟨t3, r3, l3, _⟩ := I.tuple q3
    obtain ⟨u1, a1, b1⟩ := r1.get e1
    obtain ⟨u2, a2, b2⟩ := r2.get e2
    obtain ⟨u3, a3, b3⟩ := r3.get e3
    have calm1 : X.A.in1.handled = none := by simp [I.ok.hd calm]
    have zl : z < s.heap.objs.size := Heap.lt_size hz
    have lt1 := (List.getElem?_eq_some_iff.mp a1).1
    have lt2 := (List.getElem?_eq_some_iff.mp a2).1
    have lt3 := (List.getElem?_eq_some_iff.mp a3).1
    refine wpAny_pyNext_zipD3_item D.sep (Draws.tuple calm1 i1 a D.n1 t1.toArray) (Draws.tuple calm1 i2 b D.n2 t2.toArray) (Draws.tuple calm1 i3 c D.n3 t3.toArray) hz hTI hTO ⟨s1, l1⟩ ⟨s2, l2⟩ ⟨s3, l3⟩ (by simpa using lt1) (by simpa using lt2) (by simpa using lt3)
      fun v1 v2 v3 h2 tk p1 p2 p3 z2 TO2 k1 k2 k3 hT hsz keep => ?_
    have p1 : t1[i]? = some v1 := by simpa using p1
    have p2 : t2[i]? = some v2 := by simpa using p2
    have p3 : t3[i]? = some v3 := by simpa using p3
    obtain rfl : u1 = v1 := by rw [a1] at p1; exact Option.some.inj p1
    obtain rfl : u2 = v2 := by rw [a2] at p2; exact Option.some.inj p2
    obtain rfl : u3 = v3 := by rw [a3] at p3; exact Option.some.inj p3
    refine ⟨_, rfl, wpAny_letOwnedTupleGo_zip (s := { s with heap := h2, toks := tk }) z2 fun h3 z3 sb => ?_⟩
    have hT3 : h3.get? s.heap.objs.size = some { cls := .type "tuple", data := .seq #[u1, u2, u3] } := (sb.2 _ (Nat.ne_of_gt zl)).trans hT
    have new : ObjOk X.prog X.w (upd H s.heap.objs.size (.tup [x, y, z0])) h3 s.heap.objs.size (.tup [x, y, z0]) := ⟨by show 3 ≤ sizeLine; decide, [u1, u2, u3], .cons b1 (.cons b2 (.cons b3 .nil)), ⟨_, hT3, rfl, _, rfl⟩⟩
    have I3 : Inv X pins σ (upd H s.heap.objs.size (.tup [x, y, z0])) { s with heap := h3, toks := tk } := by
      refine I.turnedNew (t' := tk) (ch := [z, TI, TO, i1, i2, i3]) (fun d o hd e => ?_) hf (Nat.le_refl _) new
      simp only [List.mem_cons, List.not_mem_nil, or_false, not_or] at hd
      exact (sb.2 d hd.1).trans (keep d o hd.1 hd.2.2.1 hd.2.2.2.1 hd.2.2.2.2.1 hd.2.2.2.2.2 e)
    refine ⟨.ref s.heap.objs.size, _, I3, rfl, ⟨_, x, y, z0, rfl, I.hok.fresh (Nat.le_refl _), rfl, fun l hl => by rw [I.tuple_inj hl q1]; exact e1, fun l hl => by rw [I.tuple_inj hl q2]; exact e2, fun l hl => by rw [I.tuple_inj hl q3]; exact e3⟩, ⟨z3, ?_, ⟨u1, u2, u3, ?_⟩, ?_, ?_, ?_⟩, fun d hd => ?_⟩
    · exact (sb.2 _ D.sep.TIz).trans (keep _ _ D.sep.TIz D.sep.TITO D.sep.TIi1 D.sep.TIi2 D.sep.TIi3 hTI)
    · exact (sb.2 _ D.sep.TOz).trans TO2
    · exact k1.1.at fun o e => (sb.2 _ (Ne.symm D.sep.zi1)).trans e
    · exact k2.1.at fun o e => (sb.2 _ (Ne.symm D.sep.zi2)).trans e
    · exact k3.1.at fun o e => (sb.2 _ (Ne.symm D.sep.zi3)).trans e
    · have lt : d < s.heap.objs.size := by
        simp only [List.mem_cons, List.not_mem_nil, or_false] at hd
        rcases hd with rfl | rfl | rfl | rfl | rfl | rfl
        · exact zl
        · exact Heap.lt_size hTI
        · exact Heap.lt_size hTO
        · obtain ⟨_, e, _⟩ := s1
          exact Heap.lt_size e
        · obtain ⟨_, e, _⟩ := s2
          exact Heap.lt_size e
        · obtain ⟨_, e, _⟩ := s3
          exact Heap.lt_size e
      rw [upd_ne (Nat.ne_of_lt lt)]
      exact (hf d hd).1
  done := by
    intro X hP hw hK calm i pins s σ H E I hf st hg
    subst hP hw hK
    obtain ⟨hz, hTI, ⟨w1, w2, w3, hTO⟩, s1, s2, s3⟩ := st
    obtain ⟨xs, ys, zs, ⟨q1, e1⟩, ⟨q2, e2⟩, ⟨q3, e3⟩, hend⟩ := hg
    obtain ⟨t1, r1, l1, _⟩ := I.tuple q1
    obtain ⟨t2, r2, l2, _⟩ := I.tuple q2
    obtain ⟨t3, r3, l3, _⟩ := I.tuple q3
    have m1 := r1.length
    have m2 := r2.length
    have m3 := r3.length
    have calm1 : X.A.in1.handled = none := by simp [I.ok.hd calm]
    refine wpAny_pyNext_zipD3_end D.sep (Draws.tuple calm1 i1 a D.n1 t1.toArray) (Draws.tuple calm1 i2 b D.n2 t2.toArray) (Draws.tuple calm1 i3 c D.n3 t3.toArray) hz hTI hTO ⟨s1, l1⟩ ⟨s2, l2⟩ ⟨s3, l3⟩ (by simp; omega) (by simp; omega) (by simp; omega) (by simp; omega)
      fun h2 tk keep => ⟨rfl, I.turnedL (t' := tk) (ch := [z, TI, TO, i1, i2, i3]) (fun d o hd e => ?_) hf⟩
    simp only [List.mem_cons, List.not_mem_nil, or_false, not_or] at hd
    exact keep d o hd.1 hd.2.2.1 hd.2.2.2.1 hd.2.2.2.2.1 hd.2.2.2.2.2 e
  self := fun A i s Q E st h => wpAny_pyIter_zip st.1 h
def iZip3T (K : PySem.W.Frag) (ta : TA) : TI := fun σ H R => ta σ H fun vs H1 => ∃ a b c xs ys zs, vs = [.ref a, .ref b, .ref c] ∧ SqT K H1 a xs ∧ SqT K H1 b ys ∧ SqT K H1 c zs ∧ R (It3T K a b c) H1
theorem pi_zip3T {X : Cx} {e e2 e3 : Expr} {ta : TA} {p pos tp : Pos} {ets : List Expr} {kk : Nat} (hg : Gl X "zip") (hm : X.mg "zip" = none) (ha : PA X [e, e2, e3] ta)
    (hs : starEach [e, e2, e3] X.env = (false, eval e X.env) :: starEach [e2, e3] X.env := by rfl) (hpl : (backTo pos (starEach [e2, e3] X.env)).any (·.1) = false := by rfl) :
    PI X (.Tuple ets kk tp) (.Call (.Name "zip" p) [e, e2, e3] [] pos) (iZip3T X.K ta) := by
  refine ⟨fun pins s σ H R I h => Call_ (ld_blt I hg hm PyProof.Rows.boot_zip (PyProof.Rows.callWith_type1 (thn (ha.run pos pins s σ H _ I h) fun us s1 ⟨vs, H1, I1, rv, q1⟩ => ?_) hs hpl))⟩
  obtain ⟨a, b, c, xs, ys, zs, rfl, q1, q2, q3, q⟩ := q1
  cases rv with
  | cons r rv =>
    cases rv with
    | cons r' rv =>
      cases rv with
      | cons r'' rv =>
        cases rv
        cases r
        cases r'
        cases r''
        obtain ⟨t1, _, l1, _⟩ := I1.tuple q1
        obtain ⟨t2, _, l2, _⟩ := I1.tuple q2
        obtain ⟨t3, _, l3, _⟩ := I1.tuple q3
        have la : a < s1.heap.objs.size := l1.lt
        have lb : b < s1.heap.objs.size := l2.lt
        have lc : c < s1.heap.objs.size := l3.lt
        refine zip_begins3 (begins_tuple a t1.toArray) (begins_tuple b t2.toArray) (begins_tuple c t3.toArray) l1 l2 l3 fun h2 hz hTI hTO g1 g2 g3 hsz keep => wpAny_pyIter_zip hz ?_
        have I2 : Inv X pins σ H1 { s1 with heap := h2 } := I1.kept (t' := s1.toks) keep
        refine ⟨s1.heap.objs.size + 5, [s1.heap.objs.size + 5, s1.heap.objs.size + 3, s1.heap.objs.size + 4, s1.heap.objs.size, s1.heap.objs.size + 1, s1.heap.objs.size + 2], _, _, H1, rfl, I2, turn3T (sep3_mk s1.heap.objs.size a b c la lb lc), ⟨hz, hTI, ⟨_, _, _, hTO⟩, ⟨_, g1, rfl, rfl⟩, ⟨_, g2, rfl, rfl⟩, ⟨_, g3, rfl, rfl⟩⟩, fun d hd => ?_, q⟩
        have le : s1.heap.objs.size ≤ d := by
          simp only [List.mem_cons, List.not_mem_nil, or_false] at hd
          rcases hd with rfl | rfl | rfl | rfl | rfl | rfl
          · exact Nat.le_add_right _ _
          · exact Nat.le_add_right _ _
          · exact Nat.le_add_right _ _
          · exact Nat.le_refl _
          · exact Nat.le_add_right _ _
          · exact Nat.le_add_right _ _
        exact I1.fpOk le (I1.hok.fresh le)
def YTripT (xs ys zs : List V) : Nat → Hp → V → Hp → Prop := fun i H v H' => ∃ T x y z, v = .ref T ∧ H T = none ∧ H' = upd H T (.tup [x, y, z]) ∧ xs[i]? = some x ∧ ys[i]? = some y ∧ zs[i]? = some z
theorem walk_zip3T {K : PySem.W.Frag} {a b c : Addr} {xs ys zs : List V} {n : Nat} (hn : n = min (min xs.length ys.length) zs.length) : Walk (It3T K a b c) n (fun H => SqT K H a xs ∧ SqT K H b ys ∧ SqT K H c zs) (YTripT xs ys zs) := by
  subst hn
  refine ⟨fun i _ hi q => ?_, fun _ q => ⟨xs, ys, zs, ⟨q.1, by omega⟩, ⟨q.2.1, by omega⟩, ⟨q.2.2, by omega⟩, by omega⟩, fun i H v H' _ q y => ?_⟩
  · have h1 : i < xs.length := by omega
    have h2 : i < ys.length := by omega
    have h3 : i < zs.length := by omega
    exact ⟨xs, ys, zs, xs[i], ys[i], zs[i], ⟨q.1, by simp [h1]⟩, ⟨q.2.1, by simp [h2]⟩, q.2.2, by simp [h3]⟩
  · obtain ⟨T, x, y, z, h1, h2, h3, h4, h5, h6⟩ := y
    exact ⟨T, x, y, z, h1, h2, h3, h4 xs q.1, h5 ys q.2.1, h6 zs q.2.2⟩
end WT

set_option Elab.async false
set_option linter.all false
set_option maxRecDepth 100000
set_option maxHeartbeats 4000000
namespace WT
open PySem PySem.Spec PyProof.Rows L2
/-! ### every second item; values that are paths -/
def evR {α : Type} : List α → List α
  | [] => []
  | [x] => [x]
  | x :: _ :: t => x :: evR t
def odR {α : Type} : List α → List α
  | [] => []
  | [_] => []
  | _ :: y :: t => y :: odR t
theorem evR_len {α : Type} : ∀ xs : List α, (evR xs).length = (xs.length + 1) / 2
  | [] => by simp [evR]
  | [x] => by simp [evR]
  | x :: y :: t => by
    have := evR_len t
    simp only [evR, List.length_cons]
    omega
theorem odR_len {α : Type} : ∀ xs : List α, (odR xs).length = xs.length / 2
  | [] => by simp [odR]
  | [x] => by simp [odR]
  | x :: y :: t => by
    have := odR_len t
    simp only [odR, List.length_cons]
    omega
theorem evR_at {α : Type} : ∀ (xs : List α) (i : Nat), (evR xs)[i]? = xs[2 * i]?
  | [], i => by simp [evR]
  | [x], 0 => rfl
  | [x], i + 1 => by
    show none = _
    rw [List.getElem?_eq_none (by simp; omega)]
  | x :: y :: t, 0 => rfl
  | x :: y :: t, i + 1 => by
    show (evR t)[i]? = (x :: y :: t)[2 * (i + 1)]?
    rw [evR_at t i, show 2 * (i + 1) = 2 * i + 1 + 1 by omega, List.getElem?_cons_succ, List.getElem?_cons_succ]
theorem odR_at {α : Type} : ∀ (xs : List α) (i : Nat), (odR xs)[i]? = xs[2 * i + 1]?
  | [], i => by simp [odR]
  | [x], i => by
    show none = _
    rw [List.getElem?_eq_none (by simp)]
  | x :: y :: t, 0 => rfl
  | x :: y :: t, i + 1 => by
    show (odR t)[i]? = (x :: y :: t)[2 * (i + 1) + 1]?
    rw [odR_at t i, show 2 * (i + 1) + 1 = 2 * i + 1 + 1 + 1 by omega, List.getElem?_cons_succ, List.getElem?_cons_succ]
theorem step_evR {α : Type} (xs : List α) : stepL xs none none 2 = evR xs := by
  have h := pick_all (evR xs)
  have e : Builtin.Slice.slicePlaces (Builtin.Slice.sliceAdjust none none 2 (xs.length : Int)).1 (Builtin.Slice.sliceAdjust none none 2 (xs.length : Int)).2 2 = (evR xs).length := by
    rw [evR_len]
    unfold Builtin.Slice.slicePlaces Builtin.Slice.sliceAdjust
    simp
    split <;> omega
  unfold stepL
  rw [e]
  refine Eq.trans ?_ h
  congr 1
  funext m
  have : (Builtin.Slice.sliceAdjust none none 2 (xs.length : Int)).1 = 0 := rfl
  rw [this, show ((0 : Int) + (m : Int) * 2).toNat = 2 * m by omega]
  exact (evR_at xs m).symm
theorem step_odR {α : Type} (xs : List α) : stepL xs (some 1) none 2 = odR xs := by
  cases xs with
  | nil => rfl
  | cons x xs =>
    have h := pick_all (odR (x :: xs))
    have e0 : (Builtin.Slice.sliceAdjust (some 1) none 2 ((x :: xs).length : Int)).1 = 1 := by
      unfold Builtin.Slice.sliceAdjust
      simp
      omega
    have e : Builtin.Slice.slicePlaces (Builtin.Slice.sliceAdjust (some 1) none 2 ((x :: xs).length : Int)).1 (Builtin.Slice.sliceAdjust (some 1) none 2 ((x :: xs).length : Int)).2 2 = (odR (x :: xs)).length := by
      rw [e0, odR_len]
      unfold Builtin.Slice.slicePlaces Builtin.Slice.sliceAdjust
      simp
      split <;> omega
    unfold stepL
    rw [e]
    refine Eq.trans ?_ h
    congr 1
    funext m
    rw [e0, show ((1 : Int) + (m : Int) * 2).toNat = 2 * m + 1 by omega]
    exact (odR_at (x :: xs) m).symm
theorem evR_map {α β : Type} (f : α → β) : ∀ xs : List α, evR (xs.map f) = (evR xs).map f
  | [] => rfl
  | [x] => rfl
  | x :: y :: t => by
    show f x :: evR (t.map f) = f x :: (evR t).map f
    rw [evR_map f t]
theorem odR_map {α β : Type} (f : α → β) : ∀ xs : List α, odR (xs.map f) = (odR xs).map f
  | [] => rfl
  | [x] => rfl
  | x :: y :: t => by
    show f y :: odR (t.map f) = f y :: (odR t).map f
    rw [odR_map f t]
theorem dt_evR {K : PySem.W.Frag} {H : Hp} : ∀ {xs : List V} {ds : List PyData}, DtAll K H xs ds → DtAll K H (evR xs) (evR ds)
  | _, _, .nil => .nil
  | _, _, .cons h .nil => .cons h .nil
  | _, _, .cons h (.cons _ t) => .cons h (dt_evR t)
theorem dt_odR {K : PySem.W.Frag} {H : Hp} : ∀ {xs : List V} {ds : List PyData}, DtAll K H xs ds → DtAll K H (odR xs) (odR ds)
  | _, _, .nil => .nil
  | _, _, .cons _ .nil => .nil
  | _, _, .cons _ (.cons h t) => .cons h (dt_odR t)
theorem dt_strs {K : PySem.W.Frag} {H : Hp} : ∀ {ss : List Str} {xs : List V}, DtAll K H xs (ss.map PyData.str) → xs = ss.map V.str
  | [], _, h => by
    cases h
    rfl
  | s :: ss, _, h => by
    cases h with
    | cons h t =>
      cases h
      rw [dt_strs t]
      rfl
theorem dt_at {K : PySem.W.Frag} {H : Hp} : ∀ {xs : List V} {ds : List PyData} {i : Nat} {x : V}, DtAll K H xs ds → xs[i]? = some x → ∃ d, ds[i]? = some d ∧ Dt K H x d
  | _, _, _, _, .nil, h => by simp at h
  | _, _, 0, _, .cons h _, e => by
    cases e
    exact ⟨_, rfl, h⟩
  | _, _, i + 1, _, .cons _ t, e => dt_at (i := i) t e
/-- both halves are texts: the whole is -/
theorem halves : ∀ {ds : List PyData} {es os : List Str}, evR ds = es.map PyData.str → odR ds = os.map PyData.str → ∃ ss : List Str, ds = ss.map PyData.str ∧ evR ss = es ∧ odR ss = os
  | [], [], [], _, _ => ⟨[], rfl, rfl, rfl⟩
  | [d], [e], [], h, _ => by
    have : d = .str e := by simpa [evR] using h
    exact ⟨[e], by rw [this]; rfl, rfl, rfl⟩
  | d :: d2 :: t, e :: es, o :: os, h, k => by
    have h1 : d = .str e ∧ evR t = es.map PyData.str := by simpa [evR] using h
    have k1 : d2 = .str o ∧ odR t = os.map PyData.str := by simpa [odR] using k
    obtain ⟨ss, a1, a2, a3⟩ := halves h1.2 k1.2
    exact ⟨e :: o :: ss, by rw [h1.1, k1.1, a1]; rfl, by rw [← a2]; rfl, by rw [← a3]; rfl⟩
  | [], _ :: _, _, h, _ => by simp [evR] at h
  | [], [], _ :: _, _, k => by simp [odR] at k
  | [_], [], _, h, _ => by simp [evR] at h
  | [_], _ :: _ :: _, _, h, _ => by simp [evR] at h
  | [_], [_], _ :: _, _, k => by simp [odR] at k
  | _ :: _ :: _, [], _, h, _ => by simp [evR] at h
  | _ :: _ :: _, _ :: _, [], _, k => by simp [odR] at k
/-- texts that are a path of the world -/
structure PathI (rs : List Str) (gs : List Gt) (ss : List Str) : Prop where
  odd : ss.length % 2 = 1
  reg : ∀ s ∈ evR ss, s ∈ rs
  gat : ∀ s ∈ odR ss, s ∈ gs.map (·.1)
  rnd : (evR ss).Nodup
  gnd : (odR ss).Nodup
  join : ∀ (i : Nat) (n x y : Str), (odR ss)[i]? = some n → (evR ss)[i]? = some x → (evR ss)[i + 1]? = some y → Has gs n x y
def IsPathD (rs : List Str) (gs : List Gt) (d : PyData) : Prop := ∃ ss, d = .tuple (ss.map PyData.str) ∧ PathI rs gs ss
/-- different ones among the known -/
def DiffD (ks : List Str) (ds : List PyData) : Prop := ∃ ss : List Str, ds = ss.map PyData.str ∧ (∀ s ∈ ss, s ∈ ks) ∧ ss.Nodup
theorem strs_inj {a b : List Str} (h : a.map PyData.str = b.map PyData.str) : a = b := by
  induction a generalizing b with
  | nil =>
    cases b with
    | nil => rfl
    | cons _ _ => cases h
  | cons x a ih =>
    cases b with
    | nil => cases h
    | cons y b =>
      injection h with h1 h2
      injection h1 with h1
      rw [h1, ih h2]
theorem all_in_iff {ks : List Str} : ∀ ds : List PyData, (ds.map fun d => isIn d ks).all id = true ↔ ∃ ss : List Str, ds = ss.map PyData.str ∧ ∀ s ∈ ss, s ∈ ks
  | [] => by
    exact ⟨fun _ => ⟨[], rfl, fun s hs => by cases hs⟩, fun _ => rfl⟩
  | d :: ds => by
    have ih := all_in_iff (ks := ks) ds
    rw [List.map_cons, List.all_cons, Bool.and_eq_true, ih]
    constructor
    · rintro ⟨h1, ss, rfl, h2⟩
      cases d with
      | str s =>
        refine ⟨s :: ss, rfl, fun z hz => ?_⟩
        rcases List.mem_cons.mp hz with e | hz
        · rw [e]
          exact of_decide_eq_true h1
        · exact h2 z hz
      | _ => cases h1
    · rintro ⟨ss, e, h2⟩
      cases ss with
      | nil => cases e
      | cons s ss =>
        injection e with e1 e2
        subst e1
        exact ⟨decide_eq_true (h2 s List.mem_cons_self), ss, e2, fun z hz => h2 z (List.mem_cons_of_mem _ hz)⟩
end WT

set_option Elab.async false
set_option linter.all false
set_option maxRecDepth 100000
set_option maxHeartbeats 4000000
/-! is_cycle of any value. -/
namespace WT
open PySem PySem.Spec PyProof.Rows L2
def duoD (p : Str × Str) : PyData := .tuple [.str p.1, .str p.2]
structure CycI (rs : List Str) (gs : List Gt) (ps : List (Str × Str)) : Prop where
  two : 2 ≤ ps.length
  reg : ∀ x ∈ ps.map (·.1), x ∈ rs
  gat : ∀ n ∈ ps.map (·.2), n ∈ gs.map (·.1)
  rnd : (ps.map (·.1)).Nodup
  gnd : (ps.map (·.2)).Nodup
  join : ∀ (i : Nat) (p : Str × Str) (y : Str), ps[i]? = some p → ((ps.map (·.1)).tail ++ (ps.map (·.1)).take 1)[i]? = some y → Has gs p.2 p.1 y
/-- any value that is a cycle -/
def IsCycD (rs : List Str) (gs : List Gt) (d : PyData) : Prop := ∃ ps, d = .tuple (ps.map duoD) ∧ CycI rs gs ps
def isPair : PyData → Bool
  | .tuple [_, _] => true
  | _ => false
def twoD (q : PyData × PyData) : PyData := .tuple [q.1, q.2]
theorem isPair_of {d : PyData} (h : isPair d = true) : ∃ q, d = twoD q := by
  unfold isPair at h
  split at h
  · exact ⟨(_, _), rfl⟩
  · cases h
theorem all_pairs : ∀ ds : List PyData, (ds.map isPair).all id = true ↔ ∃ qs : List (PyData × PyData), ds = qs.map twoD
  | [] => ⟨fun _ => ⟨[], rfl⟩, fun _ => rfl⟩
  | d :: ds => by
    rw [List.map_cons, List.all_cons, Bool.and_eq_true, all_pairs ds]
    constructor
    · rintro ⟨h, qs, rfl⟩
      obtain ⟨q, rfl⟩ := isPair_of h
      exact ⟨q :: qs, rfl⟩
    · rintro ⟨qs, e⟩
      cases qs with
      | nil => cases e
      | cons q qs =>
        rw [List.map_cons] at e
        injection e with e1 e2
        rw [e1]
        exact ⟨rfl, qs, e2⟩
theorem pairs_txt : ∀ {qs : List (PyData × PyData)} {rr nn : List Str}, qs.map (·.1) = rr.map PyData.str → qs.map (·.2) = nn.map PyData.str → ∃ ps : List (Str × Str), qs.map twoD = ps.map duoD ∧ ps.map (·.1) = rr ∧ ps.map (·.2) = nn
  | [], rr, nn, h1, h2 => by
    cases rr with
    | nil =>
      cases nn with
      | nil => exact ⟨[], rfl, rfl, rfl⟩
      | cons _ _ => cases h2
    | cons _ _ => cases h1
  | q :: qs, rr, nn, h1, h2 => by
    cases rr with
    | nil => cases h1
    | cons r rr =>
      cases nn with
      | nil => cases h2
      | cons n nn =>
        simp only [List.map_cons, List.cons.injEq] at h1 h2
        obtain ⟨ps, e1, e2, e3⟩ := pairs_txt h1.2 h2.2
        refine ⟨(r, n) :: ps, ?_, ?_, ?_⟩
        · rw [List.map_cons, List.map_cons, e1]
          congr 1
          unfold twoD duoD
          rw [h1.1, h2.1]
        · rw [List.map_cons, e2]
        · rw [List.map_cons, e3]
theorem two_pair : ∀ {qs : List (PyData × PyData)} {ps : List (Str × Str)}, qs.map twoD = ps.map duoD → qs.map (·.1) = (ps.map (·.1)).map PyData.str ∧ qs.map (·.2) = (ps.map (·.2)).map PyData.str
  | [], [], _ => ⟨rfl, rfl⟩
  | [], _ :: _, h => by cases h
  | _ :: _, [], h => by cases h
  | q :: qs, p :: ps, h => by
    simp only [List.map_cons, List.cons.injEq] at h
    obtain ⟨a, b⟩ := two_pair h.2
    have e := h.1
    unfold twoD duoD at e
    injection e with e
    injection e with e1 e2
    injection e2 with e2 _
    simp only [List.map_cons, a, b, e1, e2]
    exact ⟨trivial, trivial⟩
theorem duoD_two (ps : List (Str × Str)) : ps.map duoD = (ps.map fun p => (PyData.str p.1, PyData.str p.2)).map twoD := by
  rw [List.map_map]
  rfl
theorem pairs_inj {ps qs : List (Str × Str)} (h : ps.map duoD = qs.map duoD) : ps = qs := by
  have a := two_pair (qs := ps.map fun p => (PyData.str p.1, PyData.str p.2)) (ps := qs) (by rw [← duoD_two]; exact h)
  have e1 : ps.map (·.1) = qs.map (·.1) := strs_inj (by rw [← a.1, List.map_map, List.map_map]; rfl)
  have e2 : ps.map (·.2) = qs.map (·.2) := strs_inj (by rw [← a.2, List.map_map, List.map_map]; rfl)
  have : ∀ {ps qs : List (Str × Str)}, ps.map (·.1) = qs.map (·.1) → ps.map (·.2) = qs.map (·.2) → ps = qs := fun {ps} => by
    induction ps with
    | nil =>
      intro qs h _
      cases qs with
      | nil => rfl
      | cons _ _ => cases h
    | cons p ps ih =>
      intro qs h1 h2
      cases qs with
      | nil => cases h1
      | cons q qs =>
        simp only [List.map_cons, List.cons.injEq] at h1 h2
        rw [ih h1.2 h2.2]
        congr 1
        exact Prod.ext h1.1 h2.1
  exact this e1 e2
section
variable {K : PySem.W.Frag} {H : Hp}
theorem dt_two {x : V} {q : PyData × PyData} (h : Dt K H x (twoD q)) : ∃ u a b, x = .ref u ∧ SqT K H u [a, b] ∧ Dt K H a q.1 ∧ Dt K H b q.2 := by
  unfold twoD at h
  cases h with
  | tup h1 h2 =>
    cases h2 with
    | cons k1 k2 =>
      cases k2 with
      | cons k2 k3 =>
        cases k3
        exact ⟨_, _, _, rfl, h1, k1, k2⟩
theorem dt_snoc : ∀ {xs : List V} {ds : List PyData} {x : V} {d : PyData}, DtAll K H xs ds → Dt K H x d → DtAll K H (xs ++ [x]) (ds ++ [d])
  | [], _, _, _, .nil, k => .cons k .nil
  | _ :: _, _, _, _, .cons h t, k => .cons h (dt_snoc t k)
end
end WT
namespace WT
open PySem PySem.Spec PyProof.Rows L2
/-- the first j of ds are such pairs -/
structure PreC (rs : List Str) (gs : List Gt) (ds : List PyData) (j : Nat) (ps : List (Str × Str)) : Prop where
  data : ds.take j = ps.map duoD
  len : ps.length = j
  reg : ∀ x ∈ ps.map (·.1), x ∈ rs
  gat : ∀ n ∈ ps.map (·.2), n ∈ gs.map (·.1)
  rnd : (ps.map (·.1)).Nodup
  gnd : (ps.map (·.2)).Nodup
theorem nodup_snoc {l : List Str} {x : Str} (h : l.Nodup) (k : x ∉ l) : (l ++ [x]).Nodup := by
  refine List.nodup_append.mpr ⟨h, by simp, fun a ha b hb e => ?_⟩
  have hb : b = x := by simpa using hb
  exact k (hb ▸ e ▸ ha)
section
variable {rs : List Str} {gs : List Gt} {ds : List PyData} {j : Nat} {ps : List (Str × Str)}
theorem PreC.next {p : Str × Str} (h : PreC rs gs ds j ps) (hp : ds[j]? = some (duoD p)) (h1 : p.1 ∈ rs) (h2 : p.2 ∈ gs.map (·.1)) (h3 : p.1 ∉ ps.map (·.1)) (h4 : p.2 ∉ ps.map (·.2)) : PreC rs gs ds (j + 1) (ps ++ [p]) := by
  refine ⟨?_, ?_, fun x hx => ?_, fun x hx => ?_, ?_, ?_⟩
  · rw [List.take_add_one, hp, h.data, List.map_append]
    rfl
  · rw [List.length_append, h.len]
    rfl
  · rw [List.map_append] at hx
    rcases List.mem_append.mp hx with hx | hx
    · exact h.reg x hx
    · have : x = p.1 := by simpa using hx
      rw [this]
      exact h1
  · rw [List.map_append] at hx
    rcases List.mem_append.mp hx with hx | hx
    · exact h.gat x hx
    · have : x = p.2 := by simpa using hx
      rw [this]
      exact h2
  · rw [List.map_append]
    exact nodup_snoc h.rnd h3
  · rw [List.map_append]
    exact nodup_snoc h.gnd h4
theorem nodup_no {l : List Str} {j : Nat} {x : Str} (h : l.Nodup) (hx : l[j]? = some x) : x ∉ l.take j := fun z => by
  obtain ⟨i, hi, e⟩ := List.getElem_of_mem z
  rw [List.length_take] at hi
  obtain ⟨hj, ej⟩ := List.getElem?_eq_some_iff.mp hx
  rw [List.getElem_take] at e
  exact (List.pairwise_iff_getElem.mp h i j (by omega) hj (by omega)) (e.trans ej.symm)
theorem PreC.fails (h : PreC rs gs ds j ps) (hj : j < ds.length) (bad : ∀ p, ds[j]? = some (duoD p) → p.1 ∉ rs ∨ p.2 ∉ gs.map (·.1) ∨ p.1 ∈ ps.map (·.1) ∨ p.2 ∈ ps.map (·.2)) : ¬ IsCycD rs gs (.tuple ds) := by
  rintro ⟨qs, e, C⟩
  injection e with e
  have lq : j < qs.length := by rw [e, List.length_map] at hj; exact hj
  have hq : qs[j]? = some qs[j] := List.getElem?_eq_getElem lq
  have ep : qs.take j = ps := pairs_inj (by rw [← h.data, e, List.map_take])
  have a1 : (qs.map (·.1))[j]? = some qs[j].1 := by rw [List.getElem?_map, hq]; rfl
  have a2 : (qs.map (·.2))[j]? = some qs[j].2 := by rw [List.getElem?_map, hq]; rfl
  rcases bad qs[j] (by rw [e, List.getElem?_map, hq]; rfl) with b | b | b | b
  · exact b (C.reg _ (List.mem_of_getElem? a1))
  · exact b (C.gat _ (List.mem_of_getElem? a2))
  · rw [← ep, List.map_take] at b
    exact nodup_no C.rnd a1 b
  · rw [← ep, List.map_take] at b
    exact nodup_no C.gnd a2 b
end
section
variable {K : PySem.W.Frag} {H : Hp}
/-- value[lo:hi] of a tuple -/
theorem sl_dt {p : Addr} {xs : List V} {lo hi : Option Int} {Q : VK} (h : SqT K H p xs) (k : ∀ q H', Same H H' → SqT K H' q (cutV xs lo hi) → Q (.ref q) H') : rSlA K (.ref p) lo hi H Q := by
  refine ⟨p, xs, rfl, h, fun c => k p H (fun _ _ e => e) ?_, fun _ q n => k q _ (same_new n) (SqT.of upd_same)⟩
  have : cutV xs lo hi = xs := by
    unfold cutV
    rw [c.1, c.2, List.drop_zero, Nat.sub_zero, List.take_length]
  rw [this]
  exact h
theorem cutV_left {xs : List V} {j : Nat} (h : j ≤ xs.length) : cutV xs none (some (j : Int)) = xs.take j := by
  unfold cutV
  rw [HT.sIx_none, HT.sIx_nat, List.drop_zero, Nat.sub_zero, Nat.min_eq_left h]
theorem dt_duoD {x : V} {p : Str × Str} (h : Dt K H x (duoD p)) : ∃ u, x = .ref u ∧ SqT K H u [.str p.1, .str p.2] := by
  obtain ⟨u, a, b, e, h1, h2, h3⟩ := dt_two (q := (.str p.1, .str p.2)) h
  cases h2
  cases h3
  exact ⟨u, e, h1⟩
end
end WT

set_option Elab.async false
set_option linter.all false
set_option maxRecDepth 100000
set_option maxHeartbeats 4000000
/-! values near a path: data of small parts, with a weight; a heap without some objects (the hand, a list that grows), so that they stay while those change. -/
namespace WT
open PySem PySem.Spec PyProof.Rows L2
/-- a text of signs below 128 -/
def Asc (s : Str) : Prop := ∀ c ∈ s.cps.toList, c < 128
/-- data of small parts -/
inductive Nr : PyData → Prop
  | non : Nr .none
  | bl (b : Bool) : Nr (.bool b)
  | int (i : Int) (h : (PyData.shown (.int i)).length ≤ 40) (k : PyData.showable (.int i) = true) : Nr (.int i)
  | str (s : Str) (h : Asc s) : Nr (.str s)
  | lst (ds : List PyData) (h : ∀ d ∈ ds, Nr d) : Nr (.list ds)
  | tup (ds : List PyData) (h : ∀ d ∈ ds, Nr d) : Nr (.tuple ds)
  | dic : Nr (.dict [])
theorem short_all {B : Nat} : ∀ {ds : List PyData}, (∀ d ∈ ds, d.showable = true ∧ d.leavesShort B = true) → PyData.showableAll ds = true ∧ PyData.leavesShortAll B ds = true
  | [], _ => ⟨rfl, rfl⟩
  | d :: ds, h => by
    obtain ⟨a, b⟩ := short_all fun x hx => h x (List.mem_cons_of_mem _ hx)
    obtain ⟨c, e⟩ := h d List.mem_cons_self
    rw [PyData.showableAll, PyData.leavesShortAll, a, b, c, e]
    exact ⟨rfl, rfl⟩
theorem Nr.short {d : PyData} (h : Nr d) : d.showable = true ∧ d.leavesShort 40 = true := by
  induction h with
  | non => exact ⟨rfl, rfl⟩
  | bl b => exact ⟨rfl, rfl⟩
  | int i h k => exact ⟨k, by rw [PyData.leavesShort]; exact decide_eq_true h⟩
  | str s h =>
    refine ⟨rfl, ?_⟩
    rw [PyData.leavesShort, List.all_eq_true]
    intro c hc
    have := h c hc
    have e : (16 : Nat) ^ 8 = 4294967296 := by decide
    exact decide_eq_true (by omega)
  | lst ds h ih =>
    rw [PyData.showable, PyData.leavesShort]
    exact short_all ih
  | tup ds h ih =>
    rw [PyData.showable, PyData.leavesShort]
    exact short_all ih
  | dic => exact ⟨by decide +kernel, by decide +kernel⟩
theorem Nr.fit {d : PyData} (h : Nr d) : Fit d.depth (42 * d.weight + 40) d := ⟨h.short.1, Nat.le_refl _, PyData.shown_le 40 (by decide) d h.short.2⟩
/-- no more than this of weight and depth -/
structure Sm (W D : Nat) (d : PyData) : Prop where
  nr : Nr d
  wt : d.weight ≤ W
  de : d.depth ≤ D
theorem Sm.mono {W D W' D' : Nat} {d : PyData} (h : Sm W D d) (h1 : W ≤ W') (h2 : D ≤ D') : Sm W' D' d := ⟨h.nr, Nat.le_trans h.wt h1, Nat.le_trans h.de h2⟩
theorem Sm.fit {W D : Nat} {d : PyData} (h : Sm W D d) : Fit D (42 * W + 40) d := h.nr.fit.mono h.de (by have := h.wt; omega)
/-- parts of small weight all together -/
structure SmA (W D : Nat) (ds : List PyData) : Prop where
  nr : ∀ d ∈ ds, Nr d
  wt : PyData.weightAll ds ≤ W
  de : PyData.depthAll ds ≤ D
theorem w_nil : PyData.weightAll [] = 0 := by rw [PyData.weightAll]
theorem d_nil : PyData.depthAll [] = 0 := by rw [PyData.depthAll]
theorem w_cons (d : PyData) (ds : List PyData) : PyData.weightAll (d :: ds) = d.weight + 1 + PyData.weightAll ds := by rw [PyData.weightAll]
theorem d_cons (d : PyData) (ds : List PyData) : PyData.depthAll (d :: ds) = max d.depth (PyData.depthAll ds) := by rw [PyData.depthAll]
theorem w_app : ∀ (a b : List PyData), PyData.weightAll (a ++ b) = PyData.weightAll a + PyData.weightAll b
  | [], b => by rw [List.nil_append, w_nil, Nat.zero_add]
  | d :: a, b => by
    rw [List.cons_append, w_cons, w_cons, w_app a b]
    omega
theorem d_app : ∀ (a b : List PyData), PyData.depthAll (a ++ b) = max (PyData.depthAll a) (PyData.depthAll b)
  | [], b => by rw [List.nil_append, d_nil, Nat.zero_max]
  | d :: a, b => by
    rw [List.cons_append, d_cons, d_cons, d_app a b]
    omega
theorem w_rev : ∀ a : List PyData, PyData.weightAll a.reverse = PyData.weightAll a
  | [] => rfl
  | d :: a => by
    rw [List.reverse_cons, w_app, w_rev a, w_cons, w_cons, w_nil]
    omega
theorem d_rev : ∀ a : List PyData, PyData.depthAll a.reverse = PyData.depthAll a
  | [] => rfl
  | d :: a => by
    rw [List.reverse_cons, d_app, d_rev a, d_cons, d_cons, d_nil]
    omega
theorem w_len : ∀ a : List PyData, a.length ≤ PyData.weightAll a
  | [] => Nat.zero_le _
  | d :: a => by
    have := w_len a
    rw [List.length_cons, w_cons]
    omega
theorem Sm.parts {W D : Nat} {ds : List PyData} (h : Sm W D (.tuple ds)) : SmA W (D - 1) ds ∧ 1 ≤ D := by
  obtain ⟨a, b, c⟩ := h
  rw [PyData.weight] at b
  rw [PyData.depth] at c
  cases a with
  | tup _ a => exact ⟨⟨a, b, by omega⟩, by omega⟩
theorem SmA.tup {W D : Nat} {ds : List PyData} (h : SmA W D ds) : Sm W (D + 1) (.tuple ds) := ⟨.tup _ h.nr, by rw [PyData.weight]; exact h.wt, by rw [PyData.depth]; have := h.de; omega⟩
theorem SmA.lst {W D : Nat} {ds : List PyData} (h : SmA W D ds) : Sm W (D + 1) (.list ds) := ⟨.lst _ h.nr, by rw [PyData.weight]; exact h.wt, by rw [PyData.depth]; have := h.de; omega⟩
theorem SmA.app {W D W' : Nat} {a b : List PyData} (h : SmA W D a) (k : SmA W' D b) : SmA (W + W') D (a ++ b) :=
  ⟨fun d hd => (List.mem_append.mp hd).elim (h.nr d) (k.nr d), by rw [w_app]; exact Nat.add_le_add h.wt k.wt, by rw [d_app]; exact Nat.max_le.mpr ⟨h.de, k.de⟩⟩
theorem SmA.rev {W D : Nat} {a : List PyData} (h : SmA W D a) : SmA W D a.reverse := ⟨fun d hd => h.nr d (List.mem_reverse.mp hd), by rw [w_rev]; exact h.wt, by rw [d_rev]; exact h.de⟩
theorem SmA.left {W D : Nat} {a b : List PyData} (h : SmA W D (a ++ b)) : SmA W D a := by
  obtain ⟨x, y, z⟩ := h
  rw [w_app] at y
  rw [d_app] at z
  exact ⟨fun d hd => x d (List.mem_append.mpr (.inl hd)), by omega, by omega⟩
theorem SmA.right {W D : Nat} {a b : List PyData} (h : SmA W D (a ++ b)) : SmA W D b := by
  obtain ⟨x, y, z⟩ := h
  rw [w_app] at y
  rw [d_app] at z
  exact ⟨fun d hd => x d (List.mem_append.mpr (.inr hd)), by omega, by omega⟩
theorem SmA.take {W D : Nat} {a : List PyData} (h : SmA W D a) (n : Nat) : SmA W D (a.take n) := by
  rw [← List.take_append_drop n a] at h
  exact h.left
theorem SmA.drop {W D : Nat} {a : List PyData} (h : SmA W D a) (n : Nat) : SmA W D (a.drop n) := by
  rw [← List.take_append_drop n a] at h
  exact h.right
theorem SmA.one {W D : Nat} {d : PyData} (h : Sm W D d) : SmA (W + 1) D [d] := by
  refine ⟨fun x hx => ?_, ?_, ?_⟩
  · rw [List.mem_singleton.mp hx]
    exact h.nr
  · rw [w_cons, w_nil]
    have := h.wt
    omega
  · rw [d_cons, d_nil]
    have := h.de
    omega
theorem SmA.nil (W D : Nat) : SmA W D [] := ⟨fun _ h => absurd h List.not_mem_nil, by rw [w_nil]; exact Nat.zero_le _, by rw [d_nil]; exact Nat.zero_le _⟩
theorem SmA.mono {W D W' D' : Nat} {a : List PyData} (h : SmA W D a) (h1 : W ≤ W') (h2 : D ≤ D') : SmA W' D' a := ⟨h.nr, Nat.le_trans h.wt h1, Nat.le_trans h.de h2⟩
theorem SmA.at {W D : Nat} {a : List PyData} {i : Nat} {d : PyData} (h : SmA W D a) (e : a[i]? = some d) : Sm W D d := by
  obtain ⟨hi, e⟩ := List.getElem?_eq_some_iff.mp e
  have s : a = a.take i ++ (d :: a.drop (i + 1)) := by
    rw [← e, List.getElem_cons_drop, List.take_append_drop]
  rw [s] at h
  obtain ⟨x, y, z⟩ := h.right
  rw [w_cons] at y
  rw [d_cons] at z
  exact ⟨x d List.mem_cons_self, by omega, by omega⟩
/-- one part in the place of another -/
theorem SmA.put {W D C : Nat} {a : List PyData} {i : Nat} {d e : PyData} (h : SmA W D a) (hd : a[i]? = some d) (k : Nr e) (kw : e.weight ≤ 2 * d.weight + C) (kd : e.depth ≤ d.depth + 2) : SmA (2 * W + C) (D + 2) (a.take i ++ [e] ++ a.drop (i + 1)) := by
  obtain ⟨hi, hd⟩ := List.getElem?_eq_some_iff.mp hd
  have s : a = a.take i ++ (d :: a.drop (i + 1)) := by
    rw [← hd, List.getElem_cons_drop, List.take_append_drop]
  have h2 := h
  rw [s] at h2
  obtain ⟨x, y, z⟩ := h2
  rw [w_app, w_cons] at y
  rw [d_app, d_cons] at z
  refine ⟨fun q hq => ?_, ?_, ?_⟩
  · rw [List.append_assoc] at hq
    rcases List.mem_append.mp hq with hq | hq
    · exact x q (List.mem_append.mpr (.inl hq))
    · rcases List.mem_append.mp hq with hq | hq
      · rw [List.mem_singleton.mp hq]
        exact k
      · exact x q (List.mem_append.mpr (.inr (List.mem_cons_of_mem _ hq)))
  · rw [w_app, w_app, w_cons, w_nil]
    omega
  · rw [d_app, d_app, d_cons, d_nil]
    omega
/-- what stands in the place of d: at most twice as heavy, two deeper -/
structure Near (d e : PyData) : Prop where
  nr : Nr e
  wt : e.weight ≤ 2 * d.weight + 110
  de : e.depth ≤ d.depth + 2
theorem Near.sm {W D : Nat} {d e : PyData} (h : Near d e) (k : Sm W D d) : Sm (2 * W + 110) (D + 2) e := ⟨h.nr, by have := h.wt; have := k.wt; omega, by have := h.de; have := k.de; omega⟩
theorem Near.put {a : List PyData} {i : Nat} {d e : PyData} (h : ∀ x ∈ a, Nr x) (hd : a[i]? = some d) (k : Near d e) : Near (.tuple a) (.tuple (a.take i ++ [e] ++ a.drop (i + 1))) := by
  have q := SmA.put (W := PyData.weightAll a) (D := PyData.depthAll a) (C := 110) ⟨h, Nat.le_refl _, Nat.le_refl _⟩ hd k.nr k.wt k.de
  refine ⟨.tup _ q.nr, ?_, ?_⟩
  · rw [PyData.weight, PyData.weight]
    exact q.wt
  · rw [PyData.depth, PyData.depth]
    have := q.de
    omega
/-- the heap without some objects -/
def del (S : Addr → Bool) (H : Hp) : Hp := fun b => if S b = true then none else H b
theorem del_sub (S : Addr → Bool) (H : Hp) : Same (del S H) H := fun b o h => by
  unfold del at h
  split at h
  · cases h
  · exact h
theorem del_but {S : Addr → Bool} {a : Addr} {H H' : Hp} (hS : S a = true) (h : But a H H') : Same (del S H) (del S H') := fun b o e => by
  unfold del at e ⊢
  split at e
  · cases e
  · rename_i n
    rw [if_neg n]
    exact h b o (fun z => n (by rw [z]; exact hS)) e
theorem del_same {S : Addr → Bool} {H H' : Hp} (h : Same H H') : Same (del S H) (del S H') := fun b o e => by
  unfold del at e ⊢
  split at e
  · cases e
  · rename_i n
    rw [if_neg n]
    exact h b o e
theorem del_at {S : Addr → Bool} {b : Addr} {H : Hp} {o : HO} (n : S b = false) (h : H b = some o) : del S H b = some o := by
  unfold del
  rw [if_neg (by rw [n]; exact Bool.false_ne_true)]
  exact h
/-- those objects are there -/
def Live (S : Addr → Bool) (H : Hp) : Prop := ∀ b, S b = true → H b ≠ none
theorem Live.same {S : Addr → Bool} {H H' : Hp} (l : Live S H) (s : Same H H') : Live S H' := fun b h => by
  cases e : H b with
  | none => exact absurd e (l b h)
  | some o =>
    rw [s b o e]
    exact fun z => nomatch z
theorem Live.but {S : Addr → Bool} {a : Addr} {H H' : Hp} (l : Live S H) (s : But a H H') (n : H' a ≠ none) : Live S H' := fun b h => by
  by_cases c : b = a
  · rw [c]
    exact n
  cases e : H b with
  | none => exact absurd e (l b h)
  | some o =>
    rw [s b o c e]
    exact fun z => nomatch z
theorem Live.new {S : Addr → Bool} {H : Hp} {p : Addr} (l : Live S H) (n : H p = none) : S p = false := by
  cases e : S p with
  | false => rfl
  | true => exact absurd n (l p e)
theorem pot_live {S : Addr → Bool} {H H' : Hp} {a : Addr} {b : Nat} (l : Live S H) (s : But a H H') (p : PotAt H' a b) : Live S H' := l.but s (by
  obtain ⟨_, _, _, e, _⟩ := p
  rw [e]
  exact fun z => nomatch z)
/-- a value that is data, those objects apart -/
def Off (K : PySem.W.Frag) (S : Addr → Bool) (H : Hp) (v : V) (d : PyData) : Prop := Dt K (del S H) v d
theorem Off.dt {K : PySem.W.Frag} {S : Addr → Bool} {H : Hp} {v : V} {d : PyData} (h : Off K S H v d) : Dt K H v d := Dt.same (del_sub S H) h
theorem Off.but {K : PySem.W.Frag} {S : Addr → Bool} {a : Addr} {H H' : Hp} {v : V} {d : PyData} (h : Off K S H v d) (hS : S a = true) (b : But a H H') : Off K S H' v d := Dt.same (del_but hS b) h
theorem Off.same {K : PySem.W.Frag} {S : Addr → Bool} {H H' : Hp} {v : V} {d : PyData} (h : Off K S H v d) (b : Same H H') : Off K S H' v d := Dt.same (del_same b) h
/-- upper() of an ASCII text -/
theorem asc_upper {s : Str} (h : Asc s) : Asc (Txt.upper s) ∧ (Txt.upper s).length = s.length := by
  rw [PyProof.Rows.upper_ascii h]
  refine ⟨fun c hc => ?_, ?_⟩
  · have hc : c ∈ (s.cps.map PyProof.Rows.up1).toList := hc
    rw [Array.toList_map] at hc
    obtain ⟨b, hb, rfl⟩ := List.mem_map.mp hc
    have := h b hb
    unfold PyProof.Rows.up1
    split <;> omega
  · show (s.cps.map PyProof.Rows.up1).size = s.cps.size
    rw [Array.size_map]
theorem asc_app {a b : Str} (h : Asc a) (k : Asc b) : Asc (a ++ b) := fun c hc => by
  rw [app_cps] at hc
  exact (List.mem_append.mp hc).elim (h c) (k c)
theorem asc_nm {s : Str} (h : NmOk s) : Asc s := fun c hc => by
  have := h.low c hc
  unfold Low at this
  omega
theorem Nr.strOk {s : Str} (h : Asc s) : PyData.strOk s = true := by
  unfold PyData.strOk
  rw [Array.all_eq_true]
  intro i hi
  have := h s.cps[i] (by rw [Array.mem_toList_iff]; exact Array.getElem_mem hi)
  simp
  omega
end WT

set_option Elab.async false
set_option linter.all false
set_option maxRecDepth 100000
set_option maxHeartbeats 4000000
/-! slices, sums, reverses of tuples of data; lists of candidates. -/
namespace WT
open PySem PySem.Spec PyProof.Rows L2
theorem fm_congr {α β : Type} {f g : α → Option β} : ∀ {l : List α}, (∀ x ∈ l, f x = g x) → l.filterMap f = l.filterMap g
  | [], _ => rfl
  | x :: l, h => by
    have e := h x List.mem_cons_self
    have t := fm_congr (l := l) fun y hy => h y (List.mem_cons_of_mem _ hy)
    rw [List.filterMap_cons, List.filterMap_cons, e, t]
theorem step_rev {α : Type} (xs : List α) : stepL xs none none (-1) = xs.reverse := by
  have h := pick_all xs.reverse
  have e : Builtin.Slice.slicePlaces (Builtin.Slice.sliceAdjust none none (-1) (xs.length : Int)).1 (Builtin.Slice.sliceAdjust none none (-1) (xs.length : Int)).2 (-1) = xs.reverse.length := by
    rw [List.length_reverse]
    unfold Builtin.Slice.slicePlaces Builtin.Slice.sliceAdjust
    simp
    try split <;> omega
    try omega
  unfold stepL
  rw [e]
  refine Eq.trans ?_ h
  rw [List.length_reverse]
  have q : (Builtin.Slice.sliceAdjust none none (-1) (xs.length : Int)).1 = (xs.length : Int) - 1 := by
    unfold Builtin.Slice.sliceAdjust
    simp
    try omega
  rw [q]
  refine fm_congr fun m hm => ?_
  have hm := List.mem_range.mp hm
  rw [List.getElem?_reverse hm]
  congr 1
  omega
section
variable {K : PySem.W.Frag} {H : Hp}
theorem dt_app : ∀ {xs ys : List V} {ds es : List PyData}, DtAll K H xs ds → DtAll K H ys es → DtAll K H (xs ++ ys) (ds ++ es)
  | [], _, _, _, .nil, k => k
  | _ :: _, _, _, _, .cons h t, k => .cons h (dt_app t k)
theorem dt_rev : ∀ {xs : List V} {ds : List PyData}, DtAll K H xs ds → DtAll K H xs.reverse ds.reverse
  | [], _, .nil => .nil
  | _ :: _, _, .cons h t => by
    rw [List.reverse_cons, List.reverse_cons]
    exact dt_app (dt_rev t) (.cons h .nil)
theorem dt_drop : ∀ {xs : List V} {ds : List PyData} (n : Nat), DtAll K H xs ds → DtAll K H (xs.drop n) (ds.drop n)
  | _, _, 0, h => h
  | [], _, _ + 1, .nil => .nil
  | _ :: _, _, n + 1, .cons _ t => dt_drop n t
theorem dt_take : ∀ {xs : List V} {ds : List PyData} (n : Nat), DtAll K H xs ds → DtAll K H (xs.take n) (ds.take n)
  | _, _, 0, _ => .nil
  | [], _, _ + 1, .nil => .nil
  | _ :: _, _, n + 1, .cons h t => .cons h (dt_take n t)
end
/-- a part of data -/
def cutD (ds : List PyData) (lo hi : Option Int) : List PyData := (ds.drop (HT.sIx ds.length 0 lo)).take (HT.sIx ds.length ds.length hi - HT.sIx ds.length 0 lo)
theorem dt_cut {K : PySem.W.Frag} {H : Hp} {xs : List V} {ds : List PyData} (h : DtAll K H xs ds) (lo hi : Option Int) : DtAll K H (cutV xs lo hi) (cutD ds lo hi) := by
  unfold cutV cutD
  rw [← h.length]
  exact dt_take _ (dt_drop _ h)
theorem SmA.cut {W D : Nat} {ds : List PyData} (h : SmA W D ds) (lo hi : Option Int) : SmA W D (cutD ds lo hi) := (h.drop _).take _
theorem cutD_all {ds : List PyData} {lo hi : Option Int} (h : HT.sIx ds.length 0 lo = 0 ∧ HT.sIx ds.length ds.length hi = ds.length) : cutD ds lo hi = ds := by
  unfold cutD
  rw [h.1, h.2, List.drop_zero, Nat.sub_zero, List.take_length]
theorem cutV_all {ds : List V} {lo hi : Option Int} (h : HT.sIx ds.length 0 lo = 0 ∧ HT.sIx ds.length ds.length hi = ds.length) : cutV ds lo hi = ds := by
  unfold cutV
  rw [h.1, h.2, List.drop_zero, Nat.sub_zero, List.take_length]
/-- a tuple of data, some objects apart -/
structure TupD (K : PySem.W.Frag) (S : Addr → Bool) (H : Hp) (p : Addr) (xs : List V) (ds : List PyData) : Prop where
  sq : SqT K (del S H) p xs
  all : DtAll K (del S H) xs ds
section
variable {K : PySem.W.Frag} {S : Addr → Bool} {a : Addr} {H H' : Hp} {p : Addr} {xs : List V} {ds : List PyData}
theorem TupD.off (h : TupD K S H p xs ds) : Off K S H (.ref p) (.tuple ds) := .tup h.sq h.all
theorem TupD.st (h : TupD K S H p xs ds) : SqT K H p xs := sameT (del_sub S H) h.sq
theorem TupD.but (h : TupD K S H p xs ds) (hS : S a = true) (b : But a H H') : TupD K S H' p xs ds := ⟨sameT (del_but hS b) h.sq, DtAll.same (del_but hS b) h.all⟩
theorem TupD.same (h : TupD K S H p xs ds) (b : Same H H') : TupD K S H' p xs ds := ⟨sameT (del_same b) h.sq, DtAll.same (del_same b) h.all⟩
theorem TupD.new (lv : Live S H) (n : H p = none) (h : DtAll K (del S H) xs ds) : TupD K S (upd H p (.tup xs)) p xs ds :=
  ⟨SqT.of (del_at (lv.new n) upd_same), DtAll.same (del_same (same_new n)) h⟩
theorem off_tup {v : V} (h : Off K S H v (.tuple ds)) : ∃ p xs, v = .ref p ∧ TupD K S H p xs ds := by
  cases h with
  | tup h k => exact ⟨_, _, rfl, h, k⟩
theorem off_str {v : V} {s : Str} (h : Off K S H v (.str s)) : v = .str s := by
  cases h
  rfl
theorem off_lst (lv : Live S H) (n : H p = none) (h : DtAll K (del S H) xs ds) : Off K S (upd H p (.lst xs)) (.ref p) (.list ds) :=
  .lst (SqL.of (del_at (lv.new n) upd_same)) (DtAll.same (del_same (same_new n)) h)
theorem off_dic (lv : Live S H) (n : H p = none) : Off K S (upd H p (.dK [])) (.ref p) (.dict []) :=
  .dic (kvs := []) (ds := []) (Rd.of (del_at (lv.new n) upd_same)) .nil
/-- value[lo:hi] of a tuple -/
theorem sl_any {lo hi : Option Int} {Q : VK} (lv : Live S H) (h : TupD K S H p xs ds) (k : ∀ q H', Same H H' → TupD K S H' q (cutV xs lo hi) (cutD ds lo hi) → Q (.ref q) H') : rSlA K (.ref p) lo hi H Q := by
  refine ⟨p, xs, rfl, h.st, fun c => ?_, fun _ q n => k q _ (same_new n) (.new lv n (dt_cut h.all lo hi))⟩
  refine k p H (fun _ _ e => e) ?_
  rw [cutV_all c, cutD_all (by rw [← h.all.length]; exact c)]
  exact h
theorem sl_lo {σ : L2.St} {lo : Option Int} {Q : VK} (lv : Live S H) (h : TupD K S H p xs ds) (k : ∀ q H', Same H H' → TupD K S H' q (cutV xs lo none) (cutD ds lo none) → Q (.ref q) H') : tNoPart σ H (fun u H3 => rSlA K (.ref p) lo u H3 Q) := sl_any lv h k
/-- one tuple and another -/
theorem cat_any {q : Addr} {ys : List V} {es : List PyData} {Q : VK} (lv : Live S H) (h : TupD K S H p xs ds) (g : TupD K S H q ys es) (hz : xs.length + ys.length ≤ sizeLine) (k : ∀ r H', Same H H' → TupD K S H' r (xs ++ ys) (ds ++ es) → Q (.ref r) H') : rCatA K (.ref p) (.ref q) H Q := by
  refine ⟨p, q, xs, ys, rfl, rfl, h.st, g.st, hz, fun e => ?_, fun _ e => ?_, fun _ _ r n => k r _ (same_new n) (.new lv n (dt_app h.all g.all))⟩
  · subst e
    have := h.all
    cases this
    exact k q H (fun _ _ e => e) g
  · subst e
    have := g.all
    cases this
    refine k p H (fun _ _ e => e) ?_
    rw [List.append_nil, List.append_nil]
    exact h
/-- each of these may stand in the place of d -/
def Cand (K : PySem.W.Frag) (S : Addr → Bool) (H : Hp) (d : PyData) (xs : List V) : Prop := ∀ x ∈ xs, ∃ e, Off K S H x e ∧ Near d e
theorem Cand.but {d : PyData} {xs : List V} (h : Cand K S H d xs) (hS : S a = true) (b : But a H H') : Cand K S H' d xs := fun x hx => by
  obtain ⟨e, h1, h2⟩ := h x hx
  exact ⟨e, h1.but hS b, h2⟩
theorem Cand.same {d : PyData} {xs : List V} (h : Cand K S H d xs) (b : Same H H') : Cand K S H' d xs := fun x hx => by
  obtain ⟨e, h1, h2⟩ := h x hx
  exact ⟨e, h1.same b, h2⟩
theorem Cand.nil {d : PyData} : Cand K S H d [] := fun x hx => absurd hx List.not_mem_nil
theorem Cand.cons {d e : PyData} {x : V} {xs : List V} (h1 : Off K S H x e) (h2 : Near d e) (h : Cand K S H d xs) : Cand K S H d (x :: xs) := fun y hy => by
  rcases List.mem_cons.mp hy with rfl | hy
  · exact ⟨e, h1, h2⟩
  · exact h y hy
theorem Cand.app {d : PyData} {xs ys : List V} (h : Cand K S H d xs) (k : Cand K S H d ys) : Cand K S H d (xs ++ ys) := fun y hy => (List.mem_append.mp hy).elim (h y) (k y)
theorem Cand.rep {d : PyData} {xs : List V} (n : Nat) (h : Cand K S H d xs) : Cand K S H d (List.replicate n xs).flatten := fun y hy => by
  obtain ⟨l, hl, hy⟩ := List.mem_flatten.mp hy
  rw [(List.mem_replicate.mp hl).2] at hy
  exact h y hy
end
theorem asc_cut {s : Str} (lo hi : Option Int) (h : Asc s) : Asc (cutS s lo hi) ∧ (cutS s lo hi).length ≤ s.length :=
  ⟨fun c hc => h c (List.mem_of_mem_drop (List.mem_of_mem_take (by
    have hc : c ∈ (((s.cps.toList.drop (HT.sIx s.length 0 lo)).take (HT.sIx s.length s.length hi - HT.sIx s.length 0 lo)).toArray).toList := hc
    rw [List.toList_toArray] at hc
    exact hc))), cutS_length s lo hi⟩
theorem near_small {d e : PyData} (h : Sm 110 2 e) : Near d e := ⟨h.nr, by have := h.wt; omega, by have := h.de; omega⟩
/-- parts of a tuple near it -/
theorem near_tup {ds es : List PyData} (h : SmA (2 * PyData.weightAll ds + 110) (PyData.depthAll ds + 2) es) : Near (.tuple ds) (.tuple es) := ⟨.tup _ h.nr, by rw [PyData.weight, PyData.weight]; exact h.wt, by rw [PyData.depth, PyData.depth]; have := h.de; omega⟩
theorem near_lst {ds es : List PyData} (h : SmA (2 * PyData.weightAll ds + 110) (PyData.depthAll ds + 2) es) : Near (.tuple ds) (.list es) := ⟨.lst _ h.nr, by rw [PyData.weight, PyData.weight]; exact h.wt, by rw [PyData.depth, PyData.depth]; have := h.de; omega⟩
theorem near_txt {s t : Str} (h : Asc t) (k : t.length ≤ s.length + 1) : Near (.str s) (.str t) := ⟨.str _ h, by rw [PyData.weight, PyData.weight]; have : t.cps.size ≤ s.cps.size + 1 := k; omega, by rw [PyData.depth, PyData.depth]; omega⟩
/-- a tuple of anything != () -/
def rNe0 (K : PySem.W.Frag) : R2 := fun x y H Q => ∃ (a b : Addr) (xs : List V), x = .ref a ∧ y = .ref b ∧ SqT K H a xs ∧ SqT K H b [] ∧ Q (.bl (!xs.isEmpty)) H
theorem op_ne0 {X : Cx} {K : PySem.W.Frag} (hu : X.A.units + 64 < cLine) (hK : X.K = K := by rfl) : OpR X (compareOp .NotEq) (rNe0 K) := by
  subst hK
  intro pins s σ H x y v u Q I rx ry h
  obtain ⟨a, b, xs, rfl, rfl, ha, hb, q⟩ := h
  cases rx
  cases ry
  obtain ⟨its, r1, pl, _⟩ := I.tuple ha
  obtain ⟨its2, r2, pl2, _⟩ := I.tuple hb
  cases r2
  have e := Vals.length r1
  refine SeqAt.RcNeAt.tuples (e := fun _ => true) pl pl2 (by omega) (fun j h1 h2 => absurd h2 (by simp)) _ _ _ _ ?_
  refine ⟨.bl _, H, I, rfl, ?_⟩
  cases xs with
  | nil =>
    cases r1
    exact q
  | cons x xs =>
    cases r1
    exact q
theorem cutD_left {ds : List PyData} {j : Nat} (h : j ≤ ds.length) : cutD ds none (some (j : Int)) = ds.take j := by
  unfold cutD
  rw [HT.sIx_none, HT.sIx_nat, List.drop_zero, Nat.sub_zero, Nat.min_eq_left h]
theorem cutD_right {ds : List PyData} {j : Nat} (h : j ≤ ds.length) : cutD ds (some (j : Int)) none = ds.drop j := by
  unfold cutD
  rw [HT.sIx_none, HT.sIx_nat, Nat.min_eq_left h]
  exact List.take_of_length_le (by rw [List.length_drop]; exact Nat.le_refl _)
theorem depth_at {ds : List PyData} {i : Nat} {d : PyData} (e : ds[i]? = some d) : d.depth ≤ PyData.depthAll ds ∧ d.weight + 1 ≤ PyData.weightAll ds := by
  obtain ⟨hi, e⟩ := List.getElem?_eq_some_iff.mp e
  have s : ds = ds.take i ++ (d :: ds.drop (i + 1)) := by
    rw [← e, List.getElem_cons_drop, List.take_append_drop]
  rw [s, w_app, d_app, w_cons, d_cons]
  omega
end WT

set_option Elab.async false
set_option linter.all false
set_option maxRecDepth 100000
set_option maxHeartbeats 4000000
/-! what values() of k07 needs: how many paths there are at most, the weight of a path, a list that grows. -/
namespace WT
open PySem PySem.Spec PyProof.Rows L2
theorem flat_len {α β : Type} {f : α → List β} {B : Nat} : ∀ {l : List α}, (∀ x ∈ l, (f x).length ≤ B) → (l.flatMap f).length ≤ l.length * B
  | [], _ => by simp
  | x :: l, h => by
    have a := h x List.mem_cons_self
    have b := flat_len (l := l) fun y hy => h y (List.mem_cons_of_mem _ hy)
    rw [List.flatMap_cons, List.length_append, List.length_cons, Nat.add_mul]
    omega
theorem kids_len0 {gs : List Gt} {bar : List Str} {one : Str} {B : Nat} (hB : ∀ g ∈ gs, g.2.1.length ≤ B + 1) (l : List (Str × Str)) : (kids gs bar one l).length ≤ gs.length * B := by
  unfold kids
  exact flat_len fun g hg => kidsOf_len (hB g hg) l
/-- a bound for all paths -/
def Few (rs : List Str) (gs : List Gt) : Prop := ∃ M D : Nat, (M + 1) ^ D ≤ 1000000 ∧ D ≤ 4 ∧ ∀ one ∈ rs, (∀ k, GoodP gs [] rs one k → k.length ≤ D) ∧ ∀ l, (kids gs [] one l).length ≤ M
theorem few_of {rs : List Str} {gs : List Gt} (h : rs.length ≤ 10 ∧ gs.length ≤ 3 ∨ rs.length ≤ 6 ∧ gs.length ≤ 4) (hm : ∀ g ∈ gs, g.2.1.length ≤ rs.length) : Few rs gs := by
  rcases h with ⟨hr, hg⟩ | ⟨hr, hg⟩
  · refine ⟨27, 3, by decide, by decide, fun one ho => ⟨fun k hk => Nat.le_trans hk.lenG hg, fun l => Nat.le_trans (kids_len0 (B := 9) (fun g h => Nat.le_trans (hm g h) hr) l) ?_⟩⟩
    omega
  · refine ⟨20, 4, by decide, by decide, fun one ho => ⟨fun k hk => Nat.le_trans hk.lenG hg, fun l => Nat.le_trans (kids_len0 (B := 5) (fun g h => Nat.le_trans (hm g h) hr) l) ?_⟩⟩
    omega
theorem strs_sm : ∀ {ss : List Str}, (∀ s ∈ ss, NmOk s) → SmA (9 * ss.length) 0 (ss.map PyData.str)
  | [], _ => .nil _ _
  | s :: ss, h => by
    have a : Sm 8 0 (.str s) := ⟨.str _ (asc_nm (h s List.mem_cons_self)), by rw [PyData.weight]; exact (h s List.mem_cons_self).len, by rw [PyData.depth]; exact Nat.le_refl _⟩
    have b := strs_sm (ss := ss) fun y hy => h y (List.mem_cons_of_mem _ hy)
    exact ((SmA.one a).app b).mono (by rw [List.length_cons]; omega) (Nat.le_refl _)
theorem dt_of_strs {K : PySem.W.Frag} {H : Hp} : ∀ ss : List Str, DtAll K H (ss.map V.str) (ss.map PyData.str)
  | [] => .nil
  | s :: ss => .cons (.str s) (dt_of_strs ss)
/-- the hand and the list that grows -/
def both (a F : Addr) : Addr → Bool := fun c => decide (c = a) || decide (c = F)
theorem both_l (a F : Addr) : both a F a = true := by
  unfold both
  simp
theorem both_r (a F : Addr) : both a F F = true := by
  unfold both
  simp
theorem both_no {a F p : Addr} (h1 : p ≠ a) (h2 : p ≠ F) : both a F p = false := by
  unfold both
  simp [h1, h2]
theorem both_live {a F : Addr} {H : Hp} {o u : HO} (h1 : H a = some o) (h2 : H F = some u) : Live (both a F) H := fun b h => by
  unfold both at h
  have : b = a ∨ b = F := by simpa using h
  rcases this with rfl | rfl
  · rw [h1]
    exact fun z => nomatch z
  · rw [h2]
    exact fun z => nomatch z
/-- a list of small data, those objects apart -/
def Vd (K : PySem.W.Frag) (S : Addr → Bool) (H : Hp) (xs : List V) : Prop := ∀ x ∈ xs, ∃ e, Off K S H x e ∧ Sm 1000 6 e
section
variable {K : PySem.W.Frag} {S : Addr → Bool} {a : Addr} {H H' : Hp} {xs ys : List V}
theorem Vd.but (h : Vd K S H xs) (hS : S a = true) (b : But a H H') : Vd K S H' xs := fun x hx => by
  obtain ⟨e, h1, h2⟩ := h x hx
  exact ⟨e, h1.but hS b, h2⟩
theorem Vd.same (h : Vd K S H xs) (b : Same H H') : Vd K S H' xs := fun x hx => by
  obtain ⟨e, h1, h2⟩ := h x hx
  exact ⟨e, h1.same b, h2⟩
theorem Vd.upd {o : HO} (h : Vd K S H xs) (hS : S a = true) : Vd K S (upd H a o) xs := h.but hS But.upd
theorem Vd.nil : Vd K S H [] := fun x hx => absurd hx List.not_mem_nil
theorem Vd.cons {x : V} {e : PyData} (h1 : Off K S H x e) (h2 : Sm 1000 6 e) (h : Vd K S H xs) : Vd K S H (x :: xs) := fun y hy => by
  rcases List.mem_cons.mp hy with rfl | hy
  · exact ⟨e, h1, h2⟩
  · exact h y hy
theorem Vd.app (h : Vd K S H xs) (k : Vd K S H ys) : Vd K S H (xs ++ ys) := fun y hy => (List.mem_append.mp hy).elim (h y) (k y)
/-- a tuple that is neither -/
theorem tup_off {p : Addr} {zs : List V} {ds : List PyData} (n : S p = false) (h : H p = some (.tup zs)) (k : DtAll K (del S H) zs ds) : TupD K S H p zs ds := ⟨SqT.of (del_at n h), k⟩
end
end WT

set_option Elab.async false
set_option linter.all false
set_option maxRecDepth 100000
set_option maxHeartbeats 4000000
/-! all([..]) over any walk; slices of lists and of tuples; zip of two tuples in a comprehension; names, worlds of any data. -/
namespace WT
open PySem PySem.Spec PyProof.Rows L2
/-- a comprehension of booleans that changes nothing -/
theorem lc_bl {J : It} {n : Nat} {G : Hp → Prop} {Y : Nat → Hp → V → Hp → Prop} (w : Walk J n G Y) {g : TG} {tt : TT} {te : TE} {vs : List Nat} {σ : L2.St} {H1 : Hp} {D : Addr} {Qd : Hp → Prop} (bs : List Bool) (hl : bs.length = n) (hz : n ≤ 40000) (nD : H1 D = none) (hG : ∀ H, Same H1 H → G H)
    (hs : ∀ (i : Nat) (x : V) (b : Bool) (H2 H3 : Hp) (k : VK) (e : Hp → Prop), bs[i]? = some b → Same H1 H2 → Y i H2 x H3 → (∀ H4, Same H2 H4 → k (.bl b) H4) →
      g x (wipe σ vs) H3 fun σ2 H2 => wipe σ2 vs = wipe σ vs ∧ tt σ2 H2 fun t H3 => if t = true then te σ2 H3 k else e H3)
    (hd : ∀ H, Same H1 H → H D = some (.lst (bs.map V.bl)) → Qd H) :
    ∃ W : Nat → Nat → Hp → Prop, (∃ m, W 0 m (upd H1 D (.lst []))) ∧ ∀ i m H, W i m H →
      (J.stop i H ∧ Qd H) ∨ (J.go i H ∧ ∃ Nx : Hp → Prop, (∀ H', Nx H' → ∃ m', m' < m ∧ W (i + 1) m' H') ∧ ∀ x H', J.yld i H x H' → g x (wipe σ vs) H' fun σ2 H2 => wipe σ2 vs = wipe σ vs ∧ tt σ2 H2 fun b H3 =>
        if b = true then te σ2 H3 fun y H4 => ∃ acc, H4 D = some (.lst acc) ∧ acc.length < sizeLine ∧ Nx (upd H4 D (.lst (acc ++ [y]))) else Nx H3) := by
  refine lc_it w (fun m H => Same H1 H ∧ H D = some (.lst ((bs.take m).map V.bl))) ⟨same_new nD, upd_same⟩ (fun _ H _ h => hG H h.1) (fun i x H H' hi hP hy => ?_) fun H hP => ?_
  · obtain ⟨s2, hD⟩ := hP
    have hb : bs[i]? = some (bs[i]'(by omega)) := List.getElem?_eq_getElem _
    refine hs i x _ H H' _ _ hb s2 hy fun H4 s4 => ⟨_, s4 _ _ hD, ?_, fun c o ed => ?_, ?_⟩
    · rw [List.length_map, List.length_take]
      exact Nat.lt_of_le_of_lt (show min i bs.length ≤ 40000 by omega) (by decide)
    · rw [upd_ne (ne_of_none ed nD)]
      exact s4 _ _ (s2 _ _ ed)
    · rw [upd_same, List.take_add_one, hb, List.map_append]
      rfl
  · obtain ⟨s2, hD⟩ := hP
    rw [← hl, List.take_length] at hD
    exact hd H s2 hD
theorem walk_zipT {K : PySem.W.Frag} {a b : Addr} {xs ys : List V} {n : Nat} (hn : n = min xs.length ys.length) : Walk (RZ.ItzT K a b) n (fun H => SqT K H a xs ∧ SqT K H b ys) (YPair (fun i => xs[i]?) (fun i => ys[i]?)) := by
  subst hn
  refine ⟨fun i _ hi q => ?_, fun _ q => ⟨xs, ys, q.1, q.2, by omega⟩, fun i H v H' _ q y => ?_⟩
  · have h1 : i < xs.length := by omega
    have h2 : i < ys.length := by omega
    exact ⟨xs, ys, xs[i], ys[i], q.1, q.2, by simp [h1], by simp [h2]⟩
  · obtain ⟨T, x, z, h1, h2, h3, h4, h5⟩ := y
    exact ⟨T, x, z, h1, h2, h3, h4 xs q.1, h5 ys q.2⟩
def rSlTwo (K : PySem.W.Frag) : V → Option Int → Option Int → Hp → VK → Prop := fun x lo hi H Q => rSlL K x lo hi H Q ∨ rSlA K x lo hi H Q
theorem sl_two {X : Cx} {K : PySem.W.Frag} (hK : X.K = K := by rfl) : L2.SlR X (rSlTwo K) := by
  subst hK
  exact L2.SlR.or sl_list sl_tupA
theorem cut_one (ss : List Str) : cutV (ss.map V.str) (some 1) none = (ss.drop 1).map V.str := by
  cases ss with
  | nil => rfl
  | cons a ss =>
    unfold cutV
    rw [show (1 : Int) = ((1 : Nat) : Int) from rfl, HT.sIx_nat, HT.sIx_none, List.length_map, Nat.min_eq_left (by simp), ← List.map_drop]
    exact List.take_of_length_le (by rw [List.length_map, List.length_drop]; exact Nat.le_refl _)
/-- a NAME -/
def nmB (s : Str) : Bool := decide (1 ≤ s.cps.size ∧ s.cps.size ≤ 8) && (s.cps.toList.map fun c => decide (c ∈ alpha.cps.toList)).all id
def nmD : PyData → Bool
  | .str s => nmB s
  | _ => false
/-- each before the next -/
def adjB (ss : List Str) : Bool := ((ss.zip (ss.drop 1)).map fun p => decide (p.1.cps.toList < p.2.cps.toList)).all id
theorem adjB_iff (ss : List Str) : adjB ss = true ↔ AscS ss := by
  rw [← adj_asc]
  unfold adjB AdjS
  rw [List.all_map, List.all_eq_true]
  constructor
  · intro h i x y hx hy
    have : (x, y) ∈ ss.zip (ss.drop 1) := List.mem_of_getElem? (i := i) (by rw [List.getElem?_zip_eq_some]; exact ⟨hx, by rw [List.getElem?_drop, Nat.add_comm]; exact hy⟩)
    have b : x.cps.toList < y.cps.toList := of_decide_eq_true (h _ this)
    exact b
  · rintro h ⟨x, y⟩ hp
    obtain ⟨i, hi⟩ := List.getElem?_of_mem hp
    rw [List.getElem?_zip_eq_some] at hi
    have := hi.2
    rw [List.getElem?_drop, Nat.add_comm] at this
    have b : x.cps.toList < y.cps.toList := h i x y hi.1 this
    exact decide_eq_true b
/-- its texts -/
def txts (ds : List PyData) : List Str := ds.filterMap fun d => match d with
  | .str s => some s
  | _ => none
theorem txts_strs : ∀ ss : List Str, txts (ss.map PyData.str) = ss
  | [] => rfl
  | s :: ss => congrArg (s :: ·) (txts_strs ss)
theorem nm_strs : ∀ {ds : List PyData}, (ds.map nmD).all id = true → ∃ ss : List Str, ds = ss.map PyData.str ∧ ∀ s ∈ ss, nmB s = true
  | [], _ => ⟨[], rfl, fun s hs => by cases hs⟩
  | d :: ds, h => by
    rw [List.map_cons, List.all_cons, Bool.and_eq_true] at h
    obtain ⟨ss, rfl, k⟩ := nm_strs h.2
    cases d with
    | str s =>
      refine ⟨s :: ss, rfl, fun t ht => ?_⟩
      rcases List.mem_cons.mp ht with rfl | ht
      · exact h.1
      · exact k t ht
    | _ => exact absurd h.1 (by simp [nmD])
def regD : PyData → Bool
  | .tuple ds => decide (1 ≤ ds.length ∧ ds.length ≤ 10) && ((ds.map nmD).all id && adjB (txts ds))
  | _ => false
def memD (rs : List Str) : PyData → Bool
  | .tuple ds => decide (2 ≤ ds.length) && ((ds.map fun d => isIn d rs).all id && adjB (txts ds))
  | _ => false
def kinds2 : List Str := ["wrap", "open"]
def gatD (rs : List Str) : PyData → Bool
  | .tuple [n, m, k] => nmD n && (memD rs m && isIn k kinds2)
  | _ => false
def headD : PyData → PyData
  | .tuple (d :: _) => d
  | d => d
def gatsD (rs : List Str) : PyData → Bool
  | .tuple ds => decide (ds.length ≤ 10) && ((ds.map (gatD rs)).all id && adjB (txts (ds.map headD)))
  | _ => false
def partsD : PyData → List PyData
  | .tuple ds => ds
  | _ => []
def wldD : PyData → Bool
  | .tuple [r, g] => regD r && gatsD (txts (partsD r)) g
  | _ => false
end WT

set_option Elab.async false
set_option linter.all false
set_option maxRecDepth 100000
set_option maxHeartbeats 4000000
/-! a law's own way to say what a name, ascending names and a world are, and that it is the same. -/
namespace WT
open PySem PySem.Spec PyProof.Rows L2
theorem eqvA_strs : ∀ (a b : List Str), PyData.eqvAll (a.map PyData.str) (b.map PyData.str) = decide (a = b)
  | [], [] => by decide +kernel
  | [], _ :: _ => by
    rw [List.map_nil, List.map_cons, PyData.eqvAll]
    rfl
  | _ :: _, [] => by
    rw [List.map_nil, List.map_cons, PyData.eqvAll]
    rfl
  | x :: a, y :: b => by
    rw [List.map_cons, List.map_cons, PyData.eqvAll, eqvA_strs a b, PyData.eqv]
    by_cases h : x = y
    · subst h
      by_cases k : a = b
      · subst k
        simp
      · simp [k]
    · rw [show (x == y) = false from beq_eq_false_iff_ne.mpr h]
      simp [h]
theorem eqv_strs (a b : List Str) : PyData.eqv (.list (a.map PyData.str)) (.list (b.map PyData.str)) = decide (a = b) := by
  rw [PyData.eqv, eqvA_strs]
theorem Bef.irr {x : Str} (h : Bef x x) : False := h.ne rfl
theorem asc_ext : ∀ {a b : List Str}, AscS a → AscS b → (∀ y, y ∈ a ↔ y ∈ b) → a = b
  | [], [], _, _, _ => rfl
  | [], y :: _, _, _, h => absurd ((h y).mpr List.mem_cons_self) List.not_mem_nil
  | x :: _, [], _, _, h => absurd ((h x).mp List.mem_cons_self) List.not_mem_nil
  | x :: a, y :: b, ha, hb, h => by
    obtain ⟨a1, a2⟩ := List.pairwise_cons.mp ha
    obtain ⟨b1, b2⟩ := List.pairwise_cons.mp hb
    have e : x = y := by
      rcases List.mem_cons.mp ((h x).mp List.mem_cons_self) with e | e
      · exact e
      · rcases List.mem_cons.mp ((h y).mpr List.mem_cons_self) with e2 | e2
        · exact e2.symm
        · exact ((b1 x e).trans (a1 y e2)).irr.elim
    subst e
    have t : a = b := asc_ext a2 b2 fun y => by
      constructor
      · intro hy
        rcases List.mem_cons.mp ((h y).mp (List.mem_cons_of_mem _ hy)) with e | e
        · subst e
          exact ((a1 y hy).irr).elim
        · exact e
      · intro hy
        rcases List.mem_cons.mp ((h y).mpr (List.mem_cons_of_mem _ hy)) with e | e
        · subst e
          exact ((b1 y hy).irr).elim
        · exact e
    rw [t]
theorem sub_len : ∀ {a b : List Str}, a.Nodup → (∀ y ∈ a, y ∈ b) → a.length ≤ b.length
  | [], _, _, _ => Nat.zero_le _
  | x :: a, b, nd, h => by
    obtain ⟨n1, n2⟩ := List.nodup_cons.mp nd
    have hx := h x List.mem_cons_self
    have k : ∀ y ∈ a, y ∈ b.erase x := fun y hy => (List.mem_erase_of_ne fun e => n1 (by rw [← e]; exact hy)).mpr (h y (List.mem_cons_of_mem _ hy))
    have := sub_len n2 k
    rw [List.length_erase_of_mem hx] at this
    have p := List.length_pos_of_mem hx
    rw [List.length_cons]
    omega
/-- xs == sorted(set(xs)) -/
theorem srt_eq {ss zs : List Str} (h : sortedS zs = true) (nd : zs.Nodup) (e : ∀ y, y ∈ zs ↔ y ∈ ss) : PyData.eqv (.list (ss.map PyData.str)) (.list (zs.map PyData.str)) = adjB ss := by
  rw [eqv_strs]
  have az := asc_of h nd
  cases c : adjB ss with
  | true => exact decide_eq_true (asc_ext ((adjB_iff ss).mp c) az fun y => (e y).symm)
  | false =>
    refine decide_eq_false fun z => ?_
    subst z
    rw [(adjB_iff ss).mpr az] at c
    cases c
theorem nm_asc {s : Str} (h : nmB s = true) : Asc s := fun c hc => by
  unfold nmB at h
  rw [Bool.and_eq_true, List.all_map, List.all_eq_true] at h
  have k : c ∈ alpha.cps.toList := of_decide_eq_true (h.2 c hc)
  have all : ∀ c ∈ alpha.cps.toList, c < 128 := by decide +kernel
  exact all c k
theorem nm_ok {s : Str} (h : nmB s = true) : PyData.strOk s = true := Nr.strOk (nm_asc h)
/-- so many ascending names -/
def namD (lo hi : Nat) : PyData → Bool
  | .tuple ds => decide (lo ≤ ds.length ∧ ds.length ≤ hi) && ((ds.map nmD).all id && adjB (txts ds))
  | _ => false
theorem namD_reg (d : PyData) : namD 1 10 d = regD d := by
  cases d <;> rfl
/-- a gateway as the law sees it -/
def gatL (rs : List Str) : PyData → Bool
  | .tuple [n, m, k] => nmD n && (namD 2 10 m && ((partsD m).map fun d => isIn d rs).all id) && (isTxt k && isIn k kinds2)
  | _ => false
theorem isIn_txt {d : PyData} {ss : List Str} (h : isIn d ss = true) : isTxt d = true := by
  cases d <;> first | rfl | cases h
theorem nam_mem {rs : List Str} (hn : ∀ s ∈ rs, nmB s = true) (hl : rs.length ≤ 10) (m : PyData) : (namD 2 10 m && ((partsD m).map fun d => isIn d rs).all id) = memD rs m := by
  cases m with
  | tuple ds =>
    show (namD 2 10 (.tuple ds) && (ds.map fun d => isIn d rs).all id) = (decide (2 ≤ ds.length) && ((ds.map fun d => isIn d rs).all id && adjB (txts ds)))
    cases c : (ds.map fun d => isIn d rs).all id with
    | false => simp
    | true =>
      obtain ⟨ss, rfl, hin⟩ := (all_in_iff ds).mp c
      show ((decide (2 ≤ (ss.map PyData.str).length ∧ (ss.map PyData.str).length ≤ 10) && (((ss.map PyData.str).map nmD).all id && adjB (txts (ss.map PyData.str)))) && true) = _
      rw [txts_strs, Bool.and_true, Bool.true_and, List.length_map]
      have a : ((ss.map PyData.str).map nmD).all id = true := by
        rw [List.map_map, List.all_map, List.all_eq_true]
        exact fun s hs => hn s (hin s hs)
      rw [a, Bool.true_and]
      cases k : adjB ss with
      | false => simp
      | true =>
        have := sub_len ((adjB_iff ss).mp k).nodup hin
        by_cases g : 2 ≤ ss.length
        · rw [decide_eq_true g, decide_eq_true (show 2 ≤ ss.length ∧ ss.length ≤ 10 by omega)]
        · rw [decide_eq_false g, decide_eq_false (fun z => g z.1)]
  | _ => rfl
theorem gatL_eq {rs : List Str} (hn : ∀ s ∈ rs, nmB s = true) (hl : rs.length ≤ 10) (d : PyData) : gatL rs d = gatD rs d := by
  match d with
  | .tuple [n, m, k] =>
    show (nmD n && (namD 2 10 m && ((partsD m).map fun d => isIn d rs).all id) && (isTxt k && isIn k kinds2)) = (nmD n && (memD rs m && isIn k kinds2))
    rw [nam_mem hn hl, Bool.and_assoc]
    cases c : isIn k kinds2 with
    | true => rw [isIn_txt c]; rfl
    | false => rw [Bool.and_false]
  | .tuple [] => rfl
  | .tuple [_] => rfl
  | .tuple [_, _] => rfl
  | .tuple (_ :: _ :: _ :: _ :: _) => rfl
  | .none => rfl
  | .bool _ => rfl
  | .int _ => rfl
  | .str _ => rfl
  | .list _ => rfl
  | .dict _ => rfl
end WT

set_option Elab.async false
set_option linter.all false
set_option maxRecDepth 100000
set_option maxHeartbeats 1000000
/-! steps of any data, as the program says it by roles, and what that is word by word. -/
namespace WT
open PySem PySem.Spec PyProof.Rows L2
/-- the wrapping gateways -/
def wrapsW (gs : List Gt) : List Str := (gs.filter fun g : Gt => decide (g.2.2 = ("wrap" : Str))).map (·.1)
def isInt : PyData → Bool
  | .int _ => true
  | _ => false
def isBoo : PyData → Bool
  | .bool _ => true
  | _ => false
def isNum : PyData → Bool
  | .int _ => true
  | .bool _ => true
  | _ => false
theorem num_not_boo (d : PyData) : (isNum d && !isBoo d) = isInt d := by
  cases d <;> rfl
theorem kit_int : ∀ d : PyData, kitB (tyD d) "int" = some (isNum d)
  | .none => show kitB "NoneType" "int" = some false by decide +kernel
  | .bool _ => show kitB "bool" "int" = some true by decide +kernel
  | .int _ => show kitB "int" "int" = some true by decide +kernel
  | .str _ => show kitB "str" "int" = some false by decide +kernel
  | .list _ => show kitB "list" "int" = some false by decide +kernel
  | .tuple _ => show kitB "tuple" "int" = some false by decide +kernel
  | .dict _ => show kitB "dict" "int" = some false by decide +kernel
theorem kit_bool : ∀ d : PyData, kitB (tyD d) "bool" = some (isBoo d)
  | .none => show kitB "NoneType" "bool" = some false by decide +kernel
  | .bool _ => show kitB "bool" "bool" = some true by decide +kernel
  | .int _ => show kitB "int" "bool" = some false by decide +kernel
  | .str _ => show kitB "str" "bool" = some false by decide +kernel
  | .list _ => show kitB "list" "bool" = some false by decide +kernel
  | .tuple _ => show kitB "tuple" "bool" = some false by decide +kernel
  | .dict _ => show kitB "dict" "bool" = some false by decide +kernel
/-- a text other than root -/
def notRoot : PyData → Bool
  | .str s => !decide (s = ("root" : Str))
  | _ => true
/-- whether data plays a role -/
def partD (rs : List Str) (gs : List Gt) (role : Str) (d : PyData) : Bool :=
  if role = ("region" : Str) then isIn d rs else if role = ("gateway" : Str) then isIn d (gs.map (·.1)) else if role = ("wrapping" : Str) then isIn d (wrapsW gs)
  else if role = ("integer" : Str) then isInt d else if role = ("assigned" : Str) then nmD d && notRoot d else nmD d
section
variable {rs : List Str} {gs : List Gt} {d : PyData}
theorem part_region : partD rs gs "region" d = isIn d rs := by
  unfold partD
  rw [if_pos rfl]
theorem part_gateway : partD rs gs "gateway" d = isIn d (gs.map (·.1)) := by
  unfold partD
  rw [if_neg (by decide +kernel), if_pos rfl]
theorem part_wrapping : partD rs gs "wrapping" d = isIn d (wrapsW gs) := by
  unfold partD
  rw [if_neg (by decide +kernel), if_neg (by decide +kernel), if_pos rfl]
theorem part_integer : partD rs gs "integer" d = isInt d := by
  unfold partD
  rw [if_neg (by decide +kernel), if_neg (by decide +kernel), if_neg (by decide +kernel), if_pos rfl]
theorem part_assigned : partD rs gs "assigned" d = (nmD d && notRoot d) := by
  unfold partD
  rw [if_neg (by decide +kernel), if_neg (by decide +kernel), if_neg (by decide +kernel), if_neg (by decide +kernel), if_pos rfl]
theorem part_name : partD rs gs "name" d = nmD d := by
  unfold partD
  rw [if_neg (by decide +kernel), if_neg (by decide +kernel), if_neg (by decide +kernel), if_neg (by decide +kernel), if_neg (by decide +kernel)]
end
/-- the roles of the parts behind each word -/
def rolesL : List (Str × List Str) := [("new", ["region", "assigned"]), ("number", ["region", "assigned", "integer"]), ("drop", ["region", "assigned"]), ("enter", ["region", "assigned", "gateway", "region"]),
  ("put", ["region", "name", "name", "name"]), ("get", ["region", "name", "name", "assigned"]), ("same", ["region", "name", "name"]), ("revoke", ["wrapping"])]
def rolesOf (w : Str) : Option (List Str) := (rolesL.find? fun p => decide (p.1 = w)).map (·.2)
/-- whether the gateway leads from the one to the other -/
def leadsD (gs : List Gt) : List PyData → Bool
  | [.str r, _, .str g, .str s] => (gs.any fun x : Gt => decide (x.1 = g) && (decide (s ∈ x.2.1) && decide (r ∈ x.2.1))) && !decide (s = r)
  | _ => false
def stepD (rs : List Str) (gs : List Gt) : PyData → Bool
  | .tuple (.str w :: ds) => match rolesOf w with
    | none => false
    | some rl => decide (ds.length = rl.length) && (((rl.zip ds).map fun p => partD rs gs p.1 p.2).all id && (!decide (w = ("enter" : Str)) || leadsD gs ds))
  | _ => false
theorem step_cons {rs : List Str} {gs : List Gt} {w : Str} {ds : List PyData} {rl : List Str} (e : rolesOf w = some rl) :
    stepD rs gs (.tuple (.str w :: ds)) = (decide (ds.length = rl.length) && (((rl.zip ds).map fun p => partD rs gs p.1 p.2).all id && (!decide (w = ("enter" : Str)) || leadsD gs ds))) := by
  show (match rolesOf w with | none => false | some rl => _) = _
  rw [e]
theorem step_none {rs : List Str} {gs : List Gt} {w : Str} {ds : List PyData} (e : rolesOf w = none) : stepD rs gs (.tuple (.str w :: ds)) = false := by
  show (match rolesOf w with | none => false | some rl => _) = _
  rw [e]
theorem roles_none {w : Str} (h : ∀ p ∈ rolesL, p.1 ≠ w) : rolesOf w = none := by
  unfold rolesOf
  rw [List.find?_eq_none.mpr fun p hp => by simpa using h p hp]
  rfl
theorem step_short {rs : List Str} {gs : List Gt} {d : PyData} (h : ∀ (w : Str) (ds : List PyData), d ≠ .tuple (.str w :: ds)) : stepD rs gs d = false := by
  unfold stepD
  split
  · rename_i w ds
    exact absurd rfl (h w ds)
  · rfl
/-- only of the right length -/
theorem step_len {rs : List Str} {gs : List Gt} {w : Str} {ds : List PyData} {rl : List Str} (e : rolesOf w = some rl) (h : ds.length ≠ rl.length) : stepD rs gs (.tuple (.str w :: ds)) = false := by
  rw [step_cons e, decide_eq_false h, Bool.false_and]
section
variable {rs : List Str} {gs : List Gt} {a x y z : PyData} {w : Str}
theorem step_new : stepD rs gs (.tuple [.str "new", a, x]) = (isIn a rs && (nmD x && notRoot x)) := by
  rw [step_cons (rl := ["region", "assigned"]) (by decide +kernel)]
  simp only [List.zip_cons_cons, List.zip_nil_left, List.map_cons, List.map_nil, List.all_cons, List.all_nil, part_region, part_assigned, id, Bool.and_true, List.length_cons, List.length_nil]
  rw [decide_eq_false (show ¬ ("new" : Str) = "enter" by decide +kernel)]
  simp
theorem step_drop : stepD rs gs (.tuple [.str "drop", a, x]) = (isIn a rs && (nmD x && notRoot x)) := by
  rw [step_cons (rl := ["region", "assigned"]) (by decide +kernel)]
  simp only [List.zip_cons_cons, List.zip_nil_left, List.map_cons, List.map_nil, List.all_cons, List.all_nil, part_region, part_assigned, id, Bool.and_true, List.length_cons, List.length_nil]
  rw [decide_eq_false (show ¬ ("drop" : Str) = "enter" by decide +kernel)]
  simp
theorem step_number : stepD rs gs (.tuple [.str "number", a, x, y]) = (isIn a rs && ((nmD x && notRoot x) && isInt y)) := by
  rw [step_cons (rl := ["region", "assigned", "integer"]) (by decide +kernel)]
  simp only [List.zip_cons_cons, List.zip_nil_left, List.map_cons, List.map_nil, List.all_cons, List.all_nil, part_region, part_assigned, part_integer, id, Bool.and_true, List.length_cons, List.length_nil]
  rw [decide_eq_false (show ¬ ("number" : Str) = "enter" by decide +kernel)]
  simp
theorem step_same : stepD rs gs (.tuple [.str "same", a, x, y]) = (isIn a rs && (nmD x && nmD y)) := by
  rw [step_cons (rl := ["region", "name", "name"]) (by decide +kernel)]
  simp only [List.zip_cons_cons, List.zip_nil_left, List.map_cons, List.map_nil, List.all_cons, List.all_nil, part_region, part_name, id, Bool.and_true, List.length_cons, List.length_nil]
  rw [decide_eq_false (show ¬ ("same" : Str) = "enter" by decide +kernel)]
  simp
theorem step_put : stepD rs gs (.tuple [.str "put", a, x, y, z]) = (isIn a rs && (nmD x && (nmD y && nmD z))) := by
  rw [step_cons (rl := ["region", "name", "name", "name"]) (by decide +kernel)]
  simp only [List.zip_cons_cons, List.zip_nil_left, List.map_cons, List.map_nil, List.all_cons, List.all_nil, part_region, part_name, id, Bool.and_true, List.length_cons, List.length_nil]
  rw [decide_eq_false (show ¬ ("put" : Str) = "enter" by decide +kernel)]
  simp
theorem step_get : stepD rs gs (.tuple [.str "get", a, x, y, z]) = (isIn a rs && (nmD x && (nmD y && (nmD z && notRoot z)))) := by
  rw [step_cons (rl := ["region", "name", "name", "assigned"]) (by decide +kernel)]
  simp only [List.zip_cons_cons, List.zip_nil_left, List.map_cons, List.map_nil, List.all_cons, List.all_nil, part_region, part_name, part_assigned, id, Bool.and_true, List.length_cons, List.length_nil]
  rw [decide_eq_false (show ¬ ("get" : Str) = "enter" by decide +kernel)]
  simp
theorem step_enter : stepD rs gs (.tuple [.str "enter", a, x, y, z]) = (isIn a rs && ((nmD x && notRoot x) && (isIn y (gs.map (·.1)) && (isIn z rs && leadsD gs [a, x, y, z])))) := by
  rw [step_cons (rl := ["region", "assigned", "gateway", "region"]) (by decide +kernel)]
  simp only [List.zip_cons_cons, List.zip_nil_left, List.map_cons, List.map_nil, List.all_cons, List.all_nil, part_region, part_gateway, part_assigned, id, Bool.and_true, List.length_cons, List.length_nil]
  simp only [decide_true, Bool.true_and, Bool.not_true, Bool.false_or, Bool.and_assoc]
theorem step_revoke : stepD rs gs (.tuple [.str "revoke", a]) = isIn a (wrapsW gs) := by
  rw [step_cons (rl := ["wrapping"]) (by decide +kernel)]
  simp only [List.zip_cons_cons, List.zip_nil_left, List.map_cons, List.map_nil, List.all_cons, List.all_nil, part_wrapping, id, Bool.and_true, List.length_cons, List.length_nil]
  rw [decide_eq_false (show ¬ ("revoke" : Str) = "enter" by decide +kernel)]
  simp
end
/-- one gateway of each name -/
theorem any_one {gs : List Gt} (nd : (gs.map (·.1)).Nodup) {g : Gt} (hg : g ∈ gs) (f : Gt → Bool) : (gs.any fun x : Gt => decide (x.1 = g.1) && f x) = f g := by
  have u : ∀ {l : List Gt}, (l.map (·.1)).Nodup → ∀ x ∈ l, ∀ y ∈ l, x.1 = y.1 → x = y := by
    intro l
    induction l with
    | nil => intro _ x hx; cases hx
    | cons h t ih =>
      intro n x hx y hy e
      rw [List.map_cons, List.nodup_cons] at n
      rcases List.mem_cons.mp hx with ex | hx1
      · rcases List.mem_cons.mp hy with ey | hy1
        · rw [ex, ey]
        · exact absurd (List.mem_map.mpr ⟨y, hy1, by rw [← e, ex]⟩) n.1
      · rcases List.mem_cons.mp hy with ey | hy1
        · exact absurd (List.mem_map.mpr ⟨x, hx1, by rw [e, ey]⟩) n.1
        · exact ih n.2 x hx1 y hy1 e
  cases c : f g with
  | true => exact List.any_eq_true.mpr ⟨g, hg, by rw [c]; simp⟩
  | false =>
    refine List.any_eq_false.mpr fun x hx => ?_
    by_cases e : x.1 = g.1
    · rw [u nd x hx g hg e, c]
      simp
    · simp [e]
theorem mem_wraps {gs : List Gt} {s : Str} : s ∈ wrapsW gs ↔ ∃ g ∈ gs, g.2.2 = ("wrap" : Str) ∧ g.1 = s := by
  unfold wrapsW
  constructor
  · intro h
    obtain ⟨g, hg, e⟩ := List.mem_map.mp h
    obtain ⟨h1, h2⟩ := List.mem_filter.mp hg
    exact ⟨g, h1, of_decide_eq_true h2, e⟩
  · rintro ⟨g, h1, h2, h3⟩
    exact List.mem_map.mpr ⟨g, List.mem_filter.mpr ⟨h1, decide_eq_true h2⟩, h3⟩
end WT

set_option Elab.async false
set_option linter.all false
set_option maxRecDepth 100000
set_option maxHeartbeats 4000000
/-! Sets of nested tuples of texts, whole numbers and None: adding. -/
namespace WT
open PySem PySem.Spec PyProof.Rows L2
abbrev Rw := Addr × NestedKey
def rws (w : World) (M : List Rw) : List (Int × Value) := M.map fun q => (q.2.hash w, Value.ref q.1)
/-- such a tuple at a -/
def NT (h : Heap) (q : Rw) : Prop := NestedIs h q.2 (.ref q.1) ∧ q.2.depth ≤ 8
theorem NT.up {h h2 : Heap} {q : Rw} (x : NT h q) (k : ∀ b o vs n, h.get? b = some o → o.data = .seq vs n → h2.get? b = some o) : NT h2 q := ⟨NestedIs.at k _ _ x.1, x.2⟩
theorem NT.kd {P : Program} {w : World} {h : Heap} {q : Rw} (x : NT h q) : (nestedKind P w).is h q.2 q.1 := x
theorem NT.store {h h2 : Heap} {a : Addr} {ob : Obj} {en : Array (Int × Value)} {ec : Nat} {tb : SetTable} {q : Rw} (x : NT h q) (h0 : h.get? a = some ob) (hd : ob.data = .set en ec tb) (sb : Heap.SameBut a h h2) : NT h2 q := by
  refine x.up fun b o vs n e z => ?_
  rw [sb.2 b fun e2 : b = a => ?_]
  · exact e
  · rw [e2, h0] at e
    obtain rfl := Option.some.inj e
    rw [hd] at z
    exact nomatch z
section
variable {P : Program} {w : World}
/-- no class statement's doing -/
def NoCls (P : Program) (w : World) (n : Nat) (s : Shared) (v : Value) : Prop := ∀ (A : Around) (E : Value → Shared → Prop) (Z : Bool → Shared → Prop), Z false s → wpAny (model P w) A (ofAClassStatement n v) Z E s
theorem NoCls.plain {n : Nat} {s : Shared} {v : Value} (h : carriedByValue v = true) : NoCls P w n s v := fun A E Z z => by
  cases v with
  | ref a => exact absurd h Bool.false_ne_true
  | _ => cases n <;> exact wpAny_pure z
theorem NoCls.tuple {n : Nat} {s : Shared} {b : Addr} {o : Obj} {vs : Array Value} {m : Nat} (hg : s.heap.get? b = some o) (hc : o.cls = .type "tuple") (hd : o.data = .seq vs m) (q : ∀ v ∈ vs.toList, NoCls P w n s v) : NoCls P w (n + 1) s (.ref b) := fun A E Z z => by
  have hT : s.TypeIs (.ref b) "tuple" := ⟨o, hg, hc⟩
  unfold ofAClassStatement
  refine wpAny_bind (wpAny_typeOf hT ?_)
  dsimp only
  have e : (("tuple" : String) == "tuple") = true := by decide
  simp only [e, if_true, Bool.not_true, Bool.false_eq_true, if_false]
  try refine wpAny_bind (wpAny_pure ?_)
  try simp only [Bool.not_true, Bool.false_eq_true, if_false]
  show wpAny (model P w) A (seqItems? (.ref b) >>= _) Z E s
  refine wpAny_bind (wpAny_seqItems hg hd ?_)
  dsimp only
  refine wpAny_bind ?_
  show wpAny (model P w) A (forIn vs _ _) _ E s
  rw [← Array.forIn_toList]
  refine wpAny_forIn_list _ (fun rest r s2 => r.1 = none ∧ s2 = s ∧ ∀ v ∈ rest, NoCls P w n s v) _ ?_ ?_ _ _ ⟨rfl, rfl, q⟩
  · rintro v rest r s2 ⟨hr, rfl, hl⟩
    refine wpAny_bind (hl v List.mem_cons_self _ _ _ ?_)
    simp only [Bool.false_eq_true, if_false]
    exact wpAny_pure ⟨rfl, rfl, fun u hu => hl u (List.mem_cons_of_mem _ hu)⟩
  · rintro ⟨r1, r2⟩ s2 ⟨hr, rfl, _⟩
    simp only at hr
    subst hr
    exact wpAny_pure z
/-- whatever is said of how it is hashed -/
def AnyHb (P : Program) (w : World) (n : Nat) (s : Shared) (v : Value) : Prop := ∀ (A : Around) (E : Value → Shared → Prop) (Z : Bool → Shared → Prop), (∀ b, Z b s) → wpAny (model P w) A (hashByValue n v) Z E s
theorem AnyHb.plain {k : NestedKey} {n : Nat} {s : Shared} {v : Value} (hk : NestedIs s.heap k v) (h : carriedByValue v = true) : AnyHb P w n s v := fun A E Z z => by
  cases hk with
  | tup => exact absurd h Bool.false_ne_true
  | none => cases n <;> exact wpAny_pure (z _)
  | bool => cases n <;> exact wpAny_pure (z _)
  | int => cases n <;> exact wpAny_pure (z _)
  | text => cases n <;> exact wpAny_pure (z _)
theorem AnyHb.tuple {n : Nat} {s : Shared} {b : Addr} {o : Obj} {vs : Array Value} {m : Nat} (hg : s.heap.get? b = some o) (hc : o.cls = .type "tuple") (hd : o.data = .seq vs m) (q : ∀ v ∈ vs.toList, AnyHb P w n s v) : AnyHb P w (n + 1) s (.ref b) := fun A E Z z => by
  have hT : s.TypeIs (.ref b) "tuple" := ⟨o, hg, hc⟩
  unfold hashByValue
  refine wpAny_bind (wpAny_specialOf hT PySem.F.slot_tuple_hash.lookup ?_)
  show wpAny (model P w) A (seqItems? (.ref b) >>= _) Z E s
  refine wpAny_bind (wpAny_seqItems hg hd ?_)
  refine wpAny_bind ?_
  show wpAny (model P w) A (forIn vs _ _) _ E s
  rw [← Array.forIn_toList]
  refine wpAny_forIn_list _ (fun rest r s2 => r.1 = none ∧ s2 = s ∧ ∀ v ∈ rest, AnyHb P w n s v) _ ?_ ?_ _ _ ⟨rfl, rfl, q⟩
  · rintro v rest r s2 ⟨hr, rfl, hl⟩
    refine wpAny_bind (hl v List.mem_cons_self _ _ _ fun c => ?_)
    cases c
    · simp only [Bool.not_false, if_true]
      exact wpAny_pure (wpAny_pure (z _))
    · simp only [Bool.not_true, Bool.false_eq_true, if_false]
      exact wpAny_pure ⟨rfl, rfl, fun u hu => hl u (List.mem_cons_of_mem _ hu)⟩
  · rintro ⟨r1, r2⟩ s2 ⟨hr, rfl, _⟩
    simp only at hr
    subst hr
    exact wpAny_pure (z _)
mutual
theorem nocls : ∀ (k : NestedKey) (v : Value) (n : Nat) (s : Shared), NestedIs s.heap k v → k.depth ≤ n → NoCls P w n s v
  | .none, _, n, s, x, _ => by cases x; exact .plain rfl
  | .num i, _, n, s, x, _ => by cases x <;> exact .plain rfl
  | .text y, _, n, s, x, _ => by cases x; exact .plain rfl
  | .tup ks, _, n, s, x, hn => by
    cases x with
    | tup hg hc hd hk =>
      simp only [NestedKey.depth] at hn
      cases n with
      | zero => omega
      | succ n => exact .tuple hg hc hd (noclss ks _ n s hk (by omega))
theorem noclss : ∀ (ks : List NestedKey) (vs : List Value) (n : Nat) (s : Shared), NestedAll s.heap ks vs → NestedKey.depthAll ks ≤ n → ∀ v ∈ vs, NoCls P w n s v
  | [], _, n, s, x, _, v, hv => by cases x; cases hv
  | k :: ks, _, n, s, x, hn, v, hv => by
    cases x with
    | cons x1 x2 =>
      simp only [NestedKey.depthAll] at hn
      rcases List.mem_cons.mp hv with e | hv
      · rw [e]; exact nocls k _ n s x1 (by omega)
      · exact noclss ks _ n s x2 (by omega) v hv
end
mutual
theorem anyhb : ∀ (k : NestedKey) (v : Value) (n : Nat) (s : Shared), NestedIs s.heap k v → k.depth ≤ n → AnyHb P w n s v
  | .none, _, n, s, x, _ => by
    have y := x
    cases x
    exact .plain y rfl
  | .num i, _, n, s, x, _ => by
    have y := x
    cases x <;> exact .plain y rfl
  | .text z, _, n, s, x, _ => by
    have y := x
    cases x
    exact .plain y rfl
  | .tup ks, _, n, s, x, hn => by
    cases x with
    | tup hg hc hd hk =>
      simp only [NestedKey.depth] at hn
      cases n with
      | zero => omega
      | succ n => exact .tuple hg hc hd (anyhbs ks _ n s hk (by omega))
theorem anyhbs : ∀ (ks : List NestedKey) (vs : List Value) (n : Nat) (s : Shared), NestedAll s.heap ks vs → NestedKey.depthAll ks ≤ n → ∀ v ∈ vs, AnyHb P w n s v
  | [], _, n, s, x, _, v, hv => by cases x; cases hv
  | k :: ks, _, n, s, x, hn, v, hv => by
    cases x with
    | cons x1 x2 =>
      simp only [NestedKey.depthAll] at hn
      rcases List.mem_cons.mp hv with e | hv
      · rw [e]; exact anyhb k _ n s x1 (by omega)
      · exact anyhbs ks _ n s x2 (by omega) v hv
end
variable {A : Around} {E : Value → Shared → Prop} {s : Shared}
/-- a search among such tuples tells nothing -/
theorem unseen {q : Rw} (hq : NT s.heap q) {ys : List Value} (hy : ∀ y ∈ ys, ∃ r : Rw, y = Value.ref r.1 ∧ NT s.heap r) {Z : Bool → Shared → Prop} (z : Z false s) : wpAny (model P w) A (searchCouldBeSeen (.ref q.1) ys) Z E s := by
  unfold searchCouldBeSeen
  refine wpAny_bind ?_
  refine wpAny_forIn_list _ (fun rest r s2 => r.1 = none ∧ s2 = s ∧ ∀ y ∈ rest, ∃ r : Rw, y = Value.ref r.1 ∧ NT s.heap r) _ ?_ ?_ _ _ ⟨rfl, rfl, hy⟩
  · rintro v rest r s2 ⟨hr, rfl, hl⟩
    obtain ⟨c, rfl, hc⟩ := hl v List.mem_cons_self
    have more : ∀ y ∈ rest, ∃ r : Rw, y = Value.ref r.1 ∧ NT s2.heap r := fun u hu => hl u (List.mem_cons_of_mem _ hu)
    dsimp only
    by_cases g : (q.1 == c.1 || (carriedByValue (.ref q.1) && carriedByValue (.ref c.1))) = true
    · exact wp_if_pos g (wpAny_pure ⟨rfl, rfl, more⟩)
    · refine wp_if_neg g ?_
      refine wpAny_bind ((nestedKind P w).quiet hq.kd ?_)
      simp only [Bool.not_true, Bool.false_eq_true, if_false]
      refine wpAny_bind ((nestedKind P w).quiet hc.kd ?_)
      simp only [Bool.not_true, Bool.false_eq_true, if_false]
      refine wpAny_bind (nocls q.2 _ 8 s2 hq.1 hq.2 _ _ _ ?_)
      simp only [Bool.false_eq_true, if_false]
      refine wpAny_bind (nocls c.2 _ 8 s2 hc.1 hc.2 _ _ _ ?_)
      simp only [Bool.false_eq_true, if_false]
      exact wpAny_pure ⟨rfl, rfl, more⟩
  · rintro ⟨r1, r2⟩ s2 ⟨hr, rfl, _⟩
    simp only at hr
    subst hr
    exact wpAny_pure z
end
end WT

set_option Elab.async false
set_option linter.all false
set_option maxRecDepth 100000
set_option maxHeartbeats 4000000
/-! Sets of nested tuples: the search, adding one. -/
namespace WT
open PySem PySem.Spec PyProof.Rows L2
/-- the set at a has just the tuples M -/
structure KTab (w : World) (h : Heap) (a : Addr) (M : List Rw) (ob : Obj) (en : Array (Int × Value)) (ec : Nat) (tb : SetTable) : Prop where
  at_ : h.get? a = some ob
  ex : ob.ExactSet
  da : ob.data = .set en ec tb
  rows : en.toList = rws w M
  tab : TabOk tb (M.map fun q => q.2.hash w)
  nd : (M.map Prod.snd).Nodup
  all : ∀ q ∈ M, NT h q
  led : w.params.followText "set-order" = true ∨ tb.led = true
  room : M.length * 5 < tb.mask * 3
  few : M.length < 64
def KS (w : World) (h : Heap) (a : Addr) (M : List Rw) : Prop := ∃ ob en ec tb, KTab w h a M ob en ec tb
/-- the first step of a key's way -/
abbrev k0 (w : World) (m : Nat) (k : NestedKey) : SetTable.Probe := runAt m (SetTable.bits (k.hash w) % (m + 1)) (SetTable.bits (k.hash w))
theorem nth_nodummy (m : Nat) : ∀ (n : Nat) (p : SetTable.Probe), p.dummy = none → (nth m p n).dummy = none
  | 0, _, h => h
  | n + 1, p, h => nth_nodummy m n (adv m p) (by unfold adv; split <;> exact h)
section
variable {P : Program} {w : World} {A : Around} {E : Value → Shared → Prop} {s : Shared} {a : Addr} {M : List Rw} {ob : Obj} {en : Array (Int × Value)} {ec : Nat} {tb : SetTable}
theorem KTab.len (R : KTab w s.heap a M ob en ec tb) : en.size = M.length := by
  rw [← Array.length_toList, R.rows]
  exact List.length_map _
theorem KTab.psz (R : KTab w s.heap a M ob en ec tb) : tb.place.toList.length = M.length := by
  rw [Array.length_toList, R.tab.sz, List.length_map]
theorem KTab.fit (R : KTab w s.heap a M ob en ec tb) : tb.fits en.size = true := by
  have z1 := R.psz
  rw [Array.length_toList] at z1
  have z2 := R.len
  have z3 := R.room
  unfold SetTable.fits SetTable.fill
  rw [R.tab.dm, Bool.and_eq_true, beq_iff_eq, decide_eq_true_eq]
  exact ⟨by omega, by show tb.place.size + 0 ≤ tb.mask; omega⟩
theorem KTab.get (R : KTab w s.heap a M ob en ec tb) {i : Nat} {q : Rw} (h : M[i]? = some q) : en[i]? = some (q.2.hash w, Value.ref q.1) := by
  rw [← Array.getElem?_toList, R.rows]
  show (M.map _)[i]? = _
  rw [List.getElem?_map, h]
  rfl
theorem KTab.sound (R : KTab w s.heap a M ob en ec tb) : ¬ tb.gaveWay = true := by
  unfold SetTable.gaveWay
  rw [mask_odd R.tab.mok]
  exact by decide
theorem k_search (R : KTab w s.heap a M ob en ec tb) {x : Rw} (hx : NT s.heap x) (hu : A.units + 8 < cLine) {n : Nat} (nf : n < 10 * SetTable.turns tb.mask) (ne : way tb.mask (x.2.hash w) n ∉ tb.place.toList) (nb : ∀ c, c < n → way tb.mask (x.2.hash w) c ∈ tb.place.toList)
    {Z : SetFound → Shared → Prop} (yes : x.2 ∈ M.map Prod.snd → Z (.there none) s) (no : x.2 ∉ M.map Prod.snd → Z (.free (way tb.mask (x.2.hash w) n) false) s) :
    ∀ (f c : Nat) (st : Option SetTable.Probe), st.getD (tb.probeStart (x.2.hash w)) = nth tb.mask (k0 w tb.mask x.2) c → c ≤ n → n - c < f →
      (∀ (i : Nat) (q : Rw), M[i]? = some q → q.2 = x.2 → ∃ d, c ≤ d ∧ d < n ∧ tb.place.toList[i]? = some (way tb.mask (x.2.hash w) d)) →
      wpAny (model P w) A (setSearchFrom a (.ref x.1) (x.2.hash w) true f st) Z E s
  | 0, c, st, _, _, hf, _ => by omega
  | f + 1, c, st, es, hc, hf, hre => by
    rw [setSearchFrom_succ]
    refine wpAny_bind (wpAny_setState_of R.at_ R.da R.fit ?_)
    dsimp only
    refine wp_if_neg R.sound ?_
    try refine wpAny_bind (wpAny_pure ?_)
    have jump : ∀ d, nth tb.mask (nth tb.mask (k0 w tb.mask x.2) c) d = nth tb.mask (k0 w tb.mask x.2) (c + d) := fun d => (nth_add tb.mask c _ d).symm
    have jj : ∀ d, (nth tb.mask (nth tb.mask (k0 w tb.mask x.2) c) d).j = way tb.mask (x.2.hash w) (c + d) := fun d => by rw [jump]
    have lastj : (nth tb.mask (nth tb.mask (k0 w tb.mask x.2) c) (n - c)).j = way tb.mask (x.2.hash w) n := by rw [jj, show c + (n - c) = n by omega]
    have hat : ∀ (i : Nat) (q : Rw), M[i]? = some q → (en[i]?.map (·.1)).getD 0 = q.2.hash w := fun i q hq => by rw [R.get hq]; rfl
    -- one that is passed is not the key
    have pass : ∀ {i : Nat} {q : Rw} {d : Nat}, M[i]? = some q → q.2 = x.2 → d < n → c ≤ d → tb.place.toList[i]? = some (way tb.mask (x.2.hash w) d) →
        (∀ (k' i' : Nat), k' < d + 1 - c → tb.place.toList[i']? = some (nth tb.mask (nth tb.mask (k0 w tb.mask x.2) c) k').j → (en[i']?.map (·.1)).getD 0 ≠ x.2.hash w) → False := fun {i q d} h1 h2 h3 h4 h5 h6 => by
      refine h6 (d - c) i (by omega) ?_ ((hat i q h1).trans (by rw [h2]))
      rw [jj, show c + (d - c) = d by omega]
      exact h5
    rcases go_spec tb R.tab.ris R.tab.dm (fun i => (en[i]?.map (·.1)).getD 0) (x.2.hash w) (10 * SetTable.turns tb.mask) (n - c) _ (nth_nodummy _ c _ rfl) (by omega) (fun d hd => by rw [jj]; exact nb _ (by omega)) (by rw [lastj]; exact ne) with ⟨d, i, hd, hi, hh, hno, hp⟩ | ⟨hno, hp⟩
    · have hp2 : tb.probe (fun i => (en[i]?.map (·.1)).getD 0) (x.2.hash w) (st.getD (tb.probeStart (x.2.hash w))) = some (.candidate (way tb.mask (x.2.hash w) (c + d)) i (nth tb.mask (k0 w tb.mask x.2) (c + (d + 1)))) := by
        rw [es, ← jj, ← jump]
        exact hp
      rw [hp2]
      dsimp only
      rw [jj] at hi
      have il : i < M.length := by
        have := (List.getElem?_eq_some_iff.mp hi).1
        rw [R.psz] at this
        exact this
      obtain ⟨q, hq⟩ : ∃ q, M[i]? = some q := ⟨_, List.getElem?_eq_getElem il⟩
      have qm := List.mem_of_getElem? hq
      have go : wpAny (model P w) A (searchRest a (.ref x.1) (x.2.hash w) true f en tb (way tb.mask (x.2.hash w) (c + d)) i (nth tb.mask (k0 w tb.mask x.2) (c + (d + 1)))) Z E s := by
        unfold searchRest
        rw [R.get hq]
        dsimp only
        refine wpAny_bind (wpAny_holding ((nestedKind P w).eqBool hu (R.all q qm).kd hx.kd ?_))
        refine wpAny_bind (wpAny_setState_of R.at_ R.da R.fit ?_)
        dsimp only
        by_cases e : q.2 = x.2
        · exact wp_if_pos (by simp [e]) (wpAny_pure (yes (List.mem_map.mpr ⟨q, qm, e⟩)))
        · refine wp_if_neg (by simp [e]) ?_
          try refine wpAny_bind (wpAny_pure ?_)
          rw [sameMem]
          dsimp only
          have sl := slot_live R.tab.ris hi
          simp only [if_true, sl, R.get hq]
          refine wpAny_bind (wpAny_isSame_ref_self (wpAny_bind (wpAny_pure ?_)))
          simp only [if_true]
          refine wp_if_neg (by simp [e]) ?_
          refine k_search R hx hu nf ne nb yes no f (c + (d + 1)) _ rfl (by omega) (by omega) fun i2 q2 z1 z2 => ?_
          obtain ⟨d2, b1, b2, b3⟩ := hre i2 q2 z1 z2
          refine ⟨d2, ?_, b2, b3⟩
          rcases Nat.lt_trichotomy d2 (c + d) with g | g | g
          · exact (pass z1 z2 b2 b1 b3 fun k' i' hk => hno k' i' (by omega)).elim
          · rw [g] at b3
            have sl2 := slot_live R.tab.ris b3
            rw [sl] at sl2
            injection sl2 with ei
            rw [← ei, hq] at z1
            exact absurd ((congrArg Prod.snd (Option.some.inj z1)).trans z2) e
          · omega
      by_cases hl : tb.led = true
      · refine wp_if_neg (by simp [hl]) ?_
        try refine wpAny_bind (wpAny_pure ?_)
        exact go
      · refine wp_if_pos (by simp [hl]) ?_
        refine wpAny_bind (unseen hx (fun y hy => ?_) ?_)
        · obtain ⟨e, he, ee⟩ := List.mem_map.mp hy
          have e1 : e ∈ en ∧ e.1 = x.2.hash w := by simpa using he
          have e2 : e ∈ en.toList := by simpa using e1.1
          rw [R.rows] at e2
          obtain ⟨r, hr, er⟩ := List.mem_map.mp e2
          exact ⟨r, by rw [← ee, ← er], R.all r hr⟩
        · refine wp_if_neg Bool.false_ne_true ?_
          try refine wpAny_bind (wpAny_pure ?_)
          exact go
    · have hp2 : tb.probe (fun i => (en[i]?.map (·.1)).getD 0) (x.2.hash w) (st.getD (tb.probeStart (x.2.hash w))) = some (.empty (way tb.mask (x.2.hash w) n) none) := by
        rw [es, ← lastj]
        exact hp
      rw [hp2]
      dsimp only
      refine wpAny_pure (no fun hm => ?_)
      obtain ⟨q, hq, e⟩ := List.mem_map.mp hm
      obtain ⟨i, hi, ei⟩ := List.getElem_of_mem hq
      have hi2 : M[i]? = some q := by rw [List.getElem?_eq_getElem hi, ei]
      obtain ⟨d, b1, b2, b3⟩ := hre i q hi2 e
      exact pass hi2 e b2 b1 b3 fun k' i' hk => hno k' i' (by omega)
theorem k_search0 (R : KTab w s.heap a M ob en ec tb) {x : Rw} (hx : NT s.heap x) (hu : A.units + 8 < cLine) {Z : SetFound → Shared → Prop} (yes : x.2 ∈ M.map Prod.snd → Z (.there none) s)
    (no : ∀ n, x.2 ∉ M.map Prod.snd → way tb.mask (x.2.hash w) n ∉ tb.place.toList → (∀ c, c < n → way tb.mask (x.2.hash w) c ∈ tb.place.toList) → Z (.free (way tb.mask (x.2.hash w) n) false) s) :
    wpAny (model P w) A (setSearch a (.ref x.1) (x.2.hash w) true) Z E s := by
  have z1 := R.room
  obtain ⟨n, nf, ne, nb⟩ := R.tab.first (by rw [List.length_map]; omega) (x.2.hash w)
  have big : n < 100000 := by
    have : 10 * SetTable.turns tb.mask ≤ 1420 := by
      unfold SetTable.turns
      rcases R.tab.mok with e | e | e <;> omega
    omega
  unfold setSearch
  refine k_search R hx hu nf ne nb yes (fun z => no n z ne nb) 100000 0 none rfl (Nat.zero_le n) big fun i q hq e => ?_
  have g1 : (M.map fun q => q.2.hash w)[i]? = some (x.2.hash w) := by rw [List.getElem?_map, hq, ← e]; rfl
  have g2 : i < tb.place.toList.length := by
    rw [R.psz]
    exact (List.getElem?_eq_some_iff.mp hq).1
  have g3 := List.getElem?_eq_getElem g2
  obtain ⟨d, hd, ed⟩ := R.tab.before ne g1 g3
  exact ⟨d, Nat.zero_le _, hd, by rw [g3, ed]⟩
end
end WT

set_option Elab.async false
set_option linter.all false
set_option maxRecDepth 100000
set_option maxHeartbeats 4000000
/-! Sets of nested tuples: adding one, laying anew. -/
namespace WT
open PySem PySem.Spec PyProof.Rows L2
theorem rws_len {w : World} {M : List Rw} {en : Array (Int × Value)} (h : en.toList = rws w M) : en.size = M.length := by
  rw [← Array.length_toList, h]
  exact List.length_map _
theorem rws_get {w : World} {M : List Rw} {en : Array (Int × Value)} (h : en.toList = rws w M) (i : Nat) : en[i]? = M[i]?.map fun q => (q.2.hash w, Value.ref q.1) := by
  rw [← Array.getElem?_toList, h]
  exact List.getElem?_map
theorem pick_rng {α : Type} (l : List α) : (List.range l.length).filterMap (fun i => l[i]?) = l := by
  have st : ∀ n, n ≤ l.length → (List.range n).filterMap (fun i => l[i]?) = l.take n := by
    intro n
    induction n with
    | zero => exact fun _ => rfl
    | succ n ih =>
      intro hn
      have e : l[n]? = some l[n] := List.getElem?_eq_getElem hn
      rw [List.range_succ, List.filterMap_append, ih (by omega), List.take_add_one, e]
      simp [e]
  have := st l.length (Nat.le_refl _)
  rwa [List.take_length] at this
/-- the entries in a new order -/
theorem rws_order (w : World) {M : List Rw} {en : Array (Int × Value)} (h : en.toList = rws w M) {od : Array Nat} (hp : od.toList.Perm (List.range M.length)) :
    ∃ N, (od.filterMap (en[·]?)).toList = rws w N ∧ N.Perm M ∧ (N.map fun q => q.2.hash w) = od.toList.map fun i => (en.map (·.1)).getD i 0 := by
  refine ⟨od.toList.filterMap fun i => M[i]?, ?_, ?_, ?_⟩
  · rw [Array.toList_filterMap]
    show _ = List.map _ _
    rw [List.map_filterMap]
    refine congrArg (fun g => List.filterMap g od.toList) (funext fun i => ?_)
    exact rws_get h i
  · have := hp.filterMap fun i => M[i]?
    rwa [pick_rng] at this
  · have all : ∀ i ∈ od.toList, i < M.length := fun i hi => List.mem_range.mp (hp.mem_iff.mp hi)
    generalize od.toList = l at all
    induction l with
    | nil => rfl
    | cons i l ih =>
      have e : M[i]? = some (M[i]'(all i List.mem_cons_self)) := List.getElem?_eq_getElem _
      rw [List.filterMap_cons_some e, List.map_cons, List.map_cons, ih fun j hj => all j (List.mem_cons_of_mem _ hj)]
      congr 1
      have e2 : (en.map (·.1))[i]? = some ((M[i]'(all i List.mem_cons_self)).2.hash w) := by
        rw [Array.getElem?_map, rws_get h, e]
        rfl
      simp [Array.getD_eq_getD_getElem?, e2]
section
variable {P : Program} {w : World} {A : Around} {E : Value → Shared → Prop} {s : Shared} {a : Addr} {M : List Rw} {ob : Obj} {en : Array (Int × Value)} {ec : Nat} {tb : SetTable}
theorem k_relay (h0 : s.heap.get? a = some ob) (hx : ob.ExactSet) (hd : ob.data = .set en ec tb) (hr : en.toList = rws w M) (sz : tb.place.size = en.size) (dm : tb.dummies = #[]) (fl : en.size ≤ tb.mask) (nd : (M.map Prod.snd).Nodup) (all : ∀ q ∈ M, NT s.heap q)
    (ld : w.params.followText "set-order" = true ∨ tb.led = true) (few : M.length < 64) {g m : Nat} (eg : SetTable.sizeAbove g - 1 = m) (gm : MaskOk m) (gs : SetTable.sizeAbove g ≤ 128) (gn : M.length * 5 < m * 3) {Z : Unit → Shared → Prop}
    (z : ∀ h2 N, Heap.SameBut a s.heap h2 → KS w h2 a N → N.Perm M → Z () { s with heap := h2 }) : wpAny (model P w) A (setRelay a g) Z E s := by
  have es := rws_len hr
  have fit : tb.fits en.size = true := by
    unfold SetTable.fits SetTable.fill
    rw [dm, Bool.and_eq_true, beq_iff_eq, decide_eq_true_eq]
    exact ⟨by omega, by show tb.place.size + 0 ≤ tb.mask; omega⟩
  obtain ⟨tb2, od, e1, p1, T, e2, e3, _, _⟩ := relaid_ok tb (hs := en.map (·.1)) (wanted := g) eg gm (by rw [Array.size_map]; omega)
  rw [Array.size_map, es] at p1
  obtain ⟨N, r1, r2, r3⟩ := rws_order w hr p1
  rw [← r3] at T
  have es2 : (od.filterMap (en[·]?)).size = en.size := by
    rw [rws_len r1, r2.length_eq, es]
  rw [setRelay_eq]
  refine wpAny_bind (wpAny_setState_of h0 hd fit ?_)
  dsimp only
  refine wp_if_neg (by rw [sizeLine_eq]; omega) ?_
  try refine wpAny_bind (wpAny_pure ?_)
  rw [e1]
  dsimp only
  refine wpAny_bind ?_
  refine wp_if_neg (by simp [es2]) ?_
  try refine wpAny_bind (wpAny_pure ?_)
  refine wpAny_pure ?_
  dsimp only
  refine wpAny_storeSet_of h0 hd ?_ (by rw [es2, es, sizeLine_eq]; omega)
  have sb : Heap.SameBut a s.heap (s.heap.update a (Obj.putSet (od.filterMap (en[·]?)) tb2)) := Heap.SameBut.update s.heap a _
  refine z _ N sb ⟨_, _, ec + 1, tb2, store_at h0 hd, ⟨hx.1, hx.2.1, hx.2.2⟩, rfl, r1, T, (r2.map Prod.snd).nodup_iff.mpr nd, fun q hq => (all q (r2.mem_iff.mp hq)).store h0 hd sb, by rw [e3]; exact ld, ?_, by rw [r2.length_eq]; exact few⟩ r2
  rw [r2.length_eq, e2]
  exact gn
theorem k_add (R : KS w s.heap a M) {x : Rw} (hx : NT s.heap x) (hu : A.units + 8 < cLine) (few : M.length + 1 < 64) {Z : Bool → Shared → Prop}
    (z : ∀ b h2 N, Heap.SameBut a s.heap h2 → KS w h2 a N → (x.2 ∈ M.map Prod.snd → N = M) → (x.2 ∉ M.map Prod.snd → N.Perm (x :: M)) → Z b { s with heap := h2 }) :
    wpAny (model P w) A (setAddHashed a (.ref x.1) (x.2.hash w)) Z E s := by
  have R0 := R
  obtain ⟨ob, en, ec, tb, R⟩ := R
  have es := R.len
  have rm := R.room
  unfold setAddHashed
  refine wpAny_holding ?_
  rw [show (100000 : Nat) = 99999 + 1 from rfl, setAddHashedIn_succ]
  refine wpAny_bind (wpAny_setState_of R.at_ R.da R.fit ?_)
  dsimp only
  refine wp_if_neg (by simp [byScan, Value.scannable]) ?_
  try refine wpAny_bind (wpAny_pure ?_)
  refine wpAny_bind (k_search0 R hx hu (fun hm => ?_) fun n hm ne nb => ?_)
  · dsimp only
    exact wpAny_pure (z false s.heap M (Heap.SameBut.refl a s.heap) R0 (fun _ => rfl) fun c => absurd hm c)
  · dsimp only
    refine wpAny_bind (wpAny_setState_of R.at_ R.da R.fit ?_)
    dsimp only
    obtain ⟨q1, q2, q3, q4, q5, _, _, _, q9⟩ := R.tab.put ne nb
    generalize hpt : tb.put (way tb.mask (x.2.hash w) n) = pt at q1 q3 q4 q5 q9 ⊢
    obtain ⟨tb1, j⟩ := pt
    dsimp only at q1 q3 q4 q5 q9 ⊢
    subst q1
    generalize hj : SetTable.below tb.place (way tb.mask (x.2.hash w) n) = j at q2 q3 ⊢
    have hin : (SetTable.insertAt en j (x.2.hash w, Value.ref x.1)).toList = rws w (M.take j ++ x :: M.drop j) := by
      rw [SetTable.toList_insertAt, R.rows]
      unfold rws
      rw [List.map_append, List.map_cons, List.map_take, List.map_drop]
    have pm : (M.take j ++ x :: M.drop j).Perm (x :: M) := put_perm M j x
    have e1 : ((M.map fun q => q.2.hash w).take j ++ x.2.hash w :: (M.map fun q => q.2.hash w).drop j) = (M.take j ++ x :: M.drop j).map fun q => q.2.hash w := by
      rw [List.map_append, List.map_cons, List.map_take, List.map_drop]
    rw [e1] at q3
    generalize SetTable.insertAt en j (x.2.hash w, Value.ref x.1) = en1 at hin ⊢
    generalize M.take j ++ x :: M.drop j = M1 at hin pm q3
    have l1 : M1.length = M.length + 1 := pm.length_eq
    have es1 : en1.size = M.length + 1 := (rws_len hin).trans l1
    have nd1 : (M1.map Prod.snd).Nodup := (pm.map Prod.snd).nodup_iff.mpr (List.nodup_cons.mpr ⟨hm, R.nd⟩)
    -- however it is hashed
    have rest : ∀ tb2 : SetTable, tb2.mask = tb1.mask → tb2.place = tb1.place → tb2.dummies = tb1.dummies → tb2.led = tb1.led → TabOk tb2 (M1.map fun q => q.2.hash w) → wpAny (model P w) A (do
          storeSet a en1 tb2
          if (!false && tb2.tooFull) = true then do
              setRelay a (SetTable.grown (en.size + 1))
              pure true
            else pure true) Z E s := fun tb2 m2 pl2 dm2 ld2 T2 => by
      refine wpAny_bind (wpAny_storeSet_of R.at_ R.da ?_ (by rw [es1, sizeLine_eq]; omega))
      have sb : Heap.SameBut a s.heap (s.heap.update a (Obj.putSet en1 tb2)) := Heap.SameBut.update s.heap a _
      have h1 := store_at (es' := en1) (t' := tb2) R.at_ R.da
      generalize s.heap.update a (Obj.putSet en1 tb2) = h2 at sb h1 ⊢
      have all1 : ∀ q ∈ M1, NT h2 q := fun q hq => by
        rcases List.mem_cons.mp (pm.mem_iff.mp hq) with e | hq
        · rw [e]; exact hx.store R.at_ R.da sb
        · exact (R.all q hq).store R.at_ R.da sb
      have ld1 : w.params.followText "set-order" = true ∨ tb2.led = true := by rw [ld2, q5]; exact R.led
      have fl2 : tb2.fill = M.length + 1 := by
        have e : tb2.fill = tb1.fill := by
          unfold SetTable.fill
          rw [pl2, dm2]
        rw [e, q9, List.length_map]
      by_cases hf : tb2.tooFull = true
      · refine wp_if_pos (by simp [hf]) ?_
        refine wpAny_bind ?_
        have full : (M.length + 1) * 5 ≥ tb2.mask * 3 := by
          have := hf
          unfold SetTable.tooFull at this
          rw [decide_eq_true_eq, fl2] at this
          exact this
        rw [m2, q4] at full
        rw [es]
        have relay : ∀ m, SetTable.sizeAbove (SetTable.grown (M.length + 1)) - 1 = m → MaskOk m → SetTable.sizeAbove (SetTable.grown (M.length + 1)) ≤ 128 → (M.length + 1) * 5 < m * 3 →
            wpAny (model P w) A (setRelay a (SetTable.grown (M.length + 1))) (fun _ s2 => wpAny (model P w) A (pure true) Z E s2) E { s with heap := h2 } := fun m g1 g2 g3 g4 => by
          refine k_relay (s := { s with heap := h2 }) h1 ⟨R.ex.1, R.ex.2.1, R.ex.2.2⟩ rfl hin ?_ T2.dm ?_ nd1 all1 ld1 (by omega) g1 g2 g3 (by omega) fun h3 N sb3 R3 pm3 => ?_
          · have := T2.sz
            rw [List.length_map] at this
            omega
          · rw [es1, m2, q4]
            rcases R.tab.mok with e | e | e <;> omega
          · exact wpAny_pure (z true h3 N (sb.trans sb3) R3 (fun c => absurd c hm) fun _ => pm3.trans pm)
        rcases R.tab.mok with e | e | e
        · have e4 : M.length = 4 := by rw [e] at full rm; omega
          exact relay 31 (by rw [e4, size_20]) (.inr (.inl rfl)) (by rw [e4, size_20]; decide) (by omega)
        · have e18 : M.length = 18 := by rw [e] at full rm; omega
          exact relay 127 (by rw [e18, size_76]) (.inr (.inr rfl)) (by rw [e18, size_76]; decide) (by omega)
        · rw [e] at full
          omega
      · refine wp_if_neg (by simp [hf]) ?_
        refine wpAny_pure (z true h2 M1 sb ⟨_, en1, _, tb2, h1, ⟨R.ex.1, R.ex.2.1, R.ex.2.2⟩, rfl, hin, T2, nd1, all1, ld1, ?_, by omega⟩ (fun c => absurd c hm) fun _ => pm)
        have := hf
        unfold SetTable.tooFull at this
        rw [decide_eq_true_eq, fl2] at this
        omega
    have T2 : TabOk { tb1 with plain := false } (M1.map fun q => q.2.hash w) := ⟨q3.ris, q3.dm, q3.sz, q3.mok, q3.bd, q3.reach⟩
    by_cases hpl : tb1.plain = true
    · first
        | refine wp_if_pos hpl (wpAny_bind (anyhb x.2 _ 8 s hx.1 hx.2 _ _ _ fun c => ?_))
        | (refine wpAny_bind ?_; refine wp_if_pos hpl ?_; refine anyhb x.2 _ 8 s hx.1 hx.2 _ _ _ fun c => ?_)
      cases c
      · exact rest _ rfl rfl rfl rfl T2
      · exact rest _ rfl rfl rfl rfl q3
    · first
        | refine wp_if_neg hpl (wpAny_bind (wpAny_pure ?_))
        | (refine wpAny_bind ?_; refine wp_if_neg hpl ?_; refine wpAny_pure ?_)
      exact rest _ rfl rfl rfl rfl q3
end
end WT

set_option Elab.async false
set_option linter.all false
set_option maxRecDepth 100000
set_option maxHeartbeats 4000000
/-! Sets of nested tuples, tracked: a set comprehension, sorted(set). -/
namespace WT
open PySem PySem.Spec PyProof.Rows L2
mutual
theorem nk_reads {h : Heap} : ∀ (k : NestedKey) (u : Value) (as : List Addr), Reads h u k.data as → NestedIs h k u ∧ as = []
  | .none, _, _, r => by
    simp only [NestedKey.data] at r
    cases r
    exact ⟨.none, rfl⟩
  | .num i, _, _, r => by
    simp only [NestedKey.data] at r
    cases r
    exact ⟨.int _ _, rfl⟩
  | .text x, _, _, r => by
    simp only [NestedKey.data] at r
    cases r
    exact ⟨.text _ _, rfl⟩
  | .tup ks, _, _, r => by
    simp only [NestedKey.data] at r
    cases r with
    | tuple h1 h2 h3 h4 =>
      obtain ⟨z1, z2⟩ := nks_reads ks _ _ h4
      exact ⟨.tup h1 h2 h3 z1, z2⟩
theorem nks_reads {h : Heap} : ∀ (ks : List NestedKey) (us : List Value) (as : List Addr), ReadsAll h us (NestedKey.datas ks) as → NestedAll h ks us ∧ as = []
  | [], _, _, r => by
    simp only [NestedKey.datas] at r
    cases r
    exact ⟨.nil, rfl⟩
  | k :: ks, _, _, r => by
    simp only [NestedKey.datas] at r
    cases r with
    | cons r1 r2 =>
      obtain ⟨a1, a2⟩ := nk_reads k _ _ r1
      obtain ⟨b1, b2⟩ := nks_reads ks _ _ r2
      exact ⟨.cons a1 b1, by rw [a2, b2]; rfl⟩
end
/-- the set, without the tuples themselves -/
def KS0 (w : World) (h : Heap) (a : Addr) (M : List Rw) : Prop := ∃ ob en ec tb, h.get? a = some ob ∧ ob.ExactSet ∧ ob.data = .set en ec tb ∧ en.toList = rws w M ∧ TabOk tb (M.map fun q => q.2.hash w) ∧ (M.map Prod.snd).Nodup ∧ (∀ q ∈ M, q.2.depth ≤ 8) ∧
  (w.params.followText "set-order" = true ∨ tb.led = true) ∧ M.length * 5 < tb.mask * 3 ∧ M.length < 64
theorem KS.bare {w : World} {h : Heap} {a : Addr} {M : List Rw} (R : KS w h a M) : KS0 w h a M := by
  obtain ⟨ob, en, ec, tb, R⟩ := R
  exact ⟨ob, en, ec, tb, R.at_, R.ex, R.da, R.rows, R.tab, R.nd, fun q hq => (R.all q hq).2, R.led, R.room, R.few⟩
theorem KS0.full {w : World} {h : Heap} {a : Addr} {M : List Rw} (R : KS0 w h a M) (k : ∀ q ∈ M, NestedIs h q.2 (.ref q.1)) : KS w h a M := by
  obtain ⟨ob, en, ec, tb, g1, g2, g3, g4, g5, g6, g7, g8, g9, g10⟩ := R
  exact ⟨ob, en, ec, tb, g1, g2, g3, g4, g5, g6, fun q hq => ⟨k q hq, g7 q hq⟩, g8, g9, g10⟩
def KSO (w : World) (a : Addr) (M : List Rw) : HO := .ext fun h => KS0 w h a M
theorem kso_ok {P : Program} {w : World} {H : Hp} {h : Heap} {a : Addr} {M : List Rw} (R : KS0 w h a M) : ObjOk P w H h a (KSO w a M) := by
  have ⟨ob, en, ec, tb, g, r⟩ := R
  refine ⟨R, ⟨ob, g⟩, fun h1 h2 ⟨ob2, en2, ec2, tb2, g2, r2⟩ k => ⟨ob2, en2, ec2, tb2, k ob2 g2, r2⟩⟩
/-- an empty one -/
theorem ks0_new (w : World) {h : Heap} {a : Addr} (g : h.get? a = some { cls := .type "set", dict := none, data := .set #[] 0 (.fresh 0 0 (!w.params.followText "set-order")) }) : KS0 w h a [] := by
  refine ⟨_, #[], 0, _, g, ⟨rfl, rfl, rfl⟩, rfl, rfl, ⟨List.Pairwise.nil, rfl, rfl, .inl rfl, fun x hx => ?_, fun i k j hi => ?_⟩, List.nodup_nil, fun q hq => absurd hq List.not_mem_nil, ?_, ?_, by decide⟩
  · cases hx
  · simp at hi
  · show _ ∨ (!w.params.followText "set-order") = true
    cases w.params.followText "set-order"
    · exact .inr rfl
    · exact .inl rfl
  · show 0 * 5 < 7 * 3
    decide
section
variable {X : Cx} {pins : List (Addr × Obj)} {σ : L2.St} {H : Hp} {s : Shared}
theorem nk_dp (I : Inv X pins σ H s) {k : NestedKey} {v : V} {u : Value} (d : Dp X.K H v k.data) (r : RelV v u) : NestedIs s.heap k u := by
  obtain ⟨as, q⟩ := Dp.reads I _ _ _ d r
  exact (nk_reads k u as q).1
/-- such a set at D, its tuples too -/
def KSet (K : PySem.W.Frag) (w : World) (H : Hp) (D : Addr) (M : List Rw) : Prop := H D = some (KSO w D M) ∧ ∀ q ∈ M, Dp K H (.ref q.1) q.2.data
theorem kset_get (I : Inv X pins σ H s) {D : Addr} {M : List Rw} (h : KSet X.K X.w H D M) : KS X.w s.heap D M :=
  KS0.full (I.hok D _ h.1).1 fun q hq => nk_dp I (h.2 q hq) rfl
theorem addK_ok {E : Value → Shared → Prop} {D : Addr} {M : List Rw} {x : Rw} {Q : Value → Shared → Prop} (I : Inv X pins σ H s) (h : KSet X.K X.w H D M) (hx : Dp X.K H (.ref x.1) x.2.data) (hd : x.2.depth ≤ 8) (hu : X.A.units + 64 < cLine) (few : M.length + 1 < 64)
    (q : ∀ s2 N, (x.2 ∈ M.map Prod.snd → N = M) → (x.2 ∉ M.map Prod.snd → N.Perm (x :: M)) → Inv X pins σ (upd H D (KSO X.w D N)) s2 → Q .none s2) : wpAny (model X.prog X.w) X.A (call (.builtin "set.add") [.ref D, .ref x.1]) Q E s := by
  have R := kset_get I h
  have hn : NT s.heap x := ⟨nk_dp I hx rfl, hd⟩
  have hT : s.TypeIs (.ref D) "set" := by
    obtain ⟨ob, _, _, _, r⟩ := R
    exact ⟨ob, r.at_, r.ex.1⟩
  refine wpAny_call_entry PySem.F.slot_set_add hT PySem.F.entry_set_add ?_ (PySem.F.args_set_add_2 _ _)
  unfold Builtin.«set.add» Builtin.Frozenset.oneOther
  simp only [List.isEmpty_nil, bind_assoc]
  unfold Builtin.Frozenset.addrOf setAdd
  refine wpAny_bind (wpAny_pure ?_)
  try dsimp only
  refine wpAny_bind (wpAny_pure ?_)
  try dsimp only
  refine wpAny_bind (wpAny_holding (wpAny_bind ((nestedKind X.prog X.w).pyHash (k := x.2) (a := x.1) ?_ hn ?_)))
  · show (X.A.in1).units + 8 < cLine
    simp only [Around.in1_units]
    omega
  refine k_add (s := { s with toks := s.toks + x.2.draws }) R hn ?_ few fun b h2 N sb R2 c1 c2 => ?_
  · simp only [Around.in1_units]
    omega
  show wpAny (model X.prog X.w) _ (ret Value.none) _ _ _
  refine wpAny_pure ⟨_, rfl, q _ N c1 c2 ?_⟩
  have he : ∃ u, h2.get? D = some u := by
    obtain ⟨ob, _, _, _, r⟩ := R2
    exact ⟨ob, r.at_⟩
  exact I.write (e := D) (t' := s.toks + x.2.draws) (by rw [h.1]; trivial) (.inl rfl) (fun b u hb e => (sb.2 b hb).trans e) he (kso_ok R2.bare)
end
end WT

set_option Elab.async false
set_option linter.all false
set_option maxRecDepth 100000
set_option maxHeartbeats 4000000
/-! {f(x) for x in xs}, its items nested tuples; sorted of such a set. -/
namespace WT
open PySem PySem.Spec PyProof.Rows L2 PpSet PySem.W
abbrev newS (w : World) : Obj := { cls := .type "set", dict := none, data := .set #[] 0 (.fresh 0 0 (!w.params.followText "set-order")) }
section
variable {X : Cx}
/-- one turn's end: the item y goes in -/
def PutK (K : PySem.W.Frag) (w : World) (D : Addr) (y : V) (H : Hp) (Nx : Hp → Prop) : Prop := ∃ (q : Rw) (M : List Rw), y = .ref q.1 ∧ KSet K w H D M ∧ Dp K H (.ref q.1) q.2.data ∧ q.2.depth ≤ 8 ∧ M.length + 1 < 64 ∧
  ∀ N, (q.2 ∈ M.map Prod.snd → N = M) → (q.2 ∉ M.map Prod.snd → N.Perm (q :: M)) → Nx (upd H D (KSO w D N))
def tScK (K : PySem.W.Frag) (w : World) (wi : TI) (g : TG) (tt : L2.TT) (te : TE) (vs : List Nat) : TE := fun σ H Q => wi σ H fun J H1 => ∀ D, H1 D = none → ∃ W : Nat → Nat → Hp → Prop, (∃ m, W 0 m (upd H1 D (KSO w D []))) ∧ ∀ i m H, W i m H →
  (J.stop i H ∧ Q (.ref D) H) ∨ (J.go i H ∧ ∃ Nx : Hp → Prop, (∀ H', Nx H' → ∃ m', m' < m ∧ W (i + 1) m' H') ∧ ∀ x H', J.yld i H x H' → g x (wipe σ vs) H' fun σ2 H2 => wipe σ2 vs = wipe σ vs ∧ tt σ2 H2 fun b H3 =>
    if b = true then te σ2 H3 fun y H4 => PutK K w D y H4 Nx else Nx H3)
theorem pe_scK {elt tg iter : Expr} {ifs : List Expr} {scope : Scope} {own : List (PySem.Str × Nat)} {pos : Pos} {wi : TI} {g : TG} {tt : L2.TT} {te : TE} (hc : X.calm = true) (hu : X.A.units + 64 < cLine) (hN : X.N.Nodup) (hi : PI X tg iter wi) (ok : BlkOk X.N X.env.scope scope own)
    (hg : ∀ (s : Shared) (H : Hp) (C : Addr) (cl : List (PySem.Str × Addr)) (fp : List Addr), PG (X.blk s H scope (compEnvC scope cl C X.env) fp) tg g) (ht : ∀ (s : Shared) (H : Hp) (C : Addr) (cl : List (PySem.Str × Addr)) (fp : List Addr), PTs (X.blk s H scope (compEnvC scope cl C X.env) fp) ifs tt)
    (he : ∀ (s : Shared) (H : Hp) (C : Addr) (cl : List (PySem.Str × Addr)) (fp : List Addr), PE (X.blk s H scope (compEnvC scope cl C X.env) fp) elt te) (hs : ∀ x, foldedSetIterable iter X.env x = pure x := by intro _; rfl) :
    PE X (.SetComp elt [⟨tg, iter, ifs, 0⟩] scope pos) (tScK X.K X.w wi g tt te (own.map (·.2))) := by
  refine ⟨fun pins s σ H Q I h => ?_⟩
  rw [eval_SetComp]
  have fr : ∀ y ∈ scope.names, y.2 = .free → ∃ c, X.env.cells.lookup y.1 = some c := fun y hy e => by
    rcases ok.free y hy e with k | k
    · exact I.ok.has _ (.inl k)
    · exact I.ok.has _ (.inr k)
  refine wpAny_comprehension_free rfl hs (closure_ok fr) ok.kind (fun y hy e => by rw [ok.uniq y hy, e]) (thn (hi.run pins s σ H _ I h) fun xv s1 hx => thn hx fun itv s2 h2 => ?_)
  obtain ⟨it, fp, tn, J, H2, e, I2, T, st2, f2, q⟩ := h2
  subst e
  refine newSet_ok (newEnv_comp ?_)
  generalize hD : s2.heap.objs.size = D
  have Dn : H2 D = none := I2.hok.fresh (Nat.le_of_eq hD)
  obtain ⟨W, ⟨m0, w0⟩, turn⟩ := q D Dn
  generalize hs3 : ({ s2 with heap := s2.heap.push (newS X.w) } : Shared) = s3
  have g3 : s3.heap = s2.heap.push (newS X.w) := by rw [← hs3]
  generalize hH3 : upd H2 D (KSO X.w D []) = H3 at w0
  have I3 : Inv X pins σ H3 s3 := by
    rw [← hH3, ← hs3]
    refine I2.laid (t' := s2.toks) (fun b o z => Heap.get?_push_of_some _ z) (Nat.le_of_eq hD) (kso_ok ?_)
    rw [← hD]
    exact ks0_new X.w (Heap.get?_push_size _ rfl)
  have f3 : ∀ b ∈ fp, FpOk X pins H3 b ∧ b < s3.heap.objs.size := fun b hb => by
    obtain ⟨o, e, _⟩ := T.obj _ _ st2 b hb
    have lt := Heap.lt_size e
    refine ⟨⟨?_, (f2 b hb).2⟩, by rw [g3, Heap.size_push]; exact Nat.lt_succ_of_lt lt⟩
    rw [← hH3, upd_ne (by rw [← hD]; exact Nat.ne_of_lt lt)]
    exact (f2 b hb).1
  have st3 : tn 0 s3.heap := T.keep _ _ _ st2 fun b _ o e => by rw [g3]; exact Heap.get?_push_of_some _ e
  have I4 := block_start I3 ok hN f3
  have pg := hg s3 H3 s3.heap.objs.size (cellsFrom (s3.heap.objs.size + 1) scope.names (cloFrom X.env.cells scope.names [])) fp
  have pt := ht s3 H3 s3.heap.objs.size (cellsFrom (s3.heap.objs.size + 1) scope.names (cloFrom X.env.cells scope.names [])) fp
  have pe := he s3 H3 s3.heap.objs.size (cellsFrom (s3.heap.objs.size + 1) scope.names (cloFrom X.env.cells scope.names [])) fp
  show codeAny (model X.prog X.w) X.A (.compStart (.SetComp elt [⟨tg, iter, ifs, 0⟩] scope pos) 0 (.ref it) (.ref D) (compEnvC scope (cellsFrom (s3.heap.objs.size + 1) scope.names (cloFrom X.env.cells scope.names [])) s3.heap.objs.size X.env)) (compPost (model X.prog X.w) X.A X.xe none (EP X pins σ Q) (.ref D) s3.heap.objs.size) { s3 with heap := pushCells (s3.heap.push { cls := .type "dict", data := .dict #[] }) scope.names }
  have nofp : ∀ b ∈ fp, H3 b = none := fun b hb => (f3 b hb).1.1
  generalize hce : compEnvC scope (cellsFrom (s3.heap.objs.size + 1) scope.names (cloFrom X.env.cells scope.names [])) s3.heap.objs.size X.env = ce at I4 pg pt pe ⊢
  have cl : ce.locals = s3.heap.objs.size := by subst hce; rfl
  generalize hs4 : ({ s3 with heap := pushCells (s3.heap.push { cls := .type "dict", data := .dict #[] }) scope.names } : Shared) = s4 at I4 ⊢
  have st4 : tn 0 s4.heap := T.keep _ _ _ st3 fun b _ o e => by rw [← hs4]; exact pushCells_keeps _ _ _ _ (Heap.get?_push_of_some _ e)
  have okfp : ∀ {σ' : L2.St} {H' : Hp} {s' : Shared}, Inv (X.blk s3 H3 scope ce fp) [] σ' H' s' → (∀ b ∈ fp, H' b = none) → ∀ b ∈ fp, FpOk (X.blk s3 H3 scope ce fp) [] H' b := fun I' hn b hb =>
    ⟨hn b hb, (I'.ok.exf b hb).1, I'.ok.exfs b hb, .inl hb, fun x c e => (I'.ok.exf b hb).2 x c e, fun p hp => absurd (show p ∈ ([] : List (Addr × Obj)) ++ [] from hp) (by simp)⟩
  have loop : codeAny (model X.prog X.w) X.A (.compLoop (.SetComp elt [⟨tg, iter, ifs, 0⟩] scope pos) 0 (.ref it) (.ref D) ce) (compPost (model X.prog X.w) X.A X.xe none (EP X pins σ Q) (.ref D) s3.heap.objs.size) s4 := by
    refine compLoopS_any (fun n s' => ∃ i H', Inv (X.blk s3 H3 scope ce fp) [] (wipe σ (own.map (·.2))) H' s' ∧ tn i s'.heap ∧ (∀ b ∈ fp, H' b = none) ∧ W i n H') ?_ m0 ⟨0, H3, I4, st4, nofp, w0⟩
    rintro n s5 ⟨i, H5, I5, st5, n5, w5⟩
    rcases turn i n H5 w5 with ⟨stop, qq⟩ | ⟨go, Nx, hNx, step⟩
    · refine thnF (T.done (X.blk s3 H3 scope ce fp) rfl rfl rfl hc i [] s5 _ H5 (fun _ _ => False) I5 (okfp I5 n5) st5 stop) fun r s6 ⟨hr, I6⟩ => ?_
      subst hr
      have I7 : Inv X pins σ H5 s6 := I3.call' (ch := fp) I6.os I6.base I6.hok I6.bare fun b hb => ⟨(f3 b hb).1.2.2.2.1, (f3 b hb).1.2.1, (f3 b hb).1.2.2.2.2.1, (f3 b hb).1.2.2.2.2.2⟩
      have nC : H5 s3.heap.objs.size = none := by
        have z : H5 ce.locals = none := I6.free
        rwa [cl] at z
      obtain ⟨m, hn, _⟩ := I6.loc
      have hn : s6.heap.Ns ce.locals m := hn
      rw [cl] at hn
      refine ⟨m, hn, fun h6 sb => ?_⟩
      obtain ⟨f0, f1, f2, f3, f4, f5⟩ := I3.fpOk (Nat.le_refl _) nC
      exact ⟨.ref D, H5, I7.turned (t' := s6.toks) (fun b o hb e => (sb.2 b hb).trans e) f0 f1 f3 f4 f5, rfl, qq⟩
    · refine thnF (T.item (X.blk s3 H3 scope ce fp) rfl rfl rfl hc i [] s5 _ H5 (fun _ _ => False) I5 (okfp I5 n5) st5 go) fun r s6 ⟨u, hr, h6⟩ => ?_
      subst hr
      refine thnF h6 fun _ s7 ⟨x, H7, I7, r7, y7, st7, n7⟩ => ?_
      refine thnF (pg.run _ s7 _ H7 x u _ (I7.pinned (okfp I7 n7) (T.obj _ _ st7)) r7 (step x H7 y7)) fun _ s8 ⟨σ8, H8, I8, hw8, q8⟩ => ?_
      refine thnF (pt.run _ s8 σ8 H8 _ I8 q8) fun b s9 ⟨H9, I9, q9⟩ => ?_
      have fin : ∀ {s' : Shared} {H' : Hp}, Inv (X.blk s3 H3 scope ce fp) ([] ++ pinsAt fp s7.heap) σ8 H' s' → Nx H' → ∃ m, m < n ∧ ∃ i H', Inv (X.blk s3 H3 scope ce fp) [] (wipe σ (own.map (·.2))) H' s' ∧ tn i s'.heap ∧ (∀ b ∈ fp, H' b = none) ∧ W i m H' := fun {s' H'} I' nx => by
        obtain ⟨m', hm, w'⟩ := hNx H' nx
        have pin : ∀ b ∈ fp, ∀ o, s7.heap.get? b = some o → s'.heap.get? b = some o ∧ H' b = none := fun b hb o e =>
          let z := I'.pin (b, o) (List.mem_append_right _ (List.mem_append_right _ (mem_pinsAt hb e)))
          ⟨z.1, z.2.1⟩
        refine ⟨m', hm, i + 1, H', (I'.unpinned (pins := [])).weak (by rw [← hw8, wipe_length]) (fun j v e => ?_), T.keep _ _ _ st7 fun b hb o e => (pin b hb o e).1, fun b hb => ?_, w'⟩
        · rw [← hw8] at e
          exact (wipe_some e).1
        · obtain ⟨o, e, _⟩ := T.obj _ _ st7 b hb
          exact (pin b hb o e).2
      cases b with
      | false =>
        simp only [Bool.false_eq_true, if_false] at q9 ⊢
        exact fin I9 q9
      | true =>
        simp only [if_true] at q9 ⊢
        refine thnF (pe.run _ s9 σ8 H9 _ I9 q9) fun z s10 ⟨yv, H10, I10, r10, x0, M, ey, ks, dx, dd, few, nx⟩ => ?_
        subst ey
        cases r10
        exact addK_ok (X := X.blk s3 H3 scope ce fp) I10 ks dx dd hu few fun s11 N c1 c2 I11 => fin I11 (nx N c1 c2)
  exact codeAny_compStart_set loop (T.self X.A 0 _ _ _ st4 loop)
end
end WT

set_option Elab.async false
set_option linter.all false
set_option maxRecDepth 100000
set_option maxHeartbeats 4000000
/-! sorted of a set of nested tuples. -/
namespace WT
open PySem PySem.Spec PyProof.Rows L2 PySem.W
mutual
theorem dpt_le : ∀ k : NestedKey, k.data.depth ≤ k.depth
  | .none => by simp [NestedKey.data, PyData.depth]
  | .num i => by simp [NestedKey.data, PyData.depth]
  | .text x => by simp [NestedKey.data, PyData.depth]
  | .tup ks => by
    have := dpts_le ks
    simp only [NestedKey.data, PyData.depth, NestedKey.depth]
    omega
theorem dpts_le : ∀ ks : List NestedKey, PyData.depthAll (NestedKey.datas ks) ≤ NestedKey.depthAll ks
  | [] => by simp [NestedKey.datas, PyData.depthAll]
  | k :: ks => by
    have h1 := dpt_le k
    have h2 := dpts_le ks
    simp only [NestedKey.datas, PyData.depthAll, NestedKey.depthAll]
    omega
end
/-- the order of the items -/
abbrev leK : Rw → Rw → Bool := dataLe false fun q => q.2.data
theorem leK_sorted (l : List Rw) : (l.mergeSort leK).Pairwise fun a b => leK a b = true := by
  have T := sortLe_total (listOrd itemOrd) false fun b : Rw => keyToks b.2.data
  refine List.pairwise_mergeSort (fun a b c => T.trans a b c) (fun a b => ?_) l
  rcases T.total a b with h | h
  · show (leK a b || _) = true
    rw [show leK a b = true from h]
    rfl
  · show (_ || leK b a) = true
    rw [show leK b a = true from h, Bool.or_true]
section
variable {P : Program} {w : World} {A : Around} {E : Value → Shared → Prop} {s : Shared} {a : Addr} {M : List Rw}
theorem refs_each : ∀ M : List Rw, EachIs (fun v (q : Rw) => v = Value.ref q.1) (M.map fun q => Value.ref q.1) M
  | [] => .nil
  | q :: M => .cons rfl (refs_each M)
theorem each_refs : ∀ {vs : List Value} {M : List Rw}, EachIs (fun v (q : Rw) => v = Value.ref q.1) vs M → vs = M.map fun q => Value.ref q.1
  | _, _, .nil => rfl
  | _, _, .cons h t => by rw [List.map_cons, h, each_refs t]
theorem reads_each {h : Heap} {p : Addr} : ∀ {M : List Rw}, (∀ q ∈ M, Reads h (.ref q.1) q.2.data []) → EachIs (fun v (q : Rw) => ∃ as, Reads h v q.2.data as ∧ p ∉ as) (M.map fun q => Value.ref q.1) M
  | [], _ => .nil
  | q :: M, k => .cons ⟨[], k q List.mem_cons_self, by simp⟩ (reads_each fun r hr => k r (List.mem_cons_of_mem _ hr))
theorem sorted_ks {Q : Value → Shared → Prop} (R : KS w s.heap a M) (calm : A.handled = none) (hu : A.units + 64 < cLine) (hr : ∀ q ∈ M, Reads s.heap (.ref q.1) q.2.data []) (al : AllAlike (M.map fun q => q.2.data)) (so : Sortable (M.map fun q => q.2.data))
    (z : ∀ s2 p (out : Array Value) (c : Nat) (N : List Rw), (∀ b o, s.heap.get? b = some o → s2.heap.get? b = some o) → s2.gens = s.gens → s2.os = s.os → s.heap.objs.size ≤ p → s2.heap.get? p = some (seqObj "list" out c) → out.toList = N.map (fun q => Value.ref q.1) → N.Perm M → N.Pairwise (fun a b => leK a b = true) → Q (.ref p) s2) :
    wpAny (model P w) A (call (.builtin "sorted") [.ref a]) Q E s := by
  obtain ⟨ob, en, ec, tb, R⟩ := R
  have es := R.len
  have few := R.few
  refine Calls.call_function_entry kind_sorted plain_sorted entry_sorted (args_sorted1 _) ?_
  unfold Builtin.«sorted»
  refine wpAny_bind (m := checkCount "sorted" 1 1 _) (wpAny_pure (wpAny_bind (collect_set (A := A.in1) calm ⟨ob, R.at_, R.ex.1, R.da⟩ R.fit (by unfold scanBound; omega) R.tab.ris R.led fun s1 vs k1 hz g1 o1 pm => ?_)))
  rw [R.rows] at pm
  have e0 : (rws w M).map (·.2) = M.map fun q => Value.ref q.1 := by
    unfold rws
    rw [List.map_map]
    rfl
  rw [e0] at pm
  obtain ⟨M2, p2, rfl⟩ := perm_map_inv pm rfl
  have l2 := p2.length_eq
  refine wpAny_bind (wpAny_newList ?_ (by rw [List.length_map, sizeLine_eq]; omega))
  have hoL : (s1.heap.push (seqObj "list" (M2.map fun q => Value.ref q.1).toArray 0)).get? s1.heap.objs.size = some (seqObj "list" (M2.map fun q => Value.ref q.1).toArray 0) := Heap.get?_push_size _ rfl
  have al2 : AllAlike (M2.map fun q => q.2.data) := fun d hd d' hd' => al d ((p2.map _).mem_iff.mp hd) d' ((p2.map _).mem_iff.mp hd')
  have so2 : Sortable (M2.map fun q => q.2.data) := so.imp (fun k d hd => k d ((p2.map _).mem_iff.mp hd)) fun k d hd => k d ((p2.map _).mem_iff.mp hd)
  have kk : ∀ b o, s.heap.get? b = some o → (s1.heap.push (seqObj "list" (M2.map fun q => Value.ref q.1).toArray 0)).get? b = some o := fun b o e => Heap.get?_push_of_some _ (k1 b o e)
  refine wpAny_bind (wpAny_holding (list_sort_data (enc := fun q : Rw => q.2.data) (bs := M2) (s := { s1 with heap := s1.heap.push (seqObj "list" (M2.map fun q => Value.ref q.1).toArray 0) }) hoL (refs_each M2)
    (reads_each fun q hq => PyProof.Rows.Reads.keeps kk (hr q (p2.mem_iff.mp hq))) al2 so2 (by rw [sizeLine_eq]; omega) (fun q hq => ?_) fun out ho he => ?_))
  · have d1 := (R.all q (p2.mem_iff.mp hq)).2
    have d2 := dpt_le q.2
    simp only [Around.in1_units]
    omega
  have eo := each_refs he
  obtain ⟨c, hc⟩ := sortedHeap_at (vs := M2.map fun q => Value.ref q.1) (out := List.toArray out) hoL
  have pn := List.mergeSort_perm M2 leK
  refine wpAny_pure ⟨_, rfl, z _ s1.heap.objs.size (List.toArray out) c (M2.mergeSort leK) (fun b u e => ?_) g1 o1 hz hc (by rw [eo]) (pn.trans p2) (leK_sorted M2)⟩
  have e1 := k1 b u e
  have lt := Heap.lt_size e1
  show (sortedHeap (s1.heap.push (seqObj "list" (M2.map fun q => Value.ref q.1).toArray 0)) s1.heap.objs.size _ _).get? b = some u
  rw [sortedHeap_old (Nat.ne_of_lt lt) (by rw [size_push']; exact Nat.lt_succ_of_lt lt)]
  exact Heap.get?_push_of_some _ e1
end
section
variable {X : Cx}
theorem refs_vals : ∀ M : List Rw, Vals (M.map fun q => V.ref q.1) (M.map fun q => Value.ref q.1)
  | [] => .nil
  | q :: M => .cons rfl (refs_vals M)
/-- sorted(a set of nested tuples) -/
def rSortedK (K : PySem.W.Frag) (w : World) : List V → Hp → VK → Prop := fun vs H Q => ∃ (a : Addr) (M : List Rw), vs = [.ref a] ∧ KSet K w H a M ∧ AllAlike (M.map fun q => q.2.data) ∧ Sortable (M.map fun q => q.2.data) ∧
  ∀ (N : List Rw) (p : Addr), N.Perm M → N.Pairwise (fun a b => leK a b = true) → (N.map Prod.snd).Nodup → N.length < 64 → H p = none → Q (.ref p) (upd H p (.lst (N.map fun q => V.ref q.1)))
theorem cr_sortedK (calm : X.calm = true) (hu : X.A.units + 64 < cLine) : CallR X (.builtin "sorted") (rSortedK X.K X.w) := by
  intro pins s σ H vs us Q I r h
  obtain ⟨a, M, rfl, ks, al, so, q⟩ := h
  rw [Vals.ref1 r]
  have R := kset_get I ks
  have few : M.length < 64 ∧ (M.map Prod.snd).Nodup := by
    obtain ⟨_, _, _, _, R⟩ := R
    exact ⟨R.few, R.nd⟩
  refine sorted_ks R (I.ok.hd calm) hu (fun x hx => ?_) al so fun s2 p out c N k g o hp hg hout pm pw => ?_
  · obtain ⟨as, z⟩ := Dp.reads I _ _ (.ref x.1) (ks.2 x hx) rfl
    have := (nk_reads _ _ as z).2
    rw [this] at z
    exact z
  have ln := pm.length_eq
  have hlen : (N.map fun q => V.ref q.1).length ≤ sizeLine := by rw [List.length_map, sizeLine_eq]; omega
  have hn : H p = none := I.hok.fresh hp
  have J : Inv X pins σ (upd H p (.lst (N.map fun q => V.ref q.1))) { s with heap := s2.heap, gens := s2.gens, drawn := s2.drawn, toks := s2.toks } :=
    I.call (ch := []) (Un.laid k hp hn) (I.hok.laid k hp ⟨hlen, out.toList, c, by rw [hout]; exact refs_vals N, hg⟩) (by rw [g]; exact I.bare) (fun _ z => nomatch z)
  have e : s2 = { s with heap := s2.heap, gens := s2.gens, drawn := s2.drawn, toks := s2.toks } := by
    obtain ⟨x1, x2, x3, x4, x5⟩ := s2
    cases o
    rfl
  rw [e]
  exact ⟨.ref p, _, J, rfl, q N p pm pw ((pm.map Prod.snd).nodup_iff.mpr few.2) (by omega) hn⟩
end
/-- over a tuple that the turns leave as it is -/
theorem sc_tupK {K : PySem.W.Frag} {w : World} {a : Addr} {xs : List V} {g : TG} {tt : L2.TT} {te : TE} {vs : List Nat} {σ : L2.St} {H1 : Hp} {D : Addr} {Qd : Hp → Prop} (Pv : Nat → Hp → Prop) (h0 : Pv 0 (upd H1 D (KSO w D []))) (hl : ∀ i H, i ≤ xs.length → Pv i H → SqT K H a xs)
    (hs : ∀ i x H, xs[i]? = some x → Pv i H → g x (wipe σ vs) H fun σ2 H2 => wipe σ2 vs = wipe σ vs ∧ tt σ2 H2 fun b H3 => if b = true then te σ2 H3 fun y H4 => PutK K w D y H4 (Pv (i + 1)) else Pv (i + 1) H3) (hd : ∀ H, Pv xs.length H → Qd H) :
    ∃ W : Nat → Nat → Hp → Prop, (∃ m, W 0 m (upd H1 D (KSO w D []))) ∧ ∀ i m H, W i m H →
      ((Itt K a).stop i H ∧ Qd H) ∨ ((Itt K a).go i H ∧ ∃ Nx : Hp → Prop, (∀ H', Nx H' → ∃ m', m' < m ∧ W (i + 1) m' H') ∧ ∀ x H', (Itt K a).yld i H x H' → g x (wipe σ vs) H' fun σ2 H2 => wipe σ2 vs = wipe σ vs ∧ tt σ2 H2 fun b H3 =>
        if b = true then te σ2 H3 fun y H4 => PutK K w D y H4 Nx else Nx H3) := by
  refine ⟨fun i m H => m + i = xs.length ∧ Pv i H, ⟨xs.length, rfl, h0⟩, fun i m H ⟨e, p⟩ => ?_⟩
  have q := hl i H (by omega) p
  rcases Nat.lt_or_ge i xs.length with lt | ge
  · refine .inr ⟨⟨xs, xs[i], q, by simp [lt]⟩, Pv (i + 1), fun H2 p2 => ⟨m - 1, by omega, by omega, p2⟩, fun x H2 y => ?_⟩
    obtain ⟨e2, y⟩ := y
    subst e2
    exact hs i x _ (y xs q) p
  · obtain rfl : i = xs.length := by omega
    exact .inl ⟨⟨xs, q, Nat.le_refl _⟩, hd H p⟩
end WT

set_option Elab.async false
set_option linter.all false
set_option maxRecDepth 100000
set_option maxHeartbeats 1000000
/-! The zones of a world, as lists of regions. -/
namespace WT
open PySem PySem.Spec PyProof.Rows L2 PySem.W
instance (x y : Str) : Decidable (Bef x y) := inferInstanceAs (Decidable (x.cps.toList < y.cps.toList))
open Classical in
/-- connected, as a truth value -/
noncomputable def conB (gs : List Gt) (bar : List Str) (x y : Str) : Bool := decide (Conn gs bar x y)
theorem conB_iff {gs : List Gt} {bar : List Str} {x y : Str} : conB gs bar x y = true ↔ Conn gs bar x y := by
  unfold conB
  exact @decide_eq_true_iff _ (Classical.propDecidable _)
/-- an equivalence -/
structure EqvB (R : Str → Str → Bool) : Prop where
  refl : ∀ x, R x x = true
  symm : ∀ {x y}, R x y = true → R y x = true
  trans : ∀ {x y z}, R x y = true → R y z = true → R x z = true
theorem conB_eqv (gs : List Gt) (bar : List Str) : EqvB (conB gs bar) where
  refl := fun x => conB_iff.mpr .refl
  symm := fun h => conB_iff.mpr (conB_iff.mp h).symm
  trans := fun h k => conB_iff.mpr ((conB_iff.mp h).trans (conB_iff.mp k))
def zoneL (R : Str → Str → Bool) (rs : List Str) (x : Str) : List Str := rs.filter (R x)
/-- the first of its zone -/
def headB (R : Str → Str → Bool) (rs : List Str) (x : Str) : Bool := rs.all fun y => !R x y || !decide (Bef y x)
def headsL (R : Str → Str → Bool) (rs : List Str) : List Str := rs.filter (headB R rs)
def zonesL (R : Str → Str → Bool) (rs : List Str) : List (List Str) := (headsL R rs).map (zoneL R rs)
theorem headB_iff {R : Str → Str → Bool} {rs : List Str} {x : Str} : headB R rs x = true ↔ ∀ y ∈ rs, R x y = true → ¬ Bef y x := by
  unfold headB
  rw [List.all_eq_true]
  constructor
  · intro h y hy hr hb
    have := h y hy
    rw [hr, decide_eq_true hb] at this
    cases this
  · intro h y hy
    by_cases hr : R x y = true
    · rw [hr, decide_eq_false (h y hy hr)]
      rfl
    · rw [Bool.not_eq_true] at hr
      rw [hr]
      rfl
theorem mem_zone {R : Str → Str → Bool} {rs : List Str} {x y : Str} : y ∈ zoneL R rs x ↔ y ∈ rs ∧ R x y = true := List.mem_filter
theorem zone_eq {R : Str → Str → Bool} (E : EqvB R) {rs : List Str} {x y : Str} (h : R x y = true) : zoneL R rs x = zoneL R rs y := by
  unfold zoneL
  refine List.filter_congr fun z _ => ?_
  refine Bool.eq_iff_iff.mpr ⟨fun k => E.trans (E.symm h) k, fun k => E.trans h k⟩
theorem mem_heads {R : Str → Str → Bool} {rs : List Str} {x : Str} : x ∈ headsL R rs ↔ x ∈ rs ∧ headB R rs x = true := List.mem_filter
/-- a zone begins with its first region -/
theorem zone_head {R : Str → Str → Bool} (E : EqvB R) {rs : List Str} (A : AscS rs) {x : Str} (hx : x ∈ rs) : ∃ h t, zoneL R rs x = h :: t ∧ h ∈ headsL R rs ∧ R x h = true := by
  have A2 : AscS (zoneL R rs x) := List.Pairwise.filter _ A
  cases e : zoneL R rs x with
  | nil =>
    have : x ∈ zoneL R rs x := mem_zone.mpr ⟨hx, E.refl x⟩
    rw [e] at this
    cases this
  | cons h t =>
    have hm : h ∈ zoneL R rs x := by rw [e]; exact List.mem_cons_self
    obtain ⟨h1, h2⟩ := mem_zone.mp hm
    refine ⟨h, t, rfl, mem_heads.mpr ⟨h1, headB_iff.mpr fun y hy hr hb => ?_⟩, h2⟩
    have ym : y ∈ zoneL R rs x := mem_zone.mpr ⟨hy, E.trans h2 hr⟩
    rw [e] at ym A2
    rcases List.mem_cons.mp ym with z | z
    · rw [z] at hb
      exact hb.ne rfl
    · exact (hb.trans ((List.pairwise_cons.mp A2).1 y z)).ne rfl
theorem head_zone {R : Str → Str → Bool} (E : EqvB R) {rs : List Str} (A : AscS rs) {x : Str} (hx : x ∈ headsL R rs) : ∃ t, zoneL R rs x = x :: t := by
  obtain ⟨h1, h2⟩ := mem_heads.mp hx
  obtain ⟨h, t, e, hh, r⟩ := zone_head E A h1
  have k := mem_heads.mp hh
  have : h = x := by
    rcases str_tri h x with c | c | c
    · exact absurd c (headB_iff.mp h2 h k.1 r)
    · exact c
    · exact absurd c (headB_iff.mp k.2 x h1 (E.symm r))
  exact ⟨t, by rw [e, this]⟩
theorem heads_asc {R : Str → Str → Bool} {rs : List Str} (A : AscS rs) : AscS (headsL R rs) := List.Pairwise.filter _ A
/-- ascending lists of the same texts are the same -/
theorem ascs_ext : ∀ {xs ys : List Str}, AscS xs → AscS ys → (∀ z, z ∈ xs ↔ z ∈ ys) → xs = ys
  | [], [], _, _, _ => rfl
  | [], y :: ys, _, _, h => absurd ((h y).mpr List.mem_cons_self) List.not_mem_nil
  | x :: xs, [], _, _, h => absurd ((h x).mp List.mem_cons_self) List.not_mem_nil
  | x :: xs, y :: ys, a, b, h => by
    obtain ⟨a1, a2⟩ := List.pairwise_cons.mp a
    obtain ⟨b1, b2⟩ := List.pairwise_cons.mp b
    have e : x = y := by
      rcases List.mem_cons.mp ((h x).mp List.mem_cons_self) with c | c
      · exact c
      · rcases List.mem_cons.mp ((h y).mpr List.mem_cons_self) with d | d
        · exact d.symm
        · exact absurd rfl ((b1 x c).trans (a1 y d)).ne
    subst e
    refine congrArg _ (ascs_ext a2 b2 fun z => ⟨fun m => ?_, fun m => ?_⟩)
    · rcases List.mem_cons.mp ((h z).mp (List.mem_cons_of_mem _ m)) with c | c
      · rw [c] at m
        exact absurd rfl (a1 x m).ne
      · exact c
    · rcases List.mem_cons.mp ((h z).mpr (List.mem_cons_of_mem _ m)) with c | c
      · rw [c] at m
        exact absurd rfl (b1 x m).ne
      · exact c
/-- a tuple of texts as data -/
abbrev tupD (l : List Str) : PyData := .tuple (l.map PyData.str)
theorem tup_lt {x y : Str} {xs ys : List Str} (ne : x ≠ y) (h : dataLt (tupD (y :: ys)) (tupD (x :: xs)) = false) : Bef x y := by
  rw [dataLt_tuple, List.map_cons, List.map_cons, dataLt_cons (by simp [alike])] at h
  have ee : PyData.eqv (.str y) (.str x) = false := by
    rw [PyData.eqv]
    exact beq_eq_false_iff_ne.mpr fun z => ne z.symm
  rw [ee, if_neg Bool.false_ne_true, dataLt_str] at h
  exact bef_of (of_decide_eq_false h) ne
theorem tup_le {x y : Str} {xs ys : List Str} (b : Bef x y) : dataLt (tupD (y :: ys)) (tupD (x :: xs)) = false := by
  rw [dataLt_tuple, List.map_cons, List.map_cons, dataLt_cons (by simp [alike])]
  have ee : PyData.eqv (.str y) (.str x) = false := by
    rw [PyData.eqv]
    exact beq_eq_false_iff_ne.mpr fun z => b.ne z.symm
  rw [ee, if_neg Bool.false_ne_true, dataLt_str]
  exact decide_eq_false fun z => absurd rfl (Bef.trans b z).ne
/-- the zones are the only such list -/
theorem zones_only {R : Str → Str → Bool} (E : EqvB R) {rs : List Str} (A : AscS rs) {Z : List (List Str)} (mem : ∀ l, l ∈ Z ↔ ∃ x ∈ rs, l = zoneL R rs x) (nd : Z.Nodup) (srt : Z.Pairwise fun l m => dataLt (tupD m) (tupD l) = false) : Z = zonesL R rs := by
  have hd : ∀ l ∈ Z, ∃ h t, l = h :: t ∧ h ∈ headsL R rs ∧ l = zoneL R rs h := fun l hl => by
    obtain ⟨x, hx, e⟩ := (mem l).mp hl
    obtain ⟨h, t, e2, hh, r⟩ := zone_head E A hx
    exact ⟨h, t, by rw [e, e2], hh, by rw [e, zone_eq E r]⟩
  have eZ : Z = (Z.map fun l => l.headD "").map (zoneL R rs) := by
    rw [List.map_map]
    conv => lhs; rw [← List.map_id Z]
    refine List.map_congr_left fun l hl => ?_
    obtain ⟨h, t, e, _, e2⟩ := hd l hl
    show l = zoneL R rs (l.headD "")
    rw [e] at e2 ⊢
    exact e2
  have asc : AscS (Z.map fun l => l.headD "") := by
    unfold AscS
    rw [List.pairwise_map]
    refine List.Pairwise.imp_of_mem (fun {l m} hl hm ⟨k, ne⟩ => ?_) (srt.and nd)
    obtain ⟨h, t, e, _, e2⟩ := hd l hl
    obtain ⟨h', t', e', _, e2'⟩ := hd m hm
    rw [e, e'] at k ⊢
    refine tup_lt (fun z => ne ?_) k
    have z : h = h' := z
    rw [e2, e2', z]
  have hm : ∀ z, z ∈ (Z.map fun l => l.headD "") ↔ z ∈ headsL R rs := fun z => by
    rw [List.mem_map]
    constructor
    · rintro ⟨l, hl, rfl⟩
      obtain ⟨h, t, e, hh, _⟩ := hd l hl
      rw [e]
      exact hh
    · intro hz
      obtain ⟨t, e⟩ := head_zone E A hz
      exact ⟨zoneL R rs z, (mem _).mpr ⟨z, (mem_heads.mp hz).1, rfl⟩, by rw [e]; rfl⟩
  rw [eZ, ascs_ext asc (heads_asc A) hm]
  rfl
/-- the zones stand in order -/
theorem zones_sorted {R : Str → Str → Bool} (E : EqvB R) {rs : List Str} (A : AscS rs) : (zonesL R rs).Pairwise fun l m => dataLt (tupD m) (tupD l) = false := by
  unfold zonesL
  rw [List.pairwise_map]
  refine List.Pairwise.imp_of_mem (fun {x y} hx hy b => ?_) (heads_asc (R := R) A)
  obtain ⟨t, e⟩ := head_zone E A hx
  obtain ⟨t', e'⟩ := head_zone E A hy
  rw [e, e']
  exact tup_le b
theorem zones_congr {R R' : Str → Str → Bool} {rs : List Str} (h : ∀ x ∈ rs, ∀ y ∈ rs, R x y = R' x y) : zonesL R rs = zonesL R' rs := by
  have h1 : headsL R rs = headsL R' rs := List.filter_congr fun x hx => by
    unfold headB
    refine Bool.eq_iff_iff.mpr ?_
    rw [List.all_eq_true, List.all_eq_true]
    exact ⟨fun k y hy => by rw [← h x hx y hy]; exact k y hy, fun k y hy => by rw [h x hx y hy]; exact k y hy⟩
  unfold zonesL
  rw [h1]
  refine List.map_congr_left fun x hx => ?_
  exact List.filter_congr fun y hy => h x (mem_heads.mp hx).1 y hy
/-- such a tuple as a key -/
abbrev keyT (l : List Str) : NestedKey := .tup (l.map NestedKey.text)
theorem datas_texts : ∀ l : List Str, NestedKey.datas (l.map NestedKey.text) = l.map PyData.str
  | [] => by rw [List.map_nil, NestedKey.datas, List.map_nil]
  | x :: l => by rw [List.map_cons, NestedKey.datas, datas_texts l, NestedKey.data, List.map_cons]
theorem keyT_data (l : List Str) : (keyT l).data = tupD l := by
  rw [NestedKey.data, datas_texts]
theorem depths_texts : ∀ l : List Str, NestedKey.depthAll (l.map NestedKey.text) = 0
  | [] => by rw [List.map_nil, NestedKey.depthAll]
  | x :: l => by rw [List.map_cons, NestedKey.depthAll, depths_texts l, NestedKey.depth]; rfl
theorem keyT_depth (l : List Str) : (keyT l).depth ≤ 8 := by
  rw [NestedKey.depth, depths_texts]
  decide
theorem texts_inj : ∀ {l m : List Str}, l.map NestedKey.text = m.map NestedKey.text → l = m
  | [], [], _ => rfl
  | [], _ :: _, h => nomatch h
  | _ :: _, [], h => nomatch h
  | x :: l, y :: m, h => by
    rw [List.map_cons, List.map_cons] at h
    injection h with h1 h2
    injection h1 with h1
    rw [h1, texts_inj h2]
theorem keyT_inj {l m : List Str} (h : keyT l = keyT m) : l = m := by
  injection h with h
  exact texts_inj h
/-- tuples of texts in memory -/
abbrev TupsAt (H : Hp) : List Addr → List (List Str) → Prop := Paired fun t (l : List Str) => H t = some (.tup (l.map V.str))
theorem tups_at_same {H H' : Hp} {ts : List Addr} {ls : List (List Str)} (h : TupsAt H ts ls) (s : ∀ t xs, H t = some (.tup xs) → H' t = some (.tup xs)) : TupsAt H' ts ls := Paired.mapP h fun _ _ z => s _ _ z
theorem dpT_strs {K : PySem.W.Frag} {H : Hp} {t : Addr} {l : List Str} (h : H t = some (.tup (l.map V.str))) : Dp K H (.ref t) (keyT l).data := by
  rw [keyT_data]
  exact .tup (SqT.of h) (dp_strs l)
/-- the rows that a set of zones has -/
theorem rows_out {R : Str → Str → Bool} (E : EqvB R) {rs : List Str} (A : AscS rs) {N : List Rw} {H : Hp} (hn : ∀ q ∈ N, ∃ l, q.2 = keyT l ∧ H q.1 = some (.tup (l.map V.str)) ∧ ∃ x ∈ rs, l = zoneL R rs x) (all : ∀ x ∈ rs, keyT (zoneL R rs x) ∈ N.map Prod.snd) (nd : (N.map Prod.snd).Nodup)
    (srt : N.Pairwise fun a b => leK a b = true) : TupsAt H (N.map Prod.fst) (zonesL R rs) := by
  obtain ⟨Z, eZ, pZ⟩ : ∃ Z : List (List Str), N.map Prod.snd = Z.map keyT ∧ TupsAt H (N.map Prod.fst) Z ∧ ∀ l ∈ Z, ∃ x ∈ rs, l = zoneL R rs x := by
    clear all nd srt
    induction N with
    | nil => exact ⟨[], rfl, .nil, fun l hl => absurd hl List.not_mem_nil⟩
    | cons q N ih =>
      obtain ⟨Z, e, p, m⟩ := ih fun r hr => hn r (List.mem_cons_of_mem _ hr)
      obtain ⟨l, e1, e2, e3⟩ := hn q List.mem_cons_self
      refine ⟨l :: Z, by rw [List.map_cons, List.map_cons, e, e1], .cons e2 p, fun l' hl => ?_⟩
      rcases List.mem_cons.mp hl with z | z
      · rw [z]; exact e3
      · exact m l' z
  have e : Z = zonesL R rs := by
    refine zones_only E A (fun l => ⟨pZ.2 l, fun ⟨x, hx, e⟩ => ?_⟩) ?_ ?_
    · have := all x hx
      rw [eZ] at this
      obtain ⟨l', h1, h2⟩ := List.mem_map.mp this
      rw [e, ← keyT_inj h2]
      exact h1
    · rw [eZ] at nd
      exact List.Pairwise.of_map keyT (fun _ _ ne z => ne (congrArg keyT z)) nd
    · have s2 : (N.map Prod.snd).Pairwise fun a b => dataLt b.data a.data = false := by
        rw [List.pairwise_map]
        refine srt.imp fun {a b} k => ?_
        have k : (!dataLt b.2.data a.2.data) = true := k
        rwa [Bool.not_eq_true'] at k
      rw [eZ, List.pairwise_map] at s2
      refine s2.imp fun {a b} k => ?_
      rw [keyT_data, keyT_data] at k
      exact k
  rw [← e]
  exact pZ.1
theorem alike_tups : ∀ l m : List Str, alike (tupD l) (tupD m) = true := fun l m => by
  show alike (.tuple _) (.tuple _) = true
  rw [alike, alikeAll_strs]
theorem mem_zones {R : Str → Str → Bool} {rs : List Str} {l : List Str} (h : l ∈ zonesL R rs) : ∃ x ∈ headsL R rs, l = zoneL R rs x := by
  obtain ⟨x, hx, e⟩ := List.mem_map.mp h
  exact ⟨x, hx, e.symm⟩
theorem zone_sub {R : Str → Str → Bool} {rs : List Str} {l : List Str} (h : l ∈ zonesL R rs) : (∀ y ∈ l, y ∈ rs) ∧ l.length ≤ rs.length := by
  obtain ⟨x, _, rfl⟩ := mem_zones h
  exact ⟨fun y hy => (mem_zone.mp hy).1, List.length_filter_le _ _⟩
theorem zones_len {R : Str → Str → Bool} {rs : List Str} : (zonesL R rs).length ≤ rs.length := by
  unfold zonesL
  rw [List.length_map]
  exact List.length_filter_le _ _
theorem zones_flat {R : Str → Str → Bool} (E : EqvB R) {rs : List Str} (A : AscS rs) : (zonesL R rs).flatten.Nodup ∧ ∀ z, z ∈ (zonesL R rs).flatten ↔ z ∈ rs := by
  refine ⟨?_, fun z => ?_⟩
  · unfold List.Nodup
    rw [List.pairwise_flatten]
    refine ⟨fun l hl => ?_, ?_⟩
    · obtain ⟨x, _, rfl⟩ := mem_zones hl
      exact (List.Pairwise.filter _ A).imp fun {a b} h => Bef.ne h
    · unfold zonesL
      rw [List.pairwise_map]
      refine List.Pairwise.imp_of_mem (fun {x y} hx hy b u hu v hv e => ?_) (heads_asc (R := R) A)
      subst e
      have r1 := (mem_zone.mp hu).2
      have r2 := (mem_zone.mp hv).2
      obtain ⟨k1, k2⟩ := mem_heads.mp hx
      obtain ⟨k3, k4⟩ := mem_heads.mp hy
      exact headB_iff.mp k4 x k1 (E.trans r2 (E.symm r1)) b
  · rw [List.mem_flatten]
    constructor
    · rintro ⟨l, hl, hz⟩
      exact (zone_sub hl).1 z hz
    · intro hz
      obtain ⟨h, t, e, hh, r⟩ := zone_head E A hz
      exact ⟨zoneL R rs h, List.mem_map.mpr ⟨h, hh, rfl⟩, mem_zone.mpr ⟨hz, E.symm r⟩⟩
end WT

set_option Elab.async false
set_option linter.all false
set_option maxRecDepth 100000
set_option maxHeartbeats 1000000
namespace K14
open PySem PySem.Spec PyProof.Rows L2 WT
abbrev st_wrapping_names : Stmt := top 5
theorem sc_wrapping_names : FnScope ["world", "name", "those", "kind"] ["world"] (defScope st_wrapping_names) := ⟨rfl, rfl, rfl, by decide +kernel, rfl, by decide +kernel, by decide +kernel⟩
abbrev st_zone_of : Stmt := top 11
theorem sc_zone_of : FnScope ["world", "region", "walls", "other"] ["world", "region"] (defScope st_zone_of) := ⟨rfl, rfl, rfl, by decide +kernel, rfl, by decide +kernel, by decide +kernel⟩
abbrev st_zones : Stmt := top 12
theorem sc_zones : FnScope ["world", "region"] ["world"] (defScope st_zones) := ⟨rfl, rfl, rfl, by decide +kernel, rfl, by decide +kernel, by decide +kernel⟩
section
variable {P : Program} {w : World} {K : PySem.W.Frag} {mg : Str → Option Value} {base : Heap} {f fW fC fZ : Addr} {fd fdW fdC fdZ : FuncData} {dT : Addr}
def spWnames : Sp := fun vs H Q _ => ∃ (wa r g : Addr) (as : List Addr) (rs : List Str) (gs : List Gt), vs = [.ref wa] ∧ WorldAt H wa r g as rs gs ∧ gs.length ≤ 100 ∧
  ∀ (H' : Hp) (p : Addr), Same H H' → H' p = some (.tup ((wrapsW gs).map V.str)) → Q (.ref p) H'
theorem ok_wrapping_names (F : Fun K "wrapping_names" "wrapping_names" st_wrapping_names f fd) (B : Blt mg) : FnOk P w K mg base CX0 1 f fd ["world"] spWnames := by
  refine F.ok sc_wrapping_names (fun vs H Q E h => ?_) (fun cdv A outer s H vs Q E hr h => ?_)
  · obtain ⟨_, _, _, _, _, _, rfl, _⟩ := h
    rfl
  · obtain ⟨wa, r, g, as, rs, gs, rfl, hw, hgl, q⟩ := h
    refine ⟨_, (pss_one (ps_ret (pe_callTy call_tuple_of (by rfl) B.tuple (by decide +kernel) (pa_cons (pe_lc (own := [("name", 1), ("those", 2), ("kind", 3)]) (by rfl) sc_wrapping_names.nd (pi_tup (pe_ix ix_tup (pv 0) pe_int (fun _ _ => rfl))) (blkOk_by (own := [("name", 1), ("those", 2), ("kind", 3)]) (N := ["world", "name", "those", "kind"]) (sc := defScope st_wrapping_names) (by decide +kernel)) (fun _ _ _ _ _ => (pg_tupK (K := K) (n := 3) rfl (pgs_cons (pg_name (i := 1) sc_wrapping_names.nd rfl (.inl rfl)) (pgs_cons (pg_name (i := 2) sc_wrapping_names.nd rfl (.inl rfl)) (pgs_cons (pg_name (i := 3) sc_wrapping_names.nd rfl (.inl rfl)) pgs_nil))))) (fun _ _ _ _ _ => (pts_one (pt_cmpR op_eq (pv 3) pe_str (nomark _)))) (fun _ _ _ _ _ => (pv 1))) pa_nil)))), ?_⟩
    have hlen := Paired.length hw.each
    refine ⟨_, rfl, wa, _, 1, .ref g, rfl, rfl, SqT.of hw.top, atI_nat (j := 1) rfl, g, rfl, ⟨_, SqT.of hw.gat⟩, fun N nN => lc_tup (K := K) (a := g) (xs := as.map V.ref) (fun m H' => Same H H' ∧ H' N = some (.lst ((wrapsW (gs.take m)).map V.str)))
      ⟨same_new nN, by rw [upd_same]; rfl⟩ (fun m H' _ ⟨s', _⟩ => SqT.of (s' _ _ hw.gat)) (fun m v H2 hm hP => ?_) fun H2 hP => ?_⟩
    · obtain ⟨s2, hN⟩ := hP
      rw [List.getElem?_map] at hm
      obtain ⟨t, ht, rfl⟩ := Option.map_eq_some_iff.mp hm
      obtain ⟨gg, hgg, ia, e1, e2⟩ := pair_at (hw.same s2).each ht
      have stp : wrapsW (gs.take (m + 1)) = wrapsW (gs.take m) ++ (if gg.2.2 = ("wrap" : Str) then [gg.1] else []) := by
        unfold wrapsW
        rw [List.take_add_one, hgg, List.filter_append, List.map_append]
        by_cases c : gg.2.2 = ("wrap" : Str)
        · rw [if_pos c]
          simp [c]
        · rw [if_neg c]
          simp [c]
      refine ⟨t, [.str gg.1, .ref ia, .str gg.2.2], rfl, SqT.of e1, rfl, .str gg.1, _, rfl, .ref ia, _, rfl, .str gg.2.2, [], rfl, rfl, rfl, _, rfl, rfl, _, rfl, ?_⟩
      by_cases c : gg.2.2 = ("wrap" : Str)
      · refine ifT (by simp [c]) ⟨_, rfl, _, hN, ?_, ?_, ?_⟩
        · have l1 : (wrapsW (gs.take m)).length ≤ gs.length := by
            unfold wrapsW
            rw [List.length_map]
            refine Nat.le_trans (List.length_filter_le _ _) ?_
            rw [List.length_take]
            exact Nat.min_le_right _ _
          rw [List.length_map]
          exact Nat.lt_of_le_of_lt (show (wrapsW (gs.take m)).length ≤ 100 by omega) (by decide)
        · intro c o ec
          rw [upd_ne (ne_of_none ec nN)]
          exact s2 _ _ ec
        · rw [upd_same, stp, if_pos c, List.map_append]
          rfl
      · refine ifF (by simp [c]) ⟨s2, ?_⟩
        rw [stp, if_neg c, List.append_nil]
        exact hN
    · obtain ⟨s2, hN⟩ := hP
      rw [List.length_map, hlen, List.take_length] at hN
      exact ⟨N, _, rfl, .inl ⟨SqL.of hN, fun t nt => q _ t (s2.trans (same_new nt)) upd_same⟩⟩
/-- a world as the searches want it -/
def WIn (rs : List Str) (gs : List Gt) : Prop := rs.length ≤ 60 ∧ gs.length ≤ 100 ∧ (gs.map (·.1)).Nodup ∧ ∀ g ∈ gs, g.2.1.length ≤ 100 ∧ ∀ y ∈ g.2.1, y ∈ rs
/-- zone_of(world, region) -/
def spZoneOf (K : PySem.W.Frag) : Sp := fun vs H Q _ => ∃ (wa r g : Addr) (as : List Addr) (rs : List Str) (gs : List Gt) (x : Str), vs = [.ref wa, .str x] ∧ WorldAt H wa r g as rs gs ∧ WIn rs gs ∧ x ∈ rs ∧
  ∀ (H' : Hp) (p : Addr), Same H H' → H' p = some (.tup ((zoneL (conB gs (wrapsW gs)) rs x).map V.str)) → Q (.ref p) H'
theorem ok_zone_of (F : Fun K "zone_of" "zone_of" st_zone_of f fd) (B : Blt mg) (F_wrapping_names : DfO P w K mg base "wrapping_names" 1 fW fdW ["world"] spWnames) (F_connected : DkO P w K mg base "connected" 3 fC fdC ["world", "one", "other", "without"] 3 "without" (.ref dT) (spConn K)) :
    FnOk P w K mg base CX0 4 f fd ["world", "region"] (spZoneOf K) := by
  refine F.ok sc_zone_of (fun vs H Q E h => ?_) (fun cdv A outer s H vs Q E hr h => ?_)
  · obtain ⟨_, _, _, _, _, _, _, rfl, _⟩ := h
    rfl
  · obtain ⟨wa, r, g, as, rs, gs, x, rfl, hw, ⟨hrl, hgl, hnd, hin⟩, hx, q⟩ := h
    refine ⟨_, (pss_cons (ps_set (i := 2) sc_zone_of.nd rfl (.inr rfl) (pe_call F_wrapping_names.G (hr.mono (by decide)) (by rfl) F_wrapping_names.g F_wrapping_names.kp F_wrapping_names.bd .nil pass0 (pa_cons (pv 0) pa_nil)))
      (pss_one (ps_ret (pe_callTy call_tuple_of (by rfl) B.tuple (by decide +kernel) (pa_cons (pe_lc (own := [("other", 3)]) (by rfl) sc_zone_of.nd (pi_tup (pe_ix ix_tup (pv 0) pe_int (fun _ _ => rfl))) (blkOk_by (own := [("other", 3)]) (N := ["world", "region", "walls", "other"]) (sc := defScope st_zone_of) (by decide +kernel)) (fun _ _ _ _ _ => (pg_name (i := 3) sc_zone_of.nd rfl (.inl rfl))) (fun _ _ _ _ _ => (pts_one (pt_val (pe_callKO (n := 3) (m := 1) (ks := ["without"]) F_connected.G (hr.mono (by decide)) (by rfl) F_connected.g F_connected.kp F_connected.kb pass0 (pa_cons (pv 0) (pa_cons (pv 1) (pa_cons (pv 3) pa_nil))) (pk_cons (pv 2) pk_nil))))) (fun _ _ _ _ _ => (pv 3))) pa_nil))))), ?_⟩
    refine ⟨_, rfl, wa, r, g, as, rs, gs, rfl, hw, hgl, fun H1 p s1 hp => ?_⟩
    have hw1 := hw.same s1
    refine ⟨_, rfl, wa, _, 0, .ref r, rfl, rfl, SqT.of hw1.top, atI_nat (j := 0) rfl, r, rfl, ⟨_, SqT.of hw1.reg⟩, fun D nD => lc_tup (K := K) (a := r) (xs := rs.map V.str) (fun m H' => Same H1 H' ∧ H' D = some (.lst ((zoneL (conB gs (wrapsW gs)) (rs.take m) x).map V.str)))
      ⟨same_new nD, by rw [upd_same]; rfl⟩ (fun m H' _ ⟨s', _⟩ => SqT.of (s' _ _ hw1.reg)) (fun m v H2 hm hP => ?_) fun H2 hP => ?_⟩
    · obtain ⟨s2, hD⟩ := hP
      rw [List.getElem?_map] at hm
      obtain ⟨y, hy, rfl⟩ := Option.map_eq_some_iff.mp hm
      have stp : zoneL (conB gs (wrapsW gs)) (rs.take (m + 1)) x = zoneL (conB gs (wrapsW gs)) (rs.take m) x ++ (if conB gs (wrapsW gs) x y = true then [y] else []) := by
        unfold zoneL
        rw [List.take_add_one, hy, List.filter_append]
        by_cases c : conB gs (wrapsW gs) x y = true
        · rw [if_pos c]
          simp [c]
        · rw [if_neg c]
          simp [c]
      refine ⟨rfl, _, rfl, _, rfl, _, rfl, _, rfl, rfl, rfl, wa, r, g, p, as, rs, gs, x, y, wrapsW gs, rfl, hw1.same s2, SqT.of (s2 _ _ hp), by omega, hgl, hnd, hin, hx, fun H3 c s3 hc => ?_⟩
      have ec : c = conB gs (wrapsW gs) x y := iff_same hc conB_iff
      refine ⟨_, rfl, ?_⟩
      by_cases cc : c = true
      · refine ifT cc ⟨_, rfl, _, s3 _ _ hD, ?_, ?_, ?_⟩
        · have l1 : (zoneL (conB gs (wrapsW gs)) (rs.take m) x).length ≤ rs.length := by
            refine Nat.le_trans (List.length_filter_le _ _) ?_
            rw [List.length_take]
            exact Nat.min_le_right _ _
          rw [List.length_map]
          exact Nat.lt_of_le_of_lt (show (zoneL (conB gs (wrapsW gs)) (rs.take m) x).length ≤ 100 by omega) (by decide)
        · intro c o ec
          rw [upd_ne (ne_of_none ec nD)]
          exact s3 _ _ (s2 _ _ ec)
        · rw [upd_same, stp, if_pos (by rw [← ec]; exact cc), List.map_append]
          rfl
      · refine ifF (by rw [Bool.not_eq_true] at cc; exact cc) ⟨s2.trans s3, ?_⟩
        rw [stp, if_neg (by rw [← ec]; exact cc), List.append_nil]
        exact s3 _ _ hD
    · obtain ⟨s2, hD⟩ := hP
      rw [List.length_map, List.take_length] at hD
      exact ⟨D, _, rfl, .inl ⟨SqL.of hD, fun t nt => q _ t ((s1.trans s2).trans (same_new nt)) upd_same⟩⟩
/-- zones(world) -/
def spZones : Sp := fun vs H Q _ => ∃ (wa r g : Addr) (as : List Addr) (rs : List Str) (gs : List Gt), vs = [.ref wa] ∧ WorldAt H wa r g as rs gs ∧ WIn rs gs ∧ AscS rs ∧
  ∀ (H' : Hp) (p : Addr) (ts : List Addr), Same H H' → H' p = some (.tup (ts.map V.ref)) → TupsAt H' ts (zonesL (conB gs (wrapsW gs)) rs) → Q (.ref p) H'
theorem ok_zones (F : Fun K "zones" "zones" st_zones f fd) (B : Blt mg) (F_zone_of : DfO P w K mg base "zone_of" 4 fZ fdZ ["world", "region"] (spZoneOf K)) : FnOk P w K mg base CX0 5 f fd ["world"] spZones := by
  refine F.ok sc_zones (fun vs H Q E h => ?_) (fun cdv A outer s H vs Q E hr h => ?_)
  · obtain ⟨_, _, _, _, _, _, rfl, _⟩ := h
    rfl
  · obtain ⟨wa, r, g, as, rs, gs, rfl, hw, hin, asc, q⟩ := h
    refine ⟨_, (pss_one (ps_ret (pe_callTy call_tuple_of (by rfl) B.tuple (by decide +kernel) (pa_cons (pe_callB (cr_sortedK (by rfl) hr.units) (by rfl) B.sorted (by decide +kernel) (pa_cons (pe_scK (own := [("region", 1)]) (by rfl) hr.units sc_zones.nd (pi_tup (pe_ix ix_tup (pv 0) pe_int (fun _ _ => rfl))) (blkOk_by (own := [("region", 1)]) (N := ["world", "region"]) (sc := defScope st_zones) (by decide +kernel)) (fun _ _ _ _ _ => (pg_name (i := 1) sc_zones.nd rfl (.inl rfl))) (fun _ _ _ _ _ => pts_nil) (fun _ _ _ _ _ => (pe_call F_zone_of.G (hr.mono (by decide)) (by rfl) F_zone_of.g F_zone_of.kp F_zone_of.bd .nil pass0 (pa_cons (pv 0) (pa_cons (pv 1) pa_nil))))) pa_nil)) pa_nil)))), ?_⟩
    have hrl := hin.1
    refine ⟨_, rfl, wa, _, 0, .ref r, rfl, rfl, SqT.of hw.top, atI_nat (j := 0) rfl, r, rfl, ⟨_, SqT.of hw.reg⟩, fun D nD => sc_tupK (K := K) (w := w) (a := r) (xs := rs.map V.str)
      (fun m H' => Same H H' ∧ ∃ M : List Rw, H' D = some (KSO w D M) ∧ (∀ q ∈ M, ∃ l, q.2 = keyT l ∧ H' q.1 = some (.tup (l.map V.str)) ∧ ∃ x ∈ rs, l = zoneL (conB gs (wrapsW gs)) rs x) ∧ (∀ x ∈ rs.take m, keyT (zoneL (conB gs (wrapsW gs)) rs x) ∈ M.map Prod.snd) ∧ M.length ≤ m)
      ⟨same_new nD, [], upd_same, fun q hq => absurd hq List.not_mem_nil, fun x hx => absurd hx List.not_mem_nil, Nat.le_refl _⟩ (fun m H' _ ⟨s', _⟩ => SqT.of (s' _ _ hw.reg)) (fun m v H2 hm hP => ?_) fun H2 hP => ?_⟩
    · obtain ⟨s2, M, hD, hM, aM, lM⟩ := hP
      rw [List.getElem?_map] at hm
      obtain ⟨x, hx, rfl⟩ := Option.map_eq_some_iff.mp hm
      have xr := List.mem_of_getElem? hx
      have mlt : m < rs.length := (List.getElem?_eq_some_iff.mp hx).1
      refine ⟨rfl, _, rfl, _, rfl, wa, r, g, as, rs, gs, x, rfl, hw.same s2, hin, xr, fun H3 t s3 ht => ?_⟩
      have hD3 := s3 _ _ hD
      have hM3 : ∀ q ∈ M, ∃ l, q.2 = keyT l ∧ H3 q.1 = some (.tup (l.map V.str)) ∧ ∃ x ∈ rs, l = zoneL (conB gs (wrapsW gs)) rs x := fun q hq => by
        obtain ⟨l, e1, e2, e3⟩ := hM q hq
        exact ⟨l, e1, s3 _ _ e2, e3⟩
      refine ⟨(t, keyT (zoneL (conB gs (wrapsW gs)) rs x)), M, rfl, ⟨hD3, fun q hq => ?_⟩, dpT_strs ht, keyT_depth _, by omega, fun N c1 c2 => ?_⟩
      · obtain ⟨l, e1, e2, _⟩ := hM3 q hq
        rw [e1]
        exact dpT_strs e2
      have keep : ∀ (c : Addr) (xs : List V) (o : HO), H3 c = some (.tup xs) → upd H3 D o c = some (.tup xs) := fun c xs o e => by
        rw [upd_ne (ne_of e hD3 (by intro z; cases z))]
        exact e
      have old : ∀ q ∈ M, ∃ l, q.2 = keyT l ∧ (upd H3 D (KSO w D N)) q.1 = some (.tup (l.map V.str)) ∧ ∃ x ∈ rs, l = zoneL (conB gs (wrapsW gs)) rs x := fun q hq => by
        obtain ⟨l, e1, e2, e3⟩ := hM3 q hq
        exact ⟨l, e1, keep _ _ _ e2, e3⟩
      refine ⟨fun c o ec => ?_, N, upd_same, ?_⟩
      · rw [upd_ne (ne_of_none ec nD)]
        exact s3 _ _ (s2 _ _ ec)
      have tk : ∀ (Y : List NestedKey), (∀ k ∈ M.map Prod.snd, k ∈ Y) → keyT (zoneL (conB gs (wrapsW gs)) rs x) ∈ Y → ∀ y ∈ rs.take (m + 1), keyT (zoneL (conB gs (wrapsW gs)) rs y) ∈ Y := fun Y h1 h2 y hy => by
        rw [List.take_add_one, hx] at hy
        rcases List.mem_append.mp hy with z | z
        · exact h1 _ (aM y z)
        · have : y = x := by simpa using z
          rw [this]
          exact h2
      rcases Classical.em (keyT (zoneL (conB gs (wrapsW gs)) rs x) ∈ M.map Prod.snd) with c | c
      · have e := c1 c
        rw [e]
        rw [e] at old
        exact ⟨old, tk _ (fun _ z => z) c, by omega⟩
      · have pm := c2 c
        refine ⟨fun q hq => ?_, tk _ (fun k hk => (pm.map Prod.snd).mem_iff.mpr (List.mem_cons_of_mem _ hk)) ((pm.map Prod.snd).mem_iff.mpr List.mem_cons_self), by rw [pm.length_eq, List.length_cons]; omega⟩
        rcases List.mem_cons.mp (pm.mem_iff.mp hq) with z | z
        · rw [z]
          exact ⟨_, rfl, keep _ _ _ ht, x, xr, rfl⟩
        · exact old q z
    · obtain ⟨s2, M, hD, hM, aM, lM⟩ := hP
      rw [List.length_map, List.take_length] at aM
      have dM : ∀ q ∈ M, ∃ l, q.2.data = tupD l := fun q hq => by
        obtain ⟨l, e1, _⟩ := hM q hq
        exact ⟨l, by rw [e1, keyT_data]⟩
      refine ⟨D, M, rfl, ⟨hD, fun q hq => ?_⟩, ?_, .inl ?_, fun N L pm pw nd few nL => ?_⟩
      · obtain ⟨l, e1, e2, _⟩ := hM q hq
        rw [e1]
        exact dpT_strs e2
      · intro d hd d' hd'
        obtain ⟨q1, h1, rfl⟩ := List.mem_map.mp hd
        obtain ⟨q2, h2, rfl⟩ := List.mem_map.mp hd'
        obtain ⟨l1, e1⟩ := dM q1 h1
        obtain ⟨l2, e2⟩ := dM q2 h2
        show PySem.W.alike q1.2.data q2.2.data = true
        rw [e1, e2]
        exact alike_tups l1 l2
      · intro d hd
        obtain ⟨q1, h1, rfl⟩ := List.mem_map.mp hd
        obtain ⟨l, e1, _, x, hx, e3⟩ := hM q1 h1
        obtain ⟨h, t, e4, _⟩ := zone_head (conB_eqv gs (wrapsW gs)) asc hx
        refine ⟨.str h, t.map PyData.str, ?_⟩
        show q1.2.data = _
        rw [e1, keyT_data, e3, e4]
        rfl
      have zL := same_new nL (o := .lst (N.map fun q => V.ref q.1))
      have out : TupsAt H2 (N.map Prod.fst) (zonesL (conB gs (wrapsW gs)) rs) := rows_out (conB_eqv gs (wrapsW gs)) asc (fun q hq => hM q (pm.mem_iff.mp hq)) (fun x hx => (pm.map Prod.snd).mem_iff.mpr (aM x hx)) nd pw
      refine ⟨L, _, rfl, .inl ⟨SqL.of upd_same, fun t nt => ?_⟩⟩
      have zt := same_new nt (o := .tup (N.map fun q => V.ref q.1))
      refine q _ t (N.map Prod.fst) ((s2.trans zL).trans zt) ?_ (tups_at_same out fun c xs e => zt _ _ (zL _ _ e))
      rw [upd_same, List.map_map]
      rfl
end
end K14

set_option Elab.async false
set_option linter.all false
set_option maxRecDepth 100000
set_option maxHeartbeats 4000000
namespace K14
open PySem PySem.Spec PyProof.Rows L2 WT
abbrev st_gateway_names : Stmt := top 4
theorem sc_gateway_names : FnScope ["world", "gateway"] ["world"] (defScope st_gateway_names) := ⟨rfl, rfl, rfl, by decide +kernel, rfl, by decide +kernel, by decide +kernel⟩
abbrev st_members : Stmt := top 6
theorem sc_members : FnScope ["world", "name", "gateway"] ["world", "name"] (defScope st_members) := ⟨rfl, rfl, rfl, by decide +kernel, rfl, by decide +kernel, by decide +kernel⟩
theorem ix_tupK {X : Cx} {K : PySem.W.Frag} (hK : X.K = K := by rfl) : IxR X (rIxT K) := by
  subst hK
  exact ix_tup
section
variable {P : Program} {w : World} {K : PySem.W.Frag} {mg : Str → Option Value} {base : Heap} {f : Addr} {fd : FuncData}
/-- gateway_names(world) -/
def spGnames : Sp := fun vs H Q _ => ∃ (wa r g : Addr) (as : List Addr) (rs : List Str) (gs : List Gt), vs = [.ref wa] ∧ WorldAt H wa r g as rs gs ∧ gs.length ≤ 100 ∧
  ∀ (H' : Hp) (p : Addr), Same H H' → H' p = some (.tup ((gs.map (·.1)).map V.str)) → Q (.ref p) H'
theorem ok_gateway_names (F : Fun K "gateway_names" "gateway_names" st_gateway_names f fd) (B : Blt mg) : FnOk P w K mg base CX0 1 f fd ["world"] spGnames := by
  refine F.ok sc_gateway_names (fun vs H Q E h => ?_) (fun cdv A outer s H vs Q E hr h => ?_)
  · obtain ⟨_, _, _, _, _, _, rfl, _⟩ := h
    rfl
  · obtain ⟨wa, r, g, as, rs, gs, rfl, hw, hgl, q⟩ := h
    refine ⟨_, (pss_one (ps_ret (pe_callTy call_tuple_of (by rfl) B.tuple (by decide +kernel) (pa_cons (pe_lc (own := [("gateway", 1)]) (by rfl) sc_gateway_names.nd (pi_tup (pe_ix ix_tup (pv 0) pe_int (fun _ _ => rfl))) (blkOk_by (own := [("gateway", 1)]) (N := ["world", "gateway"]) (sc := defScope st_gateway_names) (by decide +kernel)) (fun _ _ _ _ _ => (pg_name (i := 1) sc_gateway_names.nd rfl (.inl rfl))) (fun _ _ _ _ _ => pts_nil) (fun _ _ _ _ _ => (pe_ix (ix_tupK (K := K)) (pv 1) pe_int (fun _ _ => rfl)))) pa_nil)))), ?_⟩
    have hlen := Paired.length hw.each
    refine ⟨_, rfl, wa, _, 1, .ref g, rfl, rfl, SqT.of hw.top, atI_nat (j := 1) rfl, g, rfl, ⟨_, SqT.of hw.gat⟩, fun N nN => lc_tup (K := K) (a := g) (xs := as.map V.ref) (fun m H' => Same H H' ∧ H' N = some (.lst (((gs.map (·.1)).take m).map V.str)))
      ⟨same_new nN, upd_same⟩ (fun m H' _ ⟨s', _⟩ => SqT.of (s' _ _ hw.gat)) (fun m v H2 hm hP => ?_) fun H2 hP => ?_⟩
    · obtain ⟨s2, hN⟩ := hP
      rw [List.getElem?_map] at hm
      obtain ⟨t, ht, rfl⟩ := Option.map_eq_some_iff.mp hm
      obtain ⟨gg, hgg, ia, e1, e2⟩ := pair_at (hw.same s2).each ht
      refine ⟨rfl, _, rfl, t, _, 0, .str gg.1, rfl, rfl, SqT.of e1, atI_nat (j := 0) rfl, _, hN, ?_, ?_, ?_⟩
      · rw [List.length_map, List.length_take, List.length_map]
        exact Nat.lt_of_le_of_lt (show min m gs.length ≤ 100 by omega) (by decide)
      · intro c o ec
        rw [upd_ne (ne_of_none ec nN)]
        exact s2 _ _ ec
      · have e : (gs.map (·.1))[m]? = some gg.1 := by
          rw [List.getElem?_map, hgg]
          rfl
        rw [upd_same, List.take_add_one, e, List.map_append]
        rfl
    · obtain ⟨s2, hN⟩ := hP
      rw [List.length_map, List.take_of_length_le (by rw [List.length_map]; omega)] at hN
      exact ⟨N, _, rfl, .inl ⟨SqL.of hN, fun t nt => q _ t (s2.trans (same_new nt)) upd_same⟩⟩
/-- members(world, name), name a gateway -/
def spMembers : Sp := fun vs H Q _ => ∃ (wa r g : Addr) (as : List Addr) (rs : List Str) (gs : List Gt) (x : Str), vs = [.ref wa, .str x] ∧ WorldAt H wa r g as rs gs ∧ (∃ g ∈ gs, g.1 = x) ∧
  ∀ (i : Addr) (g : Gt), g ∈ gs → g.1 = x → H i = some (.tup (g.2.1.map V.str)) → Q (.ref i) H
theorem ok_members (F : Fun K "members" "members" st_members f fd) : FnOk P w K mg base CX0 1 f fd ["world", "name"] spMembers := by
  refine F.ok sc_members (fun vs H Q E h => ?_) (fun cdv A outer s H vs Q E hr h => ?_)
  · obtain ⟨_, _, _, _, _, _, _, rfl, _⟩ := h
    rfl
  · obtain ⟨wa, r, g, as, rs, gs, x, rfl, hw, hx, q⟩ := h
    refine ⟨_, (pss_cons (ps_for PassesOwn.never rfl (pi_tup (pe_ix ix_tup (pv 0) pe_int (fun _ _ => rfl))) (pg_name (i := 2) sc_members.nd rfl (.inl rfl))
       (pss_one (ps_if (pt_cmpR op_eq (pe_ix ix_tup (pv 2) pe_int (fun _ _ => rfl)) (pv 1) (nomark _))
        (pss_one (ps_ret (pe_ix ix_tup (pv 2) pe_int (fun _ _ => rfl))))
        pss_nil)))
      (pss_one ps_never)), ?_⟩
    have hlen := Paired.length hw.each
    refine ⟨_, rfl, wa, _, 1, .ref g, rfl, rfl, SqT.of hw.top, atI_nat (j := 1) rfl, g, rfl, ⟨_, SqT.of hw.gat⟩, for_it (walk_tup (xs := as.map V.ref)) (fun j σ H' => ∃ v2 : Option V, σ = [some (.ref wa), some (.str x), v2] ∧ H' = H ∧ ∀ g ∈ gs.take j, g.1 ≠ x)
      ⟨none, rfl, rfl, fun g hg => nomatch hg⟩ (fun j σ H' _ ⟨_, _, e, _⟩ => by rw [e]; exact SqT.of hw.gat) (fun j v σ H2 H3 hj hP hY => ?_) (fun σ H2 hP => ?_)⟩
    · obtain ⟨v2, rfl, rfl, hno⟩ := hP
      obtain ⟨rfl, hv⟩ := hY
      rw [List.getElem?_map] at hv
      obtain ⟨t, ht, rfl⟩ := Option.map_eq_some_iff.mp hv
      obtain ⟨gg, hgg, ia, e1, e2⟩ := pair_at hw.each ht
      refine ⟨_, rfl, t, _, 0, .str gg.1, rfl, rfl, SqT.of e1, atI_nat (j := 0) rfl, _, rfl, rfl, _, rfl, ?_⟩
      by_cases c : gg.1 = x
      · exact ifT (by simp [c]) ⟨_, rfl, t, _, 1, .ref ia, rfl, rfl, SqT.of e1, atI_nat (j := 1) rfl, q ia gg (List.mem_of_getElem? hgg) c e2⟩
      · refine ifF (by simp [c]) ⟨_, rfl, rfl, fun g hg => ?_⟩
        rw [List.take_add_one, hgg] at hg
        rcases List.mem_append.mp hg with hg | hg
        · exact hno g hg
        · have : g = gg := by simpa using hg
          rw [this]
          exact c
    · obtain ⟨v2, rfl, rfl, hno⟩ := hP
      rw [List.length_map, hlen, List.take_length] at hno
      obtain ⟨g, hg, e⟩ := hx
      exact absurd e (hno g hg)
end
end K14

set_option Elab.async false
set_option linter.all false
set_option maxRecDepth 100000
set_option maxHeartbeats 4000000
/-! zip over two tuples while the tuple that it gave out is still held. -/
namespace PySem
open Sem (wp)
section
variable {prog : Program} {w : World} {A : Around} {E : Value → Shared → Prop} {s : Shared} {z TI TO T i1 i2 a b : Addr} {f : Bool} {oT : Obj} {k1 k2 : Nat} {xs ys : Array Value}
theorem zipHeldT_item {x y : Value} {Q : Value → Shared → Prop} (D : ZipApart z TI TO i1 i2 a b) (hz : IsZipHeld s.heap z TI TO T f) (hT : s.heap.get? T = some oT) (hTI : IsPair s.heap TI (.ref i1) (.ref i2))
    (h1 : s.heap.IsTupleIter i1 a k1) (h2 : s.heap.IsTupleIter i2 b k2) (ha : s.heap.IsTuple a xs) (hb : s.heap.IsTuple b ys) (hx : xs[k1]? = some x) (hy : ys[k2]? = some y)
    (q : ∀ h', IsZipHeld h' z TI TO T true → h'.IsTupleIter i1 a (k1 + 1) → h'.IsTupleIter i2 b (k2 + 1) → IsPair h' s.heap.objs.size x y →
      (∀ c o, c ≠ z → c ≠ i1 → c ≠ i2 → s.heap.get? c = some o → h'.get? c = some o) → Q (.ref s.heap.objs.size) { s with heap := h' }) :
    wpAny (model prog w) A (Builtin.«zip.__next__» ⟨[.ref z], []⟩) (fun fin s' => ∃ v, fin = .done (.ret v) ∧ Q v s') E s := by
  show wpAny _ _ (field (.ref z) 2 >>= _) _ _ _
  refine wpAny_bind (wpAny_field hz rfl (x := .bool false) rfl ?_)
  show wpAny _ _ (field (.ref z) 3 >>= _) _ _ _
  refine wpAny_bind (wpAny_field hz rfl (x := .ref TI) rfl (wpAny_bind (wpAny_seqItems hTI rfl ?_)))
  show wpAny _ _ (Builtin.SmallTypes.ownedTupleIsFree (.ref z) >>= _) _ _ _
  refine wpAny_bind (wpAny_tupleHeld_zip hz hT fun ha1 hz1 sb1 => ?_)
  simp only [Bool.false_eq_true, if_false]
  refine wpAny_bind ?_
  rw [← Array.forIn_toList]
  simp only [List.forIn_cons, List.forIn_nil]
  refine wpAny_bind (wpAny_bind (wpAny_holding ?_))
  show wpAny _ _ (Builtin.SmallTypes.nextOf (.ref i1) >>= _) _ _ _
  refine wpAny_bind (wpAny_nextOf_tuple_item (s := { s with heap := ha1 }) (h1.at fun o e => sb1.extBut _ _ D.i1z e) (ha.extBut sb1.extBut D.l1z) hx fun ha2 it1 sb2 => wpAny_pure (wpAny_pure ?_))
  refine wpAny_bind (wpAny_bind (wpAny_holding ?_))
  show wpAny _ _ (Builtin.SmallTypes.nextOf (.ref i2) >>= _) _ _ _
  refine wpAny_bind (wpAny_nextOf_tuple_item (s := { s with heap := ha2 }) (h2.at fun o e => sb2.extBut _ _ D.i12.symm (sb1.extBut _ _ D.i2z e)) ((hb.extBut sb1.extBut D.l2z).extBut sb2.extBut D.l2i1) hy fun ha3 it2 sb3 => wpAny_pure (wpAny_pure (wpAny_pure ?_)))
  show wpAny _ _ (newTuple [x, y] >>= _) _ _ _
  refine wpAny_bind (wpAny_newTuple (wpAny_pure ⟨_, rfl, ?_⟩))
  have size3 : ha3.objs.size = s.heap.objs.size := by rw [sb3.1, sb2.1, sb1.1]
  have pair : IsPair (ha3.push { cls := .type "tuple", data := .seq #[x, y] }) ha3.objs.size x y := Heap.get?_push_size _ rfl
  show Q (.ref ha3.objs.size) _
  rw [size3] at pair ⊢
  exact q _ (Heap.get?_push_of_some _ (sb3.extBut _ _ D.i2z.symm (sb2.extBut _ _ D.i1z.symm hz1))) (it1.at fun o e => Heap.get?_push_of_some _ (sb3.extBut _ _ D.i12 e)) (it2.at fun o e => Heap.get?_push_of_some _ e) pair
    fun c o c1 c2 c3 e => Heap.get?_push_of_some _ (sb3.extBut _ _ c3 (sb2.extBut _ _ c2 (sb1.extBut _ _ c1 e)))
theorem zipHeldT_end {Q : Fin → Shared → Prop} (hh : A.handled = none) (D : ZipApart z TI TO i1 i2 a b) (hz : IsZipHeld s.heap z TI TO T f) (hT : s.heap.get? T = some oT) (hTI : IsPair s.heap TI (.ref i1) (.ref i2))
    (h1 : s.heap.IsTupleIter i1 a k1) (h2 : s.heap.IsTupleIter i2 b k2) (ha : s.heap.IsTuple a xs) (hb : s.heap.IsTuple b ys) (hend : xs[k1]? = none ∨ ys[k2]? = none)
    (q : ∀ h' e, (∀ c o, c ≠ z → c ≠ i1 → c ≠ i2 → s.heap.get? c = some o → h'.get? c = some o) → (∃ o, h'.get? e = some o ∧ o.cls = .type "StopIteration") → E (.ref e) { s with heap := h' }) :
    wpAny (model prog w) A (Builtin.«zip.__next__» ⟨[.ref z], []⟩) Q E s := by
  show wpAny _ _ (field (.ref z) 2 >>= _) _ _ _
  refine wpAny_bind (wpAny_field hz rfl (x := .bool false) rfl ?_)
  show wpAny _ _ (field (.ref z) 3 >>= _) _ _ _
  refine wpAny_bind (wpAny_field hz rfl (x := .ref TI) rfl (wpAny_bind (wpAny_seqItems hTI rfl ?_)))
  show wpAny _ _ (Builtin.SmallTypes.ownedTupleIsFree (.ref z) >>= _) _ _ _
  refine wpAny_bind (wpAny_tupleHeld_zip hz hT fun ha1 hz1 sb1 => ?_)
  simp only [Bool.false_eq_true, if_false]
  refine wpAny_bind ?_
  rw [← Array.forIn_toList]
  simp only [List.forIn_cons, List.forIn_nil]
  refine wpAny_bind (wpAny_bind (wpAny_holding ?_))
  show wpAny _ _ (Builtin.SmallTypes.nextOf (.ref i1) >>= _) _ _ _
  have t1 : ha1.IsTupleIter i1 a k1 := h1.at fun o e => sb1.extBut _ _ D.i1z e
  cases hx : xs[k1]? with
  | none =>
    exact wpAny_bind (wpAny_nextOf_tuple_end (s := { s with heap := ha1 }) hh t1 (ha.extBut sb1.extBut D.l1z) hx fun ha2 e sb2 he => q ha2 e (fun c o c1 c2 _ k => sb2 _ _ c2 (sb1.extBut _ _ c1 k)) he)
  | some x =>
    have hy : ys[k2]? = none := hend.resolve_left (by rw [hx]; exact fun k => nomatch k)
    refine wpAny_bind (wpAny_nextOf_tuple_item (s := { s with heap := ha1 }) t1 (ha.extBut sb1.extBut D.l1z) hx fun ha2 it1 sb2 => wpAny_pure (wpAny_pure ?_))
    refine wpAny_bind (wpAny_bind (wpAny_holding ?_))
    show wpAny _ _ (Builtin.SmallTypes.nextOf (.ref i2) >>= _) _ _ _
    exact wpAny_bind (wpAny_nextOf_tuple_end (s := { s with heap := ha2 }) hh (h2.at fun o e => sb2.extBut _ _ D.i12.symm (sb1.extBut _ _ D.i2z e)) ((hb.extBut sb1.extBut D.l2z).extBut sb2.extBut D.l2i1) hy
      fun ha3 e sb3 he => q ha3 e (fun c o c1 c2 c3 k => sb3 _ _ c3 (sb2.extBut _ _ c2 (sb1.extBut _ _ c1 k))) he)
end
/-- a zip over the tuples at a and b, i pairs given; what it gave last may still be held -/
structure ZipAt (h : Heap) (z TI TO i1 i2 a b : Addr) (xs ys : Array Value) (i : Nat) : Prop where
  zip : IsZip h z TI TO .none ∨ ∃ T f oT, IsZipHeld h z TI TO T f ∧ h.get? T = some oT ∧ T ≠ z ∧ T ≠ i1 ∧ T ≠ i2
  ti : IsPair h TI (.ref i1) (.ref i2)
  out : ∃ u v, IsPair h TO u v
  one : h.IsTupleIter i1 a i
  two : h.IsTupleIter i2 b i
  fst : h.IsTuple a xs
  snd : h.IsTuple b ys
section
variable {prog : Program} {w : World} {A : Around} {E : Value → Shared → Prop} {s : Shared} {z TI TO i1 i2 a b : Addr} {i : Nat} {xs ys : Array Value}
theorem ZipAt.type {h : Shared} (Z : ZipAt h.heap z TI TO i1 i2 a b xs ys i) : h.TypeIs (.ref z) "zip" := by
  rcases Z.zip with hz | ⟨T, f, oT, hz, _⟩
  · exact ⟨_, hz, rfl⟩
  · exact ⟨_, hz, rfl⟩
theorem zipAt_item {x y : Value} {Q : Option Value → Shared → Prop} (D : ZipApart z TI TO i1 i2 a b) (Z : ZipAt s.heap z TI TO i1 i2 a b xs ys i) (hx : xs[i]? = some x) (hy : ys[i]? = some y)
    (q : ∀ h', ZipAt h' z TI TO i1 i2 a b xs ys (i + 1) → IsPair h' s.heap.objs.size x y → (∀ c o, c ≠ z → c ≠ TO → c ≠ i1 → c ≠ i2 → s.heap.get? c = some o → h'.get? c = some o) → Q (some (.ref s.heap.objs.size)) { s with heap := h' }) :
    wpAny (model prog w) A (pyNext (.ref z)) Q E s := by
  obtain ⟨u, v, ho⟩ := Z.out
  have mv : ∀ {h' : Heap} {t : Addr} {us : Array Value}, (∀ c o, c ≠ z → c ≠ TO → c ≠ i1 → c ≠ i2 → s.heap.get? c = some o → h'.get? c = some o) → t ≠ z → t ≠ TO → t ≠ i1 → t ≠ i2 → s.heap.IsTuple t us → h'.IsTuple t us :=
    fun k n1 n2 n3 n4 ht => ht.at fun o e => k _ o n1 n2 n3 n4 e
  have lt1 : i1 < s.heap.objs.size := by
    obtain ⟨_, e, _⟩ := Z.one
    exact Heap.lt_size e
  have lt2 : i2 < s.heap.objs.size := by
    obtain ⟨_, e, _⟩ := Z.two
    exact Heap.lt_size e
  rcases Z.zip with hz | ⟨T, f, oT, hz, hT, n1, n2, n3⟩
  · refine RZ.pyNext_zipT_item D hz Z.ti ho Z.one Z.two Z.fst Z.snd hx hy fun h' e1 e2 e3 e4 e5 _ k => q h' ⟨.inr ⟨_, false, _, e1, e5, Nat.ne_of_gt (Heap.lt_size hz), Nat.ne_of_gt lt1, Nat.ne_of_gt lt2⟩, k _ _ D.TIz D.TITO D.TIi1 D.TIi2 Z.ti, ⟨_, _, e2⟩, e3, e4, ?_, ?_⟩ e5 k
    · exact mv k D.l1z D.l1TO D.l1i1 D.l1i2 Z.fst
    · exact mv k D.l2z D.l2TO D.l2i1 D.l2i2 Z.snd
  · have ty : s.TypeIs (.ref z) "zip" := Z.type
    unfold pyNext
    refine wpAny_bind (wpAny_attempt (wpAny_callSpecial?_slot (name := Str.ofString "__next__") ty F.slot_zip_next (wpAny_call_entry F.slot_zip_next ty F.entry_zip_next (zipHeldT_item D hz hT Z.ti Z.one Z.two Z.fst Z.snd hx hy fun h' e1 e3 e4 e5 k => wpAny_pure ?_) (F.args_zip_next_1 _))))
    have k' : ∀ c o, c ≠ z → c ≠ TO → c ≠ i1 → c ≠ i2 → s.heap.get? c = some o → h'.get? c = some o := fun c o c1 _ c3 c4 e => k c o c1 c3 c4 e
    exact q h' ⟨.inr ⟨T, true, oT, e1, k _ _ n1 n2 n3 hT, n1, n2, n3⟩, k _ _ D.TIz D.TIi1 D.TIi2 Z.ti, ⟨u, v, k _ _ D.TOz D.TOi1 D.TOi2 ho⟩, e3, e4, mv k' D.l1z D.l1TO D.l1i1 D.l1i2 Z.fst, mv k' D.l2z D.l2TO D.l2i1 D.l2i2 Z.snd⟩ e5 k'
theorem zipAt_end {Q : Option Value → Shared → Prop} (hh : A.handled = none) (D : ZipApart z TI TO i1 i2 a b) (Z : ZipAt s.heap z TI TO i1 i2 a b xs ys i) (hend : xs[i]? = none ∨ ys[i]? = none)
    (q : ∀ h', (∀ c o, c ≠ z → c ≠ TO → c ≠ i1 → c ≠ i2 → s.heap.get? c = some o → h'.get? c = some o) → Q none { s with heap := h' }) : wpAny (model prog w) A (pyNext (.ref z)) Q E s := by
  obtain ⟨u, v, ho⟩ := Z.out
  rcases Z.zip with hz | ⟨T, f, oT, hz, hT, _⟩
  · exact RZ.pyNext_zipT_end hh D hz Z.ti ho Z.one Z.two Z.fst Z.snd hend q
  · have ty : s.TypeIs (.ref z) "zip" := Z.type
    unfold pyNext
    refine wpAny_bind (wpAny_attempt (wpAny_callSpecial?_slot (name := Str.ofString "__next__") ty F.slot_zip_next (wpAny_call_entry F.slot_zip_next ty F.entry_zip_next (zipHeldT_end hh D hz hT Z.ti Z.one Z.two Z.fst Z.snd hend fun h' e k he => ?_) (F.args_zip_next_1 _))))
    obtain ⟨o, eo, ec⟩ := he
    exact wpAny_bind (wpAny_isInstance (T := "StopIteration") (b := true) ⟨o, eo, ec⟩ isSubtype_stop (wpAny_pure (q _ fun c o c1 _ c3 c4 e => k c o c1 c3 c4 e)))
theorem ZipAt.keep {h h' : Heap} {S : Addr} (Z : ZipAt h z TI TO i1 i2 a b xs ys i) (k : ∀ c o, c ≠ S → h.get? c = some o → h'.get? c = some o) (ks : ∃ o, h'.get? S = some o) (nz : z ≠ S) (nTI : TI ≠ S) (nTO : TO ≠ S) (n1 : i1 ≠ S) (n2 : i2 ≠ S) (na : a ≠ S) (nb : b ≠ S) :
    ZipAt h' z TI TO i1 i2 a b xs ys i := by
  obtain ⟨u, v, ho⟩ := Z.out
  refine ⟨?_, k _ _ nTI Z.ti, ⟨u, v, k _ _ nTO ho⟩, Z.one.at fun o e => k _ _ n1 e, Z.two.at fun o e => k _ _ n2 e, Z.fst.at fun o e => k _ _ na e, Z.snd.at fun o e => k _ _ nb e⟩
  rcases Z.zip with hz | ⟨T, f, oT, hz, hT, r⟩
  · exact .inl (k _ _ nz hz)
  · by_cases c : T = S
    · obtain ⟨o, ho⟩ := ks
      exact .inr ⟨T, f, o, k _ _ nz hz, by rw [c]; exact ho, r⟩
    · exact .inr ⟨T, f, oT, k _ _ nz hz, k _ _ c hT, r⟩
theorem far {p t base : Nat} (h1 : p < base) (h2 : base ≤ t) : t ≠ p := Nat.ne_of_gt (Nat.lt_of_lt_of_le h1 h2)
/-- the pairs that were given, where they stand -/
def PairsAt (h : Heap) (xs ys : Array Value) (base : Nat) (ts : List Addr) : Prop := ts.Nodup ∧ ∀ (j : Nat) (t : Addr), ts[j]? = some t → base ≤ t ∧ ∃ x y, xs[j]? = some x ∧ ys[j]? = some y ∧ IsPair h t x y
theorem zip_loop {R : Result → Shared → Prop} {S : Addr} {res : Value} {base n : Nat} (hh : A.in1.handled = none) (D : ZipApart z TI TO i1 i2 a b) (hn : n ≤ sizeLine) (hx : n ≤ xs.size) (hy : n ≤ ys.size) (hend : xs[n]? = none ∨ ys[n]? = none)
    (nz : z ≠ S) (nTI : TI ≠ S) (nTO : TO ≠ S) (n1 : i1 ≠ S) (n2 : i2 ≠ S) (na : a ≠ S) (nb : b ≠ S) (lz : z < base) (lTO : TO < base) (l1 : i1 < base) (l2 : i2 < base) (lS : S < base) :
    ∀ (k i : Nat) (s : Shared) (acc : Array Value) (c : Nat) (ts : List Addr), n - i = k → i ≤ n → base ≤ s.heap.objs.size → ZipAt s.heap z TI TO i1 i2 a b xs ys i → s.heap.get? S = some { cls := .type "list", dict := none, data := .seq acc c, slots := #[] } →
      acc.toList = ts.map Value.ref → ts.length = i → PairsAt s.heap xs ys base ts →
      (∀ (h' : Heap) (acc' : Array Value) (c' : Nat) (ts' : List Addr), (∀ d o, d ≠ z → d ≠ TO → d ≠ i1 → d ≠ i2 → d ≠ S → s.heap.get? d = some o → h'.get? d = some o) → h'.get? S = some { cls := .type "list", dict := none, data := .seq acc' c', slots := #[] } →
        acc'.toList = ts'.map Value.ref → ts'.length = n → PairsAt h' xs ys base ts' → R (.ok (.ret res)) { s with heap := h' }) →
      codeAny (model prog w) A (.builtin "list.extend.loop" ⟨[.ref S, .ref z, res], []⟩) R s := by
  intro k
  induction k with
  | zero =>
    intro i s acc c ts hk hi hb Z hS ea hl hp q
    obtain rfl : i = n := by omega
    refine codeAny_builtin F.entry_extend_loop ?_
    rw [Around.under_plainId F.plain_extend_loop _]
    show wpAny _ A.in1 (pyNext (.ref z) >>= _) _ _ s
    refine wpAny_bind (zipAt_end hh D Z hend fun h' kp => ?_)
    refine wpAny_pure (q h' acc c ts (fun d o d1 d2 d3 d4 _ e => kp d o d1 d2 d3 d4 e) (kp S _ (Ne.symm nz) (Ne.symm nTO) (Ne.symm n1) (Ne.symm n2) hS) ea hl ⟨hp.1, fun j t ht => ?_⟩)
    obtain ⟨hbt, x, y, e1, e2, e3⟩ := hp.2 j t ht
    exact ⟨hbt, x, y, e1, e2, kp t _ (far lz hbt) (far lTO hbt) (far l1 hbt) (far l2 hbt) e3⟩
  | succ k ih =>
    intro i s acc c ts hk hi hb Z hS ea hl hp q
    have ix : i < xs.size := by omega
    have iy : i < ys.size := by omega
    refine codeAny_builtin F.entry_extend_loop ?_
    rw [Around.under_plainId F.plain_extend_loop _]
    show wpAny _ A.in1 (pyNext (.ref z) >>= _) _ _ s
    refine wpAny_bind (zipAt_item D Z (x := xs[i]) (y := ys[i]) (by simp [ix]) (by simp [iy]) fun h' Z' pr kp => ?_)
    have hS' : h'.get? S = some { cls := .type "list", dict := none, data := .seq acc c, slots := #[] } := kp S _ (Ne.symm nz) (Ne.symm nTO) (Ne.symm n1) (Ne.symm n2) hS
    have hsz : acc.size = i := by
      have := congrArg List.length ea
      rw [List.length_map, hl, Array.length_toList] at this
      exact this
    show wpAny _ A.in1 (updateSeq S (·.push (.ref s.heap.objs.size)) >>= _) _ _ _
    refine wpAny_bind ?_
    have self := Heap.get?_update_self (Obj.mapSeq (·.push (Value.ref s.heap.objs.size))) hS' rfl
    have oth : ∀ d o, d ≠ S → h'.get? d = some o → (h'.update S (Obj.mapSeq (·.push (Value.ref s.heap.objs.size)))).get? d = some o := fun d o hd e => (Heap.get?_update_other _ _ (Ne.symm hd)).trans e
    refine wpAny_updateSeq hS' rfl (wpAny_pure ⟨plainId_quiet F.plain_extend_loop _, ih (i + 1) _ (acc.push (.ref s.heap.objs.size)) _ (ts ++ [s.heap.objs.size]) (by omega) (by omega) ?_ (Z'.keep oth ⟨_, self⟩ nz nTI nTO n1 n2 na nb) self ?_ ?_ ?_ ?_⟩)
      (by rw [hsz]; omega) (by show (acc.push _).size ≤ sizeLine + 1; rw [Array.size_push, hsz]; omega)
    · show base ≤ (h'.update S _).objs.size
      rw [Heap.size_update]
      exact Nat.le_of_lt (Nat.lt_of_le_of_lt hb (Heap.lt_size pr))
    · rw [Array.toList_push, ea, List.map_append]
      rfl
    · rw [List.length_append, hl]
      rfl
    · refine ⟨List.nodup_append.mpr ⟨hp.1, by simp, fun t ht t' ht' e => ?_⟩, fun j t ht => ?_⟩
      · obtain ⟨j, hj, ej⟩ := List.getElem_of_mem ht
        obtain ⟨_, x, y, _, _, e3⟩ := hp.2 j t (by rw [List.getElem?_eq_getElem hj, ej])
        rw [List.mem_singleton.mp ht'] at e
        exact Nat.ne_of_lt (Heap.lt_size e3) e
      rw [List.getElem?_append] at ht
      split at ht
      · obtain ⟨hbt, x, y, e1, e2, e3⟩ := hp.2 j t ht
        exact ⟨hbt, x, y, e1, e2, oth _ _ (far lS hbt) (kp t _ (far lz hbt) (far lTO hbt) (far l1 hbt) (far l2 hbt) e3)⟩
      · have hj : j = i ∧ t = s.heap.objs.size := by
          rename_i hge
          cases e : j - ts.length with
          | zero =>
            rw [e] at ht
            exact ⟨by omega, by simpa using ht.symm⟩
          | succ m =>
            rw [e] at ht
            simp at ht
        obtain ⟨rfl, rfl⟩ := hj
        exact ⟨hb, xs[j], ys[j], by simp [ix], by simp [iy], oth _ _ (far lS hb) pr⟩
    · intro h2 acc' c' ts' kp2 hS2 ea2 hl2 hp2
      exact q h2 acc' c' ts' (fun d o d1 d2 d3 d4 d5 e => kp2 d o d1 d2 d3 d4 d5 (oth d o d5 (kp d o d1 d2 d3 d4 e))) hS2 ea2 hl2 hp2
end
end PySem

set_option Elab.async false
set_option linter.all false
set_option maxRecDepth 100000
set_option maxHeartbeats 4000000
/-! tuple(zip(a, b)), a and b tuples. -/
namespace PySem
open Sem (wp)
theorem F.zip_no_len : typeLookup (.type "zip") "__len__" = pure none := by rw [typeLookup_type, builtinLookup_eq_fast]; kernel_rfl
theorem F.zip_no_hint : typeLookup (.type "zip") "__length_hint__" = pure none := by rw [typeLookup_type, builtinLookup_eq_fast]; kernel_rfl
section
variable {prog : Program} {w : World} {A : Around} {E : Value → Shared → Prop} {s : Shared} {z TI TO i1 i2 a b : Addr} {xs ys : Array Value}
theorem collect_zip {Q : List Value → Shared → Prop} {n : Nat} (hh : A.in1.handled = none) (D : ZipApart z TI TO i1 i2 a b) (hz : IsZip s.heap z TI TO .none) (hTI : IsPair s.heap TI (.ref i1) (.ref i2)) (hTO : ∃ u v, IsPair s.heap TO u v) (h1 : s.heap.IsTupleIter i1 a 0) (h2 : s.heap.IsTupleIter i2 b 0)
    (ha : s.heap.IsTuple a xs) (hb : s.heap.IsTuple b ys) (hn : n ≤ sizeLine) (hx : n ≤ xs.size) (hy : n ≤ ys.size) (hend : xs[n]? = none ∨ ys[n]? = none)
    (q : ∀ (h' : Heap) (ts : List Addr), (∀ d o, d ≠ z → d ≠ TO → d ≠ i1 → d ≠ i2 → s.heap.get? d = some o → h'.get? d = some o) → ts.length = n → PairsAt h' xs ys (s.heap.objs.size + 1) ts → Q (ts.map Value.ref) { s with heap := h' }) :
    wpAny (model prog w) A (collect (.ref z)) Q E s := by
  have lt : ∀ {c : Addr} {o : Obj}, s.heap.get? c = some o → c < s.heap.objs.size := fun e => Heap.lt_size e
  have lz := lt hz
  have lTI := lt hTI
  obtain ⟨u, v, hTO'⟩ := hTO
  have lTO := lt hTO'
  have l1 : i1 < s.heap.objs.size := by obtain ⟨_, e, _⟩ := h1; exact lt e
  have l2 : i2 < s.heap.objs.size := by obtain ⟨_, e, _⟩ := h2; exact lt e
  have la : a < s.heap.objs.size := by obtain ⟨_, e, _⟩ := ha; exact lt e
  have lb : b < s.heap.objs.size := by obtain ⟨_, e, _⟩ := hb; exact lt e
  unfold collect; refine wpAny_bind (wpAny_runValue (codeAny_builtin F.entry_proto_collect ?_)); rw [Around.under_plainId F.plain_proto_collect _]
  show wpAny _ A.in1 (newList [] >>= fun l => again (.builtin "list.__iadd__" ⟨[l, .ref z], []⟩)) _ _ s
  refine wpAny_bind (wpAny_newObj_type (wpAny_pure ⟨plainId_quiet F.plain_list_iadd _, codeAny_builtin F.entry_list_iadd ?_⟩)); rw [Around.under_plainId F.plain_list_iadd _]
  have up : ∀ c o, s.heap.get? c = some o → (s.heap.push { cls := .type "list", data := .seq ([] : List Value).toArray }).get? c = some o := fun c o e => Heap.get?_push_of_some _ e
  have hS1 : (s.heap.push { cls := .type "list", data := .seq ([] : List Value).toArray }).get? s.heap.objs.size = some { cls := .type "list", data := .seq ([] : List Value).toArray } := Heap.get?_push_size _ rfl
  show wpAny _ A.in1 (Builtin.List.listExtendWith (.ref s.heap.objs.size) (.ref z) (.ref s.heap.objs.size)) _ _ _
  unfold Builtin.List.listExtendWith; refine wpAny_bind (wpAny_typeOf (T := "zip") ⟨_, up _ _ hz, rfl⟩ ?_)
  have d1 : Builtin.List.listSameRef (.ref s.heap.objs.size) (.ref z) = false := by simp [Builtin.List.listSameRef, Nat.ne_of_gt lz]
  have d2 : (Value.type "zip" == Value.type "list") = false := by decide
  have d3 : (Value.type "zip" == Value.type "tuple") = false := by decide
  simp only [d1, d2, d3, Bool.or_false, Bool.false_eq_true, if_false]
  refine wpAny_bind (wpAny_pyIter_zip (up _ _ hz) (wpAny_bind (wpAny_holding ?_)))
  unfold Builtin.List.listLengthHint; refine wpAny_bind (wpAny_specialOf (T := "zip") ⟨_, up _ _ hz, rfl⟩ F.zip_no_len ?_)
  show wpAny _ A.in1 (specialOf (Value.ref z) (Str.ofString "__length_hint__") >>= _) _ _ _
  refine wpAny_bind (wpAny_specialOf (T := "zip") ⟨_, up _ _ hz, rfl⟩ F.zip_no_hint (wpAny_pure ?_))
  show wpAny _ A.in1 (rule "list.extend.makes-room" >>= fun _ => Builtin.List.listTouch (.ref s.heap.objs.size) >>= fun _ => again (.builtin "list.extend.loop" ⟨[.ref s.heap.objs.size, .ref z, .ref s.heap.objs.size], []⟩)) _ _ _
  refine wpAny_bind (wpAny_rule (wpAny_bind ?_))
  show wpAny _ A.in1 (updateSeq s.heap.objs.size (·.push .none) >>= fun _ => updateSeq s.heap.objs.size (·.pop)) _ _ _
  refine wpAny_bind (wpAny_updateSeq hS1 rfl ?_)
  have hS2 := Heap.get?_update_self (Obj.mapSeq (·.push Value.none)) hS1 rfl
  refine wpAny_updateSeq hS2 rfl ?_
  have hS3 := Heap.get?_update_self (Obj.mapSeq (·.pop)) hS2 rfl
  have kp : ∀ c o, c ≠ s.heap.objs.size → s.heap.get? c = some o → (((s.heap.push { cls := .type "list", data := .seq ([] : List Value).toArray }).update s.heap.objs.size (Obj.mapSeq (·.push Value.none))).update s.heap.objs.size (Obj.mapSeq (·.pop))).get? c = some o :=
    fun c o hc e => (Heap.get?_update_other _ _ (Ne.symm hc)).trans ((Heap.get?_update_other _ _ (Ne.symm hc)).trans (up c o e))
  have k2 : ∀ c o, s.heap.get? c = some o → (((s.heap.push { cls := .type "list", data := .seq ([] : List Value).toArray }).update s.heap.objs.size (Obj.mapSeq (·.push Value.none))).update s.heap.objs.size (Obj.mapSeq (·.pop))).get? c = some o := fun c o e => kp c o (Nat.ne_of_lt (lt e)) e
  refine wpAny_pure ⟨plainId_quiet F.plain_extend_loop _, zip_loop (base := s.heap.objs.size + 1) (n := n) hh D hn hx hy hend (Nat.ne_of_lt lz) (Nat.ne_of_lt lTI) (Nat.ne_of_lt lTO) (Nat.ne_of_lt l1) (Nat.ne_of_lt l2) (Nat.ne_of_lt la) (Nat.ne_of_lt lb)
    (Nat.lt_succ_of_lt lz) (Nat.lt_succ_of_lt lTO) (Nat.lt_succ_of_lt l1) (Nat.lt_succ_of_lt l2) (Nat.lt_succ_self _) n 0 _ _ _ [] rfl (Nat.zero_le _) ?_ ⟨.inl (k2 _ _ hz), k2 _ _ hTI, ⟨u, v, k2 _ _ hTO'⟩, h1.at fun o e => k2 _ _ e, h2.at fun o e => k2 _ _ e, ha.at fun o e => k2 _ _ e, hb.at fun o e => k2 _ _ e⟩ hS3 ?_ rfl ⟨List.nodup_nil, fun j t ht => ?_⟩ fun h' acc c ts kk hS ea hl hp => ?_⟩
  · show s.heap.objs.size + 1 ≤ (((s.heap.push _).update _ _).update _ _).objs.size
    rw [Heap.size_update, Heap.size_update, Heap.size_push]
    exact Nat.le_refl _
  · rfl
  · simp at ht
  · show wpAny _ A (load s.heap.objs.size >>= _) _ _ _
    refine wpAny_bind (wpAny_load hS (wpAny_pure ?_))
    show Q acc.toList _
    rw [ea]
    exact q h' ts (fun d o d1 d2 d3 d4 e => kk d o d1 d2 d3 d4 (Nat.ne_of_lt (lt e)) (k2 d o e)) hl hp
theorem code_tuple_zip {Q1 : Value → Shared → Prop} {n : Nat} (hh : A.handled = none) (D : ZipApart z TI TO i1 i2 a b) (hz : IsZip s.heap z TI TO .none) (hTI : IsPair s.heap TI (.ref i1) (.ref i2)) (hTO : ∃ u v, IsPair s.heap TO u v) (h1 : s.heap.IsTupleIter i1 a 0) (h2 : s.heap.IsTupleIter i2 b 0)
    (ha : s.heap.IsTuple a xs) (hb : s.heap.IsTuple b ys) (hn : n ≤ sizeLine) (hx : n ≤ xs.size) (hy : n ≤ ys.size) (hend : xs[n]? = none ∨ ys[n]? = none)
    (q : ∀ (h' : Heap) (ts : List Addr), (∀ d o, d ≠ z → d ≠ TO → d ≠ i1 → d ≠ i2 → s.heap.get? d = some o → h'.get? d = some o) → ts.length = n → PairsAt h' xs ys (s.heap.objs.size + 1) ts →
      Q1 (.ref h'.objs.size) { s with heap := h'.push { cls := .type "tuple", data := .seq (ts.map Value.ref).toArray } }) :
    codeAny (model prog w) A (.call (.builtin "tuple.__new__") ⟨[.type "tuple", .ref z], []⟩) (wants Q1 E) s := by
  refine codeAny_of_tree ?_
  show wpAny _ A.in1 (do checkBuiltinCall "tuple.__new__" ⟨[.type "tuple", .ref z], []⟩; again (.builtin "tuple.__new__" ⟨[.type "tuple", .ref z], []⟩)) _ _ s
  refine wpAny_bind (wpAny_of_eq (F.newCall_tuple_1 _) (wpAny_pure ⟨plainId_quiet F.plain_tuple_new _, codeAny_builtin F.entry_tuple_new ?_⟩)); rw [Around.under_plainId F.plain_tuple_new _]
  have w1 := sub_tuple_self
  have w2 := init_tuple_lookup
  have w3 := madeHere_tuple
  have ty : s.TypeIs (.ref z) "zip" := ⟨_, hz, rfl⟩
  wp_walk using wpAny_typeOf ty, collect_zip (n := n) (A := A.in1) (show A.in1.in1.handled = none from hh) D hz hTI hTO h1 h2 ha hb hn hx hy hend
  intro h' ts kp hl hp
  show wpAny _ _ (Builtin.Tuple.tupleExact (ts.map Value.ref).toArray >>= fun v => ret v) _ _ _
  unfold Builtin.Tuple.tupleExact
  exact wpAny_bind (wpAny_newObj_type (wpAny_pure (q h' ts kp hl hp)) (by show (ts.map Value.ref).toArray.size ≤ sizeLine; rw [List.size_toArray, List.length_map, hl]; exact hn))
theorem call_tuple_zip {Q : Value → Shared → Prop} {n : Nat} (hh : A.handled = none) (D : ZipApart z TI TO i1 i2 a b) (hz : IsZip s.heap z TI TO .none) (hTI : IsPair s.heap TI (.ref i1) (.ref i2)) (hTO : ∃ u v, IsPair s.heap TO u v) (h1 : s.heap.IsTupleIter i1 a 0) (h2 : s.heap.IsTupleIter i2 b 0)
    (ha : s.heap.IsTuple a xs) (hb : s.heap.IsTuple b ys) (hn : n ≤ sizeLine) (hx : n ≤ xs.size) (hy : n ≤ ys.size) (hend : xs[n]? = none ∨ ys[n]? = none)
    (q : ∀ (h' : Heap) (ts : List Addr), (∀ d o, d ≠ z → d ≠ TO → d ≠ i1 → d ≠ i2 → s.heap.get? d = some o → h'.get? d = some o) → ts.length = n → PairsAt h' xs ys (s.heap.objs.size + 1) ts →
      Q (.ref h'.objs.size) { s with heap := h'.push { cls := .type "tuple", data := .seq (ts.map Value.ref).toArray } }) :
    wpAny (model prog w) A (call (.type "tuple") [.ref z]) Q E s := by
  refine callType_codes (Q₁ := fun obj st => st.TypeIs obj "tuple" ∧ Q obj st) F.called_tuple (F.typeCall_tuple_1 _) F.entry_object_init
    (code_tuple_zip (A := A.in1) (show A.in1.handled = none from hh) D hz hTI hTO h1 h2 ha hb hn hx hy hend fun h' ts kp hl hp => ⟨⟨_, Heap.get?_push_size _ rfl, rfl⟩, q h' ts kp hl hp⟩) fun obj st hst => ?_
  exact ⟨hst.1, F.args_object_init_2 obj _, object_init_meets F.called_tuple.init.lookup F.called_tuple.made (by decide) prog w A.in1 _ st ⟨hst.1, rfl, hst.2⟩⟩
end
end PySem

set_option Elab.async false
set_option linter.all false
set_option maxRecDepth 100000
set_option maxHeartbeats 4000000
namespace WT
open PySem PySem.Spec PyProof.Rows L2
section
variable {X : Cx} {pins : List (Addr × Obj)} {σ : L2.St}
/-- pairs that stand untracked are tracked from now on -/
theorem take_pairs {s : Shared} : ∀ (ts : List Addr) (ps : List (V × V)) (H : Hp), Paired (fun t (p : V × V) => ∃ u v, IsPair s.heap t u v ∧ RelV p.1 u ∧ RelV p.2 v) ts ps → ts.Nodup → (∀ t ∈ ts, FpOk X pins H t) → L2.Inv X pins σ H s →
    ∃ H', L2.Same H H' ∧ L2.Inv X pins σ H' s ∧ Paired (fun t (p : V × V) => H' t = some (.tup [p.1, p.2])) ts ps ∧ ∀ c, c ∉ ts → H' c = H c
  | [], _, H, .nil, _, _, I => ⟨H, fun _ _ e => e, I, .nil, fun _ _ => rfl⟩
  | t :: ts, p :: ps, H, .cons h r, nd, fp, I => by
    obtain ⟨u, v, hp, ru, rv⟩ := h
    obtain ⟨nt, nd'⟩ := List.nodup_cons.mp nd
    have f := fp t List.mem_cons_self
    have I' : L2.Inv X pins σ (upd H t (.tup [p.1, p.2])) s := L2.Inv.take (h' := s.heap) (t' := s.toks) I (fun b ob _ e => e) f ⟨by show 2 ≤ sizeLine; decide, [u, v], .cons ru (.cons rv .nil), ⟨_, hp, rfl, _, rfl⟩⟩
    obtain ⟨H', h1, h2, h3, h4⟩ := take_pairs ts ps _ r nd' (fun c hc => by
      have g := fp c (List.mem_cons_of_mem _ hc)
      exact ⟨by rw [upd_ne (fun z : c = t => nt (z ▸ hc))]; exact g.1, g.2⟩) I'
    refine ⟨H', fun c o e => h1 _ _ ?_, h2, .cons ?_ h3, fun c hc => ?_⟩
    · rw [upd_ne (ne_of_none e f.1)]
      exact e
    · rw [h4 t nt, upd_same]
    · rw [h4 c fun z => hc (List.mem_cons_of_mem _ z), upd_ne (fun z : c = t => hc (by rw [z]; exact List.mem_cons_self))]
theorem paired_of {α β : Type} {R : α → β → Prop} : ∀ {l : List α} {m : List β}, l.length = m.length → (∀ (j : Nat) (x : α) (y : β), l[j]? = some x → m[j]? = some y → R x y) → Paired R l m
  | [], [], _, _ => .nil
  | x :: l, y :: m, h, f => .cons (f 0 x y rfl rfl) (paired_of (by simpa using h) fun j u v h1 h2 => f (j + 1) u v h1 h2)
  | [], _ :: _, h, _ => by simp at h
  | _ :: _, [], h, _ => by simp at h
theorem vals_refs : ∀ ts : List Addr, Vals (ts.map V.ref) (ts.map Value.ref)
  | [] => .nil
  | _ :: ts => .cons rfl (vals_refs ts)
/-- tuple(zip(a, b)): the pairs, each a new tuple -/
def tTupZip (K : PySem.W.Frag) (ta : TA) : TE := fun σ H Q => ta σ H fun vs H1 => ∃ (a b : Addr) (xs ys : List V), vs = [.ref a, .ref b] ∧ SqT K H1 a xs ∧ SqT K H1 b ys ∧
  ∀ (H' : Hp) (p : Addr) (ts : List Addr), L2.Same H1 H' → H' p = some (.tup (ts.map V.ref)) → Paired (fun t (q : V × V) => H' t = some (.tup [q.1, q.2])) ts (xs.zip ys) → Q (.ref p) H'
theorem pe_tupZip {e1 e2 : Expr} {ta : TA} {p p2 pz pos : Pos} (hcalm : X.calm = true) (hg : Gl X "tuple") (hm : X.mg "tuple" = none) (hg2 : Gl X "zip") (hm2 : X.mg "zip" = none) (ha : PA X [e1, e2] ta)
    (hs : starEach [e1, e2] X.env = (false, eval e1 X.env) :: starEach [e2] X.env := by rfl) (hpl : (backTo pz (starEach [e2] X.env)).any (·.1) = false := by rfl)
    (hs2 : starEach [.Call (.Name "zip" p2) [e1, e2] [] pz] X.env = [(false, eval (.Call (.Name "zip" p2) [e1, e2] [] pz) X.env)] := by rfl) :
    PE X (.Call (.Name "tuple" p) [.Call (.Name "zip" p2) [e1, e2] [] pz] [] pos) (tTupZip X.K ta) := by
  refine ⟨fun pins s σ H Q I h => Call_ (ld_blt I hg hm PyProof.Rows.boot_tuple (PyProof.Rows.callWith_type1 ?_ hs2 rfl))⟩
  rw [hs2]
  show wpAny _ _ (spliced ((false, eval (.Call (.Name "zip" p2) [e1, e2] [] pz) X.env) :: [])) _ _ s
  refine Calls.spliced_cons (Call_ (ld_blt I hg2 hm2 PyProof.Rows.boot_zip (PyProof.Rows.callWith_type1 (thn (ha.run pz pins s σ H _ I h) fun us s1 ⟨vs, H1, I1, r1, q1⟩ => ?_) hs hpl)))
  obtain ⟨a, b, xs, ys, rfl, hqx, hqy, q⟩ := q1
  obtain ⟨its, rx, px, _⟩ := I1.tuple hqx
  obtain ⟨jts, ry, py, hly⟩ := I1.tuple hqy
  cases r1 with
  | cons ra rr =>
    cases rr with
    | cons rb rr =>
      cases rr
      cases ra
      cases rb
      have ta' : s1.heap.IsTuple a its.toArray := px
      have tb' : s1.heap.IsTuple b jts.toArray := py
      obtain ⟨oa, hoa, _⟩ := id px
      obtain ⟨ob, hob, _⟩ := id py
      have lx := Vals.length rx
      have ly := Vals.length ry
      refine RZ.call_zipT ta' tb' fun h' hz hTI hTO h1 h2 hsz hk => Calls.spliced_nil ?_
      have hn : (xs.zip ys).length ≤ sizeLine := by
        rw [List.length_zip]
        exact Nat.le_trans (Nat.min_le_right _ _) hly
      refine call_tuple_zip (n := (xs.zip ys).length) (I1.ok.hd hcalm) (PySem.W.ktu_apart s1.heap.objs.size a b (Heap.lt_size hoa) (Heap.lt_size hob)) hz hTI ⟨_, _, hTO⟩ h1 h2 (ta'.at fun o e => hk _ o e) (tb'.at fun o e => hk _ o e) hn ?_ ?_ ?_ fun h2 ts kp hl hp => ?_
      · rw [List.length_zip, List.size_toArray]
        omega
      · rw [List.length_zip, List.size_toArray]
        omega
      · rw [List.length_zip]
        rcases Nat.le_total xs.length ys.length with c | c
        · exact .inl (by simp; omega)
        · exact .inr (by simp; omega)
      have old : ∀ c o, s1.heap.get? c = some o → (h2.push { cls := .type "tuple", data := .seq (ts.map Value.ref).toArray }).get? c = some o := fun c o e => by
        have lc := Heap.lt_size e
        exact Heap.get?_push_of_some _ (kp c o (Nat.ne_of_lt (Nat.lt_of_lt_of_le lc (Nat.le_add_right _ _))) (Nat.ne_of_lt (Nat.lt_of_lt_of_le lc (Nat.le_add_right _ _))) (Nat.ne_of_lt lc) (Nat.ne_of_lt (Nat.lt_of_lt_of_le lc (Nat.le_add_right _ _))) (hk c o e))
      have I2 : L2.Inv X pins σ H1 { s1 with heap := h2.push { cls := .type "tuple", data := .seq (ts.map Value.ref).toArray } } := I1.kept (t' := s1.toks) old
      have big : ∀ t ∈ ts, s1.heap.objs.size ≤ t ∧ t < h2.objs.size := fun t ht => by
        obtain ⟨j, hj, ej⟩ := List.getElem_of_mem ht
        obtain ⟨hb, x, y, _, _, e3⟩ := hp.2 j t (by rw [List.getElem?_eq_getElem hj, ej])
        rw [hsz] at hb
        exact ⟨Nat.le_trans (Nat.le_add_right _ 6) hb, Heap.lt_size e3⟩
      have pp : Paired (fun t (pq : V × V) => ∃ u v, IsPair (h2.push { cls := .type "tuple", data := .seq (ts.map Value.ref).toArray }) t u v ∧ RelV pq.1 u ∧ RelV pq.2 v) ts (xs.zip ys) := paired_of hl fun j t pq ht hq => by
        obtain ⟨_, u, v, e1, e2, e3⟩ := hp.2 j t ht
        have hq1 : xs[j]? = some pq.1 ∧ ys[j]? = some pq.2 := by
          rw [List.getElem?_zip_eq_some] at hq
          exact hq
        obtain ⟨u', hu, ru⟩ := rx.get hq1.1
        obtain ⟨v', hv, rv⟩ := ry.get hq1.2
        have e1 : its[j]? = some u := by simpa using e1
        have e2 : jts[j]? = some v := by simpa using e2
        rw [hu] at e1
        rw [hv] at e2
        cases e1
        cases e2
        exact ⟨_, _, Heap.get?_push_of_some _ e3, ru, rv⟩
      obtain ⟨H', sm, I3, prs, oth⟩ := take_pairs (X := X) (pins := pins) (σ := σ) ts (xs.zip ys) H1 pp hp.1 (fun t ht => I1.fpOk (big t ht).1 (I1.hok.fresh (big t ht).1)) I2
      have hpn : h2.objs.size ∉ ts := fun z => Nat.lt_irrefl _ (big _ z).2
      have DD := PySem.W.ktu_apart s1.heap.objs.size a b (Heap.lt_size hoa) (Heap.lt_size hob)
      have l2 : s1.heap.objs.size ≤ h2.objs.size := Nat.le_trans (Nat.le_add_right _ 2) (Nat.le_of_lt (Heap.lt_size (kp _ _ DD.TIz DD.TITO DD.TIi1 DD.TIi2 hTI)))
      have hnone : H' h2.objs.size = none := by
        rw [oth _ hpn]
        exact I1.hok.fresh l2
      have fp : FpOk X pins H' h2.objs.size := I1.fpOk l2 hnone
      have lts : (ts.map V.ref).length ≤ sizeLine := by
        rw [List.length_map, hl]
        exact hn
      have I4 := L2.Inv.take (h' := h2.push { cls := .type "tuple", data := .seq (ts.map Value.ref).toArray }) (t' := s1.toks) (o := .tup (ts.map V.ref)) I3 (fun b ob _ e => e) fp ⟨lts, ts.map Value.ref, vals_refs ts, ⟨_, Heap.get?_push_size _ rfl, rfl, _, rfl⟩⟩
      have z := same_new hnone (o := .tup (ts.map V.ref))
      exact ⟨.ref h2.objs.size, _, I4, rfl, q _ _ ts (sm.trans z) upd_same (Paired.mapP prs fun _ _ e => z _ _ e)⟩
end
end WT

set_option Elab.async false
set_option linter.all false
set_option maxRecDepth 100000
set_option maxHeartbeats 4000000
namespace K14
open PySem PySem.Spec PyProof.Rows L2 WT
abbrev st_cycle_through : Stmt := top 13
theorem sc_cycle_through : FnScope ["world", "name", "those", "paths", "path", "one", "other", "found"] ["world", "name"] (defScope st_cycle_through) := ⟨rfl, rfl, rfl, by decide +kernel, rfl, by decide +kernel, by decide +kernel⟩
theorem pi_tupK {X : Cx} {K : PySem.W.Frag} {tg l : Expr} {tl : TE} (hl : PE X l tl) (hK : X.K = K := by rfl) : PI X tg l (iTup K tl) := by
  subst hK
  exact pi_tup hl
theorem walk_W {J : It} {n : Nat} {G : Hp → Prop} {Y : Nat → Hp → V → Hp → Prop} (w : Walk J n G Y) {Body : V → Hp → (Hp → Prop) → Prop} {Qd : Hp → Prop} {H0 : Hp} (Pv : Nat → Hp → Prop) (h0 : Pv 0 H0) (hG : ∀ i H, i ≤ n → Pv i H → G H)
    (hs : ∀ i x H H', i < n → Pv i H → Y i H x H' → Body x H' (Pv (i + 1))) (hd : ∀ H, Pv n H → Qd H) :
    ∃ W : Nat → Nat → Hp → Prop, (∃ m, W 0 m H0) ∧ ∀ i m H, W i m H → (J.stop i H ∧ Qd H) ∨ (J.go i H ∧ ∃ Nx : Hp → Prop, (∀ H', Nx H' → ∃ m', m' < m ∧ W (i + 1) m' H') ∧ ∀ x H', J.yld i H x H' → Body x H' Nx) := by
  refine ⟨fun i m H => m = n - i ∧ i ≤ n ∧ Pv i H, ⟨n, rfl, Nat.zero_le _, h0⟩, ?_⟩
  rintro i m H ⟨rfl, hi, p⟩
  by_cases c : i < n
  · exact .inr ⟨w.goes i H c (hG i H hi p), Pv (i + 1), fun H' p' => ⟨n - (i + 1), by omega, rfl, c, p'⟩, fun x H' y => hs i x H H' c p (w.yields i H x H' c (hG i H hi p) y)⟩
  · obtain rfl : i = n := by omega
    exact .inl ⟨w.stops H (hG _ H hi p), hd H p⟩
/-- the answers so far -/
def Asked (H : Hp) : List V → List (Str × Option Pth) → Prop := Paired fun v p => PathRes p.1 H v p.2
theorem res_tup {one : Str} {H H' : Hp} {v : V} {o : Option Pth} (h : PathRes one H v o) (k : ∀ t xs, H t = some (.tup xs) → H' t = some (.tup xs)) : PathRes one H' v o := by
  cases o with
  | none => exact h
  | some l =>
    obtain ⟨t, h1, h2⟩ := h
    exact ⟨t, h1, k _ _ h2⟩
section
variable {P : Program} {w : World} {K : PySem.W.Frag} {mg : Str → Option Value} {base : Heap} {f fM fS : Addr} {fd fdM fdS : FuncData}
/-- cycle_through(world, name) -/
def spCyc : Sp := fun vs H Q _ => ∃ (wa r g : Addr) (as : List Addr) (rs : List Str) (gs : List Gt) (gx : Gt), vs = [.ref wa, .str gx.1] ∧ WorldAt H wa r g as rs gs ∧ gx ∈ gs ∧ (gs.map (·.1)).Nodup ∧ rs.length ≤ 100 ∧ gs.length ≤ 100 ∧ (∀ g ∈ gs, g.2.1.length ≤ 100 ∧ ∀ y ∈ g.2.1, y ∈ rs) ∧
  ∀ (H' : Hp) (v : V), Same H H' → CycRes H' v (cycT gs rs gx) → Q v H'
theorem ok_cycle_through (F : Fun K "cycle_through" "cycle_through" st_cycle_through f fd) (B : Blt mg) (hzip : mg "zip" = none) (F_members : DfO P w K mg base "members" 1 fM fdM ["world", "name"] spMembers)
    (F_shortest_path : DfO P w K mg base "shortest_path" 2 fS fdS ["world", "one", "other", "without"] (spShort K)) : FnOk P w K mg base CX0 3 f fd ["world", "name"] spCyc := by
  refine F.ok sc_cycle_through (fun vs H Q E h => ?_) (fun cdv A outer s H vs Q E hr h => ?_)
  · obtain ⟨_, _, _, _, _, _, _, rfl, _⟩ := h
    rfl
  · obtain ⟨wa, r, g, as, rs, gs, gx, rfl, hw, hgx, nd0, hrl, hgl, hil, q⟩ := h
    refine ⟨_, (pss_cons (ps_set (i := 2) sc_cycle_through.nd rfl (.inr rfl) (pe_call F_members.G (hr.mono (by decide)) (by rfl) F_members.g F_members.kp F_members.bd .nil pass0 (pa_cons (pv 0) (pa_cons (pv 1) pa_nil))))
      (pss_cons (ps_setLc2 (i := 3) (own := [("one", 5), ("other", 6)]) (vs1 := [6]) (by rfl) sc_cycle_through.nd rfl rfl (sw_true rfl rfl rfl (by decide +kernel)) (pi_tup (pv 2)) (blkOk_by (own := [("one", 5), ("other", 6)]) (N := ["world", "name", "those", "paths", "path", "one", "other", "found"]) (sc := defScope st_cycle_through) (by decide +kernel)) (by decide) (fun _ _ _ _ _ => (pg_name (i := 5) sc_cycle_through.nd rfl (.inl rfl))) (fun _ _ _ _ _ => pts_nil) (fun _ _ _ _ _ => (pi_tupK (K := K) (pv 2))) (fun _ _ _ _ _ => (pg_name (i := 6) sc_cycle_through.nd rfl (.inl rfl))) (fun _ _ _ _ _ => (pts_one (pt_cmpR op_lt_str (pv 5) (pv 6) (nomark _)))) (fun _ _ _ _ _ => (pe_call F_shortest_path.G (hr.mono (by decide)) (by rfl) F_shortest_path.g F_shortest_path.kp F_shortest_path.bd .nil pass0 (pa_cons (pv 0) (pa_cons (pv 5) (pa_cons (pv 6) (pa_cons (pe_tup (pa_cons (pv 1) pa_nil)) pa_nil)))))))
      (pss_cons (ps_set (i := 4) sc_cycle_through.nd rfl (.inl rfl) (pe_minLenI (by rfl) (by rfl) B.min (by rfl) B.len (pa_cons (pe_lc (own := [("found", 7)]) (by rfl) sc_cycle_through.nd (pi_list (pv 3)) (blkOk_by (own := [("found", 7)]) (N := ["world", "name", "those", "paths", "path", "one", "other", "found"]) (sc := defScope st_cycle_through) (by decide +kernel)) (fun _ _ _ _ _ => (pg_name (i := 7) sc_cycle_through.nd rfl (.inl rfl))) (fun _ _ _ _ _ => (pts_one (pt_cmpR op_notN (pv 7) pe_non (nomark _)))) (fun _ _ _ _ _ => (pv 7))) pa_nil)))
      (pss_cons (ps_if (pt_cmpR op_isN (pv 4) pe_non (nomark _))
       (pss_one (ps_ret pe_non))
       pss_nil)
      (pss_one (ps_ret (pe_op op_catA (pe_tup (pa_cons (pe_tup (pa_cons (pe_ix ix_tup (pv 4) (pe_un un_neg pe_int) (fun _ _ => rfl)) (pa_cons (pv 1) pa_nil))) pa_nil)) (pe_tupZip (by rfl) (by rfl) B.tuple (by rfl) hzip (pa_cons (pe_slice3 2 (by decide) (by decide) (pv 4) po_none (po_some (pe_un un_neg pe_int)) pe_int) (pa_cons (pe_slice3 2 (by decide) (by decide) (pv 4) (po_some pe_int) po_none pe_int) pa_nil)))))))))), ?_⟩
    have hm : ∀ g ∈ gs, ∀ z ∈ g.2.1, z ∈ rs := fun g hg => (hil g hg).2
    -- those = members(world, name)
    refine ⟨_, rfl, _, rfl, wa, r, g, as, rs, gs, gx.1, rfl, hw, ⟨gx, hgx, rfl⟩, fun i gg hgg egg hi => ?_⟩
    obtain rfl : gg = gx := by_name nd0 hgg hgx egg
    obtain ⟨ml, msub⟩ := hil gg hgg
    -- paths
    refine ⟨_, rfl, i, rfl, ⟨_, SqT.of hi⟩, fun D nD => walk_W (walk_tup (xs := gg.2.1.map V.str))
      (fun m H' => Same H H' ∧ ∃ vs : List V, vs.length ≤ m * 100 ∧ H' D = some (.lst vs) ∧ Asked H' vs (((gg.2.1.take m).flatMap (rowP gg.2.1)).map (askP gs rs gg.1))) ⟨same_new nD, [], Nat.zero_le _, upd_same, .nil⟩ (fun m H' _ ⟨s', _⟩ => SqT.of (s' _ _ hi)) (fun m v H2 H3 hm2 hP hY => ?_) fun H2 hP => ?_⟩
    · obtain ⟨s2, vs, hvl, hD2, ak2⟩ := hP
      obtain ⟨rfl, hv⟩ := hY
      rw [List.getElem?_map] at hv
      obtain ⟨y, hy, rfl⟩ := Option.map_eq_some_iff.mp hv
      have hmlt : m < gg.2.1.length := (List.getElem?_eq_some_iff.mp hy).1
      refine ⟨rfl, ⟨_, rfl, i, rfl, ⟨_, SqT.of (s2 _ _ hi)⟩, walk_W (walk_tup (xs := gg.2.1.map V.str))
        (fun j H' => Same H H' ∧ ∃ vs : List V, vs.length ≤ m * 100 + j ∧ H' D = some (.lst vs) ∧ Asked H' vs (((gg.2.1.take m).flatMap (rowP gg.2.1) ++ rowP (gg.2.1.take j) y).map (askP gs rs gg.1))) ⟨s2, vs, hvl, hD2, by
          rw [show rowP (gg.2.1.take 0) y = [] from rfl, List.append_nil]
          exact ak2⟩ (fun j H' _ ⟨s', _⟩ => SqT.of (s' _ _ hi)) (fun j u H4 H5 hj hP hY => ?_) fun H4 hP => ?_⟩⟩
      · obtain ⟨s4, vs, hvl, hD4, ak4⟩ := hP
        obtain ⟨rfl, hu⟩ := hY
        rw [List.getElem?_map] at hu
        obtain ⟨z, hz, rfl⟩ := Option.map_eq_some_iff.mp hu
        have hj' : j < gg.2.1.length := (List.getElem?_eq_some_iff.mp hz).1
        have stp : rowP (gg.2.1.take (j + 1)) y = rowP (gg.2.1.take j) y ++ (if y.cps.toList < z.cps.toList then [(y, z)] else []) := by
          unfold rowP
          rw [List.take_add_one, hz, List.filter_append, List.map_append]
          congr 1
          by_cases c : y.cps.toList < z.cps.toList
          · rw [if_pos c]
            simp [ltS, c]
          · rw [if_neg c]
            simp [ltS, c]
        refine ⟨rfl, _, rfl, _, rfl, y, z, rfl, rfl, _, rfl, ?_⟩
        by_cases c : y.cps.toList < z.cps.toList
        · refine ifT (decide_eq_true c) ⟨_, rfl, _, rfl, _, rfl, _, rfl, (by show 1 ≤ sizeLine; decide), fun tn ntn => ?_⟩
          have zt := same_new ntn (o := .tup [.str gg.1])
          refine ⟨wa, r, g, tn, as, rs, gs, y, z, [gg.1], rfl, (hw.same s4).same zt, SqT.of upd_same, hrl, hgl, nd0, hil, msub y (List.mem_of_getElem? hy), fun H6 v s6 hres => ?_⟩
          have s46 := zt.trans s6
          have hD6 := s46 _ _ hD4
          have keep : ∀ (t : Addr) (xs : List V) (o : HO), H6 t = some (.tup xs) → upd H6 D o t = some (.tup xs) := fun t xs o e => by
            rw [upd_ne (ne_of e hD6 (by intro q; cases q))]
            exact e
          refine ⟨vs, hD6, Nat.lt_of_le_of_lt (show vs.length ≤ 100000 by have : m * 100 ≤ 10000 := by omega
                                                                          omega) (by decide), fun d o ed => ?_, vs ++ [v], by rw [List.length_append]; show vs.length + 1 ≤ _; omega, upd_same, ?_⟩
          · rw [upd_ne (ne_of_none ed nD)]
            exact s46 _ _ (s4 _ _ ed)
          · rw [stp, if_pos c, ← List.append_assoc, List.map_append]
            exact pair_snoc (Paired.mapP ak4 fun _ _ h => res_tup h fun t xs e => keep _ _ _ (s46 _ _ e)) (res_tup hres fun t xs e => keep _ _ _ e)
        · refine ifF (decide_eq_false c) ⟨s4, vs, by omega, hD4, ?_⟩
          rw [stp, if_neg c, List.append_nil]
          exact ak4
      · obtain ⟨s4, vs, hvl, hD4, ak4⟩ := hP
        rw [List.length_map] at hvl ak4
        rw [List.take_length] at ak4
        refine ⟨s4, vs, by omega, hD4, ?_⟩
        rw [List.take_add_one, hy, List.flatMap_append]
        have : (Option.some y).toList.flatMap (rowP gg.2.1) = rowP gg.2.1 y := by simp
        rw [this]
        exact ak4
    · obtain ⟨s2, vs, hvl, hD2, ak2⟩ := hP
      rw [List.length_map, List.take_length] at ak2
      rw [List.length_map] at hvl
      change Asked H2 vs ((pairsP gg.2.1).map (askP gs rs gg.1)) at ak2
      generalize hps : (pairsP gg.2.1).map (askP gs rs gg.1) = ps at ak2
      have lps := Paired.length ak2
      -- path = min(..)
      refine ⟨_, rfl, D, rfl, ⟨_, SqL.of hD2⟩, fun L nL => lc_list (K := K) (a := D) (xs := vs) (fun m H' => Same H2 H' ∧ ∃ ts : List (Addr × List V), H' L = some (.lst (ts.map fun t => V.ref t.1)) ∧ Paired (fun (t : Addr × List V) (p : Str × Pth) => H' t.1 = some (.tup t.2) ∧ t.2 = pathV p.1 p.2) ts (fsOf (ps.take m)))
        ⟨same_new nL, [], upd_same, .nil⟩ (fun m H' _ ⟨s', _⟩ => SqL.of (s' _ _ hD2)) (fun m v H3 hm2 hP => ?_) fun H3 hP => ?_⟩
      · obtain ⟨s3, ts, hL, hts⟩ := hP
        have hml : m < vs.length := (List.getElem?_eq_some_iff.mp hm2).1
        obtain ⟨p, hp, hres⟩ := pair_at ak2 hm2
        obtain ⟨p1, p2⟩ := p
        have stp : fsOf (ps.take (m + 1)) = fsOf (ps.take m) ++ (p2.map fun l => (p1, l)).toList := by
          unfold fsOf
          rw [List.take_add_one, hp, List.filterMap_append]
          cases p2 <;> rfl
        refine ⟨rfl, _, rfl, rfl, _, rfl, ?_⟩
        cases p2 with
        | none =>
          have hres : v = .non := hres
          refine ifF (by simp [hres]) ⟨s3, ts, hL, ?_⟩
          rw [stp]
          show Paired _ ts (fsOf (ps.take m) ++ [])
          rw [List.append_nil]
          exact hts
        | some l =>
          obtain ⟨t, rfl, ht⟩ := hres
          have lts := Paired.length hts
          have lfs : (fsOf (ps.take m)).length ≤ m := by
            unfold fsOf
            refine Nat.le_trans (List.length_filterMap_le ..) ?_
            rw [List.length_take]
            exact Nat.min_le_left _ _
          have nt : ∀ (d : Addr) (ys : List V) (o : HO), H3 d = some (.tup ys) → upd H3 L o d = some (.tup ys) := fun d ys o e => by
            rw [upd_ne (ne_of e hL (by intro q; cases q))]
            exact e
          refine ifT (by simp) ⟨_, rfl, _, hL, ?_, fun d o ed => ?_, ts ++ [(t, pathV p1 l)], ?_, ?_⟩
          · rw [List.length_map]
            exact Nat.lt_of_le_of_lt (show ts.length ≤ 100000 by omega) (by decide)
          · rw [upd_ne (ne_of_none ed nL)]
            exact s3 _ _ ed
          · rw [upd_same, List.map_append]
            rfl
          · rw [stp]
            exact pair_snoc (Paired.mapP hts fun _ _ h => ⟨nt _ _ _ h.1, h.2⟩) ⟨nt _ _ _ (s3 _ _ ht), rfl⟩
      · obtain ⟨s3, ts, hL, hts⟩ := hP
        rw [lps, List.take_length] at hts
        have s23 := s2.trans s3
        have lens : ts.map (fun t => t.2.length) = (fsOf ps).map plen := by
          have : ∀ {ts : List (Addr × List V)} {fs : List (Str × Pth)}, Paired (fun (t : Addr × List V) (p : Str × Pth) => H3 t.1 = some (.tup t.2) ∧ t.2 = pathV p.1 p.2) ts fs → ts.map (fun t => t.2.length) = fs.map plen := fun h => by
            induction h with
            | nil => rfl
            | cons h _ ih =>
              rw [List.map_cons, List.map_cons, ih, h.2]
              rfl
          exact this hts
        have ct : cycT gs rs gg = (bestF (fsOf ps)).map (cycOf gg.1) := by
          unfold cycT
          rw [hps]
        refine ⟨L, ts, rfl, SqL.of hL, fun t ht => ?_, fun e => ?_, fun t ht => ?_⟩
        · obtain ⟨j, hj⟩ := List.getElem?_of_mem ht
          obtain ⟨p, _, h1, _⟩ := pair_at hts hj
          exact SqT.of h1
        · refine ⟨_, rfl, rfl, _, rfl, ifT rfl (q _ .non s23 ?_)⟩
          have : fsOf ps = [] := by
            have l1 := Paired.length hts
            rw [e] at l1
            exact List.length_eq_zero_iff.mp l1.symm
          rw [ct, this]
          exact rfl
        · obtain ⟨p, hp, h1, h2⟩ := pair_at hts ht
          rw [lens] at hp
          obtain ⟨a0, l0⟩ := p
          have cte : cycT gs rs gg = some (cycOf gg.1 (a0, l0)) := by
            rw [ct]
            unfold bestF
            rw [hp]
            rfl
          have lf := best_some (fs := fsOf ps) (f := (a0, l0)) hp
          obtain ⟨b0, k1, k2, k3, k4⟩ := mem_fs.mp (by rw [hps]; exact lf.1)
          obtain ⟨G0, _⟩ := spath_good nd0 hm (hm gg hgg a0 k1) k4
          have len0 := G0.len (hm gg hgg a0 k1)
          have lsz : (pathV a0 l0).length ≤ 300 := by
            rw [pathV_len]
            omega
          have h2 : t.2 = pathV a0 l0 := h2
          rw [h2] at h1
          refine ⟨_, rfl, rfl, _, rfl, ifF rfl ?_⟩
          refine ⟨_, rfl, 1, rfl, t.1, pathV a0 l0, -1, .str (lastOf a0 l0), rfl, rfl, SqT.of h1, pathV_last a0 l0, _, rfl, (by show 2 ≤ sizeLine; decide), fun p1 n1 => ?_⟩
          have z1 := same_new n1 (o := .tup [.str (lastOf a0 l0), .str gg.1])
          have hp1 : upd H3 p1 (.tup [.str (lastOf a0 l0), .str gg.1]) p1 = some (.tup [.str (lastOf a0 l0), .str gg.1]) := upd_same
          have ht1 := z1 _ _ h1
          generalize upd H3 p1 (.tup [.str (lastOf a0 l0), .str gg.1]) = H4 at z1 hp1 ht1 ⊢
          refine ⟨(by show 1 ≤ sizeLine; decide), fun p2 n2 => ?_⟩
          have z2 := same_new n2 (o := .tup [.ref p1])
          have hp2 : upd H4 p2 (.tup [.ref p1]) p2 = some (.tup [.ref p1]) := upd_same
          have ht2 := z2 _ _ ht1
          have hp12 := z2 _ _ hp1
          generalize upd H4 p2 (.tup [.ref p1]) = H5 at z2 hp2 ht2 hp12 ⊢
          have sz1 : (stepL (pathV a0 l0) none (some (-1)) 2).length ≤ sizeLine := by
            rw [step_init, List.length_map]
            simp
            exact Nat.le_trans (show l0.length ≤ 100 by omega) (by decide)
          have sz2 : (stepL (pathV a0 l0) (some 1) none 2).length ≤ sizeLine := by
            rw [step_odd, List.length_map, List.length_map]
            exact Nat.le_trans (show l0.length ≤ 100 by omega) (by decide)
          refine ⟨_, rfl, 1, rfl, -1, rfl, t.1, pathV a0 l0, rfl, rfl, SqT.of ht2, sz1, fun p3 n3 => ?_⟩
          have z3 := same_new n3 (o := .tup (stepL (pathV a0 l0) none (some (-1)) 2))
          refine ⟨_, rfl, 1, rfl, t.1, pathV a0 l0, rfl, rfl, SqT.of (z3 _ _ ht2), sz2, fun p4 n4 => ?_⟩
          have z4 := same_new n4 (o := .tup (stepL (pathV a0 l0) (some 1) none 2))
          refine ⟨p3, p4, _, _, rfl, SqT.of (z4 _ _ upd_same), SqT.of upd_same, fun H6 p us s6 hp6 prs => ?_⟩
          rw [step_init, step_odd] at prs
          have prs2 := pair_zip prs
          have s56 := z3.trans (z4.trans s6)
          have s06 : Same H H6 := s23.trans (z1.trans (z2.trans s56))
          have lus := Paired.length prs2
          have hl0 : us.length = l0.length := by
            rw [lus, List.length_zip]
            simp
          have hus : us.length ≤ 300 := by omega
          have l0pos : l0 ≠ [] := fun z => by
            have e1 := (spath_some hm (hm gg hgg a0 k1) k4).1
            rw [z] at e1
            cases e1
            exact str_irrefl k3 rfl
          refine ⟨p2, p, [.ref p1], us.map V.ref, rfl, rfl, SqT.of (s56 _ _ hp2), SqT.of hp6, ?_, (fun z => nomatch z), fun z _ => ?_, fun _ _ p5 n5 => q _ _ (s06.trans (same_new n5)) ?_⟩
          · rw [List.length_map]
            exact Nat.le_trans (show 1 + us.length ≤ 301 by omega) (by decide)
          · exfalso
            rename_i z2
            first
              | (have := List.map_eq_nil_iff.mp z; rw [this] at hl0; exact l0pos (List.length_eq_zero_iff.mp hl0.symm))
              | (have := List.map_eq_nil_iff.mp z2; rw [this] at hl0; exact l0pos (List.length_eq_zero_iff.mp hl0.symm))
          · rw [cte]
            have z5 := same_new n5 (o := .tup ([.ref p1] ++ us.map V.ref))
            exact ⟨p5, p1 :: us, rfl, upd_same, .cons (z5 _ _ (s56 _ _ hp12)) (Paired.mapP prs2 fun _ _ h => z5 _ _ h)⟩
end
end K14

set_option Elab.async false
set_option linter.all false
namespace WT
open PySem PySem.Spec PyProof.Rows L2
/-! ### worlds known by hand: what the searches find where ways round are known -/
/-- the names of those gateways of hs that lie on a cycle, or of those that do not -/
def pickG (gs : List Gt) (rs : List Str) (b : Bool) (hs : List Gt) : List Str := (hs.filter fun g => decide ((cycT gs rs g).isSome = b)).map (·.1)
theorem pick_snoc (gs : List Gt) (rs : List Str) (b : Bool) (hs : List Gt) (g : Gt) : pickG gs rs b (hs ++ [g]) = pickG gs rs b hs ++ (if (cycT gs rs g).isSome = b then [g.1] else []) := by
  unfold pickG
  rw [List.filter_append, List.map_append]
  by_cases c : (cycT gs rs g).isSome = b <;> simp [c]
theorem pick_len (gs : List Gt) (rs : List Str) (b : Bool) (hs : List Gt) : (pickG gs rs b hs).length ≤ hs.length := by
  unfold pickG
  rw [List.length_map]
  exact List.length_filter_le _ _
/-- a way round through the gateway, of n gateways -/
def CycW (gs : List Gt) (g : Gt) (n : Nat) : Prop := ∃ a ∈ g.2.1, ∃ b ∈ g.2.1, b ≠ a ∧ ∃ l, SPath gs [g.1] a l b ∧ n = 1 + l.length
structure Wds (gs : List Gt) (rs : List Str) : Prop where
  nd : (gs.map (·.1)).Nodup
  sub : ∀ g ∈ gs, ∀ z ∈ g.2.1, z ∈ rs
section
variable {gs : List Gt} {rs : List Str} {g : Gt} {n : Nat}
theorem two_way (h : CycW gs g n) : 2 ≤ n := by
  obtain ⟨a, _, b, _, ne, l, p, rfl⟩ := h
  cases p with
  | nil => exact absurd rfl ne
  | cons _ _ =>
    rw [List.length_cons]
    omega
theorem cyc_is (W : Wds gs rs) (hg : g ∈ gs) {c : List (Str × Str)} (h : cycT gs rs g = some c) : CycW gs g c.length := by
  obtain ⟨_, _, ⟨a, ha, b, hb, ne, l, G, e, en⟩, _⟩ := cycT_some W.nd W.sub hg h
  exact ⟨a, ha, b, hb, ne, l, by rw [← e]; exact G.last, en⟩
theorem cyc_way (W : Wds gs rs) (hg : g ∈ gs) (h : CycW gs g n) : ∃ c, cycT gs rs g = some c ∧ c.length ≤ n := by
  obtain ⟨a, ha, b, hb, ne, l, p, rfl⟩ := h
  cases e : cycT gs rs g with
  | none =>
    refine absurd ?_ ((cycT_none W.sub hg).mp e)
    rcases str_tri a b with q | q | q
    · exact ⟨a, ha, b, hb, q, p.conn⟩
    · exact absurd q.symm ne
    · exact ⟨b, hb, a, ha, q, p.conn.symm⟩
  | some c =>
    refine ⟨c, rfl, ?_⟩
    obtain ⟨_, _, _, lo⟩ := cycT_some W.nd W.sub hg e
    cases e2 : spath gs [g.1] rs a b with
    | none => exact absurd p.conn ((spath_none W.sub (W.sub g hg a ha)).mp e2)
    | some l2 =>
      obtain ⟨G, el⟩ := spath_good W.nd W.sub (W.sub g hg a ha) e2
      have k1 := (spath_some W.sub (W.sub g hg a ha) e2).2 l p
      have k2 := lo (1 + l2.length) ⟨a, ha, b, hb, ne, l2, G, el, rfl⟩
      omega
theorem girth_is (W : Wds gs rs) (h : ∃ g ∈ wrapsG gs, CycW gs g n) (lo : ∀ g ∈ wrapsG gs, ∀ m, CycW gs g m → n ≤ m) : ∃ c, scyc gs rs = some c ∧ c.length = n := by
  obtain ⟨g, hg, w⟩ := h
  have hgs : ∀ g ∈ wrapsG gs, g ∈ gs := fun g h => (List.mem_filter.mp h).1
  obtain ⟨c, e, lc⟩ := cyc_way W (hgs g hg) w
  cases es : scyc gs rs with
  | none =>
    have := scyc_none.mp es g hg
    rw [e] at this
    cases this
  | some c' =>
    obtain ⟨⟨g', hg', e'⟩, mn⟩ := scyc_some es
    have k1 := mn g hg c e
    have k2 := lo g' hg' _ (cyc_is W (hgs g' hg') e')
    exact ⟨c', rfl, by omega⟩
theorem no_cyc (W : Wds gs rs) (hg : g ∈ gs) (h : ∀ n, ¬ CycW gs g n) : cycT gs rs g = none := by
  cases e : cycT gs rs g with
  | none => rfl
  | some c => exact absurd (cyc_is W hg e) (h _)
theorem girth_no (W : Wds gs rs) (h : ∀ g ∈ wrapsG gs, ∀ n, ¬ CycW gs g n) : scyc gs rs = none :=
  scyc_none.mpr fun g hg => no_cyc W (List.mem_filter.mp hg).1 (h g hg)
theorem quiet_none (W : Wds gs rs) (h : ∀ g ∈ gs, ∃ n, CycW gs g n) : pickG gs rs false gs = [] := by
  unfold pickG
  rw [List.map_eq_nil_iff, List.filter_eq_nil_iff]
  intro g hg
  obtain ⟨n, w⟩ := h g hg
  obtain ⟨c, e, _⟩ := cyc_way W hg w
  simp [e]
theorem noticed_all (W : Wds gs rs) (h : ∀ g ∈ gs, ∃ n, CycW gs g n) : pickG gs rs true (wrapsG gs) = (wrapsG gs).map (·.1) := by
  unfold pickG
  congr 1
  rw [List.filter_eq_self]
  intro g hg
  have hg := (List.mem_filter.mp hg).1
  obtain ⟨n, w⟩ := h g hg
  obtain ⟨c, e, _⟩ := cyc_way W hg w
  simp [e]
theorem pot_path {bar : List Str} (φ : Str → Nat) (h : ∀ g ∈ gs, g.1 ∉ bar → ∀ x ∈ g.2.1, ∀ z ∈ g.2.1, φ z ≤ φ x + 1) {x y : Str} {l : Pth} (p : SPath gs bar x l y) : φ y ≤ φ x + l.length := by
  induction p with
  | nil => exact Nat.le_add_right ..
  | @cons x n z y l s _ ih =>
    obtain ⟨g, hg, rfl, hb, h1, h2⟩ := s
    have := h g hg hb _ h1 _ h2
    rw [List.length_cons]
    omega
/-- no way round is shorter than what a measure of the regions tells -/
theorem far_way (φ : Str → Nat) (k : Nat) (h : ∀ g' ∈ gs, g'.1 ≠ g.1 → ∀ x ∈ g'.2.1, ∀ z ∈ g'.2.1, φ z ≤ φ x + 1) (d : ∀ a ∈ g.2.1, ∀ b ∈ g.2.1, b ≠ a → φ a + k ≤ φ b ∨ φ b + k ≤ φ a) {m : Nat} (w : CycW gs g m) : k + 1 ≤ m := by
  obtain ⟨a, ha, b, hb, ne, l, p, rfl⟩ := w
  have h' : ∀ g' ∈ gs, g'.1 ∉ [g.1] → ∀ x ∈ g'.2.1, ∀ z ∈ g'.2.1, φ z ≤ φ x + 1 := fun g' hg' n => h g' hg' fun e => n (by rw [e]; exact List.mem_singleton.mpr rfl)
  obtain ⟨l', el, p'⟩ := p.rev
  have k1 := pot_path φ h' p
  have k2 := pot_path φ h' p'
  rcases d a ha b hb ne with q | q <;> omega
end
/-! ### rings -/
def md (n x : Nat) : Nat := if x < n then x else x - n
theorem md_mod {n x : Nat} (h : x < 2 * n) : x % n = md n x := by
  unfold md
  by_cases c : x < n
  · rw [if_pos c, Nat.mod_eq_of_lt c]
  · rw [if_neg c, Nat.mod_eq_sub_mod (by omega), Nat.mod_eq_of_lt (by omega)]
theorem md_lt {n x : Nat} (h : x < 2 * n) : md n x < n := by
  unfold md
  split <;> omega
structure RingW (n : Nat) (o nm : Nat → Str) (gs : List Gt) : Prop where
  two : 2 ≤ n
  mem : ∀ g ∈ gs, ∃ i, i < n ∧ g.1 = nm i ∧ ∀ z, z ∈ g.2.1 ↔ z = o i ∨ z = o (md n (i + 1))
  all : ∀ i, i < n → ∃ g ∈ gs, g.1 = nm i
  io : ∀ i j, i < n → j < n → o i = o j → i = j
  im : ∀ i j, i < n → j < n → nm i = nm j → i = j
section
variable {n : Nat} {o nm : Nat → Str} {gs : List Gt}
theorem RingW.gate (R : RingW n o nm gs) {i : Nat} (hi : i < n) : ∃ g ∈ gs, g.1 = nm i ∧ ∀ z, z ∈ g.2.1 ↔ z = o i ∨ z = o (md n (i + 1)) := by
  obtain ⟨g, hg, e⟩ := R.all i hi
  obtain ⟨j, hj, e2, m⟩ := R.mem g hg
  obtain rfl : i = j := R.im _ _ hi hj (by rw [← e, e2])
  exact ⟨g, hg, e, m⟩
theorem RingW.walk (R : RingW n o nm gs) {i : Nat} (hi : i < n) : ∀ k, k + 1 ≤ n → ∃ l, l.length = k ∧ SPath gs [nm i] (o (md n (i + 1))) l (o (md n (i + 1 + k)))
  | 0, _ => ⟨[], rfl, .nil _⟩
  | k + 1, h => by
    obtain ⟨l, el, p⟩ := R.walk hi k (by omega)
    have hj : md n (i + 1 + k) < n := md_lt (by omega)
    obtain ⟨g, hg, e, m⟩ := R.gate hj
    have ne : md n (i + 1 + k) ≠ i := by
      unfold md
      split <;> omega
    have e3 : md n (md n (i + 1 + k) + 1) = md n (i + 1 + (k + 1)) := by
      unfold md
      (repeat' split) <;> omega
    refine ⟨l ++ [(nm (md n (i + 1 + k)), o (md n (i + 1 + (k + 1))))], by simp [el], p.app (.cons ⟨g, hg, e, fun z => ?_, (m _).mpr (.inl rfl), (m _).mpr (.inr (by rw [e3]))⟩ (.nil _))⟩
    exact ne (R.im _ _ hj hi (List.mem_singleton.mp z))
theorem RingW.ends (R : RingW n o nm gs) {i : Nat} (hi : i < n) : md n (i + 1 + (n - 1)) = i ∧ md n (i + 1) ≠ i ∧ md n (i + 1) < n := by
  have := R.two
  unfold md
  refine ⟨?_, ?_, ?_⟩ <;> (repeat' split) <;> omega
theorem RingW.way (R : RingW n o nm gs) {g : Gt} (hg : g ∈ gs) : CycW gs g n := by
  obtain ⟨i, hi, e, m⟩ := R.mem g hg
  have := R.two
  obtain ⟨e1, e2, e3⟩ := R.ends hi
  obtain ⟨l, el, p⟩ := R.walk hi (n - 1) (by omega)
  rw [e1] at p
  refine ⟨_, (m _).mpr (.inr rfl), _, (m _).mpr (.inl rfl), fun z => e2 (R.io _ _ hi e3 z).symm, l, ?_, by omega⟩
  rw [e]
  exact p
open Classical in
noncomputable def posR (n : Nat) (o : Nat → Str) (i : Nat) (z : Str) : Nat := if h : ∃ t, t < n ∧ z = o (md n (i + 1 + t)) then h.choose else 0
theorem RingW.pos (R : RingW n o nm gs) {i t : Nat} (hi : i < n) (ht : t < n) : posR n o i (o (md n (i + 1 + t))) = t := by
  have h : ∃ t', t' < n ∧ o (md n (i + 1 + t)) = o (md n (i + 1 + t')) := ⟨t, ht, rfl⟩
  unfold posR
  rw [dif_pos h]
  obtain ⟨h1, h2⟩ := h.choose_spec
  have := R.io _ _ (md_lt (by omega)) (md_lt (by omega)) h2
  generalize h.choose = t' at h1 this ⊢
  unfold md at this
  (repeat' split at this) <;> omega
theorem RingW.low (R : RingW n o nm gs) {g : Gt} (hg : g ∈ gs) {m : Nat} (w : CycW gs g m) : n ≤ m := by
  obtain ⟨i, hi, e, mm⟩ := R.mem g hg
  have h2 := R.two
  obtain ⟨e1, e2, e3⟩ := R.ends hi
  have p0 : posR n o i (o (md n (i + 1))) = 0 := R.pos (t := 0) hi (by omega)
  have p1 : posR n o i (o i) = n - 1 := by
    have := R.pos (t := n - 1) hi (by omega)
    rw [e1] at this
    exact this
  have := far_way (gs := gs) (g := g) (posR n o i) (n - 1) (fun g' hg' ne x hx z hz => ?_) (fun a ha b hb ne => ?_) w
  · omega
  · obtain ⟨j, hj, e', m'⟩ := R.mem g' hg'
    have nji : j ≠ i := fun z => ne (by rw [e', e, z])
    obtain ⟨t, ht, et, et2⟩ : ∃ t, t + 1 < n ∧ md n (i + 1 + t) = j ∧ md n (i + 1 + (t + 1)) = md n (j + 1) := by
      refine ⟨if i < j then j - i - 1 else j + n - i - 1, ?_, ?_, ?_⟩
      · split <;> omega
      · unfold md
        (repeat' split) <;> omega
      · unfold md
        (repeat' split) <;> omega
    have q1 : posR n o i (o j) = t := by
      rw [← et]
      exact R.pos hi (by omega)
    have q2 : posR n o i (o (md n (j + 1))) = t + 1 := by
      rw [← et2]
      exact R.pos hi ht
    rcases (m' x).mp hx with rfl | rfl <;> rcases (m' z).mp hz with rfl | rfl <;> omega
  · rcases (mm a).mp ha with rfl | rfl <;> rcases (mm b).mp hb with rfl | rfl
    · exact absurd rfl ne
    · right
      omega
    · left
      omega
    · exact absurd rfl ne
theorem RingW.conn (R : RingW n o nm gs) {i j k : Nat} (hi : i < n) (hj : j < n) (hk : k < n) : Conn gs [nm i] (o j) (o k) := by
  have h2 := R.two
  have go : ∀ j, j < n → Conn gs [nm i] (o (md n (i + 1))) (o j) := fun j hj => by
    obtain ⟨t, ht, et⟩ : ∃ t, t < n ∧ md n (i + 1 + t) = j := by
      refine ⟨if i < j then j - i - 1 else j + n - i - 1, ?_, ?_⟩
      · split <;> omega
      · unfold md
        (repeat' split) <;> omega
    obtain ⟨l, _, p⟩ := R.walk hi t (by omega)
    rw [et] at p
    exact p.conn
  exact (go j hj).symm.trans (go k hk)
end
/-! ### zones -/
theorem zones_one {R : Str → Str → Bool} {rs : List Str} (A : AscS rs) (ne : rs ≠ []) (h : ∀ x ∈ rs, ∀ y ∈ rs, R x y = true) : zonesL R rs = [rs] := by
  cases rs with
  | nil => exact absurd rfl ne
  | cons x rs =>
    obtain ⟨a1, a2⟩ := List.pairwise_cons.mp A
    have zn : ∀ y ∈ x :: rs, zoneL R (x :: rs) y = x :: rs := fun y hy => List.filter_eq_self.mpr fun z hz => h y hy z hz
    have hx : headB R (x :: rs) x = true := headB_iff.mpr fun y hy _ b => by
      rcases List.mem_cons.mp hy with rfl | hy
      · exact b.ne rfl
      · exact ((a1 y hy).trans b).ne rfl
    have hr : rs.filter (headB R (x :: rs)) = [] := List.filter_eq_nil_iff.mpr fun y hy z => by
      have := headB_iff.mp z x List.mem_cons_self (h _ (List.mem_cons_of_mem _ hy) _ List.mem_cons_self)
      exact this (a1 y hy)
    unfold zonesL headsL
    rw [List.filter_cons, if_pos hx, hr, List.map_cons, List.map_nil, zn x List.mem_cons_self]
/-! ### what is told of a world -/
def girD : Option Nat → PyData
  | none => .none
  | some n => .int n
def toldD (o : Option Nat) (a b : List Str) : PyData := .list [girD o, tupD a, tupD b]
def toldW (gs : List Gt) (rs : List Str) : PyData := toldD ((scyc gs rs).map List.length) (pickG gs rs false gs) (pickG gs rs true (wrapsG gs))
theorem fit_gir {o : Option Nat} (h : ∀ n, o = some n → n < 20) : Fit 0 200 (girD o) := by
  cases o with
  | none => exact ⟨by decide +kernel, by decide +kernel, by decide +kernel⟩
  | some n =>
    have : ∀ n : Fin 20, (PyData.int ((n.1 : Nat) : Int)).showable = true ∧ (PyData.int ((n.1 : Nat) : Int)).depth ≤ 0 ∧ (PyData.int ((n.1 : Nat) : Int)).shown.length ≤ 200 := by decide +kernel
    obtain ⟨h1, h2, h3⟩ := this ⟨n, h n rfl⟩
    exact ⟨h1, h2, h3⟩
theorem fit_toldD {o : Option Nat} {a b : List Str} (ho : ∀ n, o = some n → n < 20) (la : a.length ≤ 10) (lb : b.length ≤ 10) (ha : ∀ s ∈ a, NmOk s) (hb : ∀ s ∈ b, NmOk s) : Fit 60 sizeLine (toldD o a b) := by
  have f1 := fit_gir ho
  have f2 := fit_strs ha
  have f3 := fit_strs hb
  have := fit_list (n := 1) (L := 2100) (ds := [girD o, tupD a, tupD b]) fun d hd => by
    simp only [List.mem_cons, List.not_mem_nil, or_false] at hd
    rcases hd with rfl | rfl | rfl
    · exact f1.mono (by decide) (by decide)
    · exact f2.mono (by decide) (by omega)
    · exact f3.mono (by decide) (by omega)
  exact this.mono (by decide) (Nat.le_trans (show 3 * (2100 + 2) + 3 ≤ 10000 by decide) (by decide))
theorem fit_told {gs : List Gt} {rs : List Str} (h : WFine rs gs) : Fit 60 sizeLine (toldW gs rs) := by
  have sub : ∀ g ∈ gs, ∀ z ∈ g.2.1, z ∈ rs := fun g hg => (h.each g hg).2.2.1
  have hw : ∀ g ∈ wrapsG gs, g ∈ gs := fun g hg => (List.mem_filter.mp hg).1
  have pk : ∀ (b : Bool) (hs : List Gt), (∀ g ∈ hs, g ∈ gs) → hs.length ≤ 10 → (pickG gs rs b hs).length ≤ 10 ∧ ∀ s ∈ pickG gs rs b hs, NmOk s := fun b hs hh hl => by
    refine ⟨Nat.le_trans (pick_len ..) hl, fun s hs' => ?_⟩
    unfold pickG at hs'
    obtain ⟨g, hg, rfl⟩ := List.mem_map.mp hs'
    exact (h.each g (hh g (List.mem_filter.mp hg).1)).1
  have p1 := pk false gs (fun _ h => h) h.gl
  have p2 := pk true (wrapsG gs) hw (Nat.le_trans (List.length_filter_le _ _) h.gl)
  refine fit_toldD (fun n hn => ?_) p1.1 p2.1 p1.2 p2.2
  obtain ⟨c, e, rfl⟩ := Option.map_eq_some_iff.mp hn
  obtain ⟨⟨g, hg, e'⟩, _⟩ := scyc_some e
  have := (cycT_some h.nd sub (hw g hg) e').1.short
  have := h.rl
  omega
/-! ### the ring as a law writes it -/
def GateR (ys ns : List Str) (W : Nat → Bool) (g : Gt) : Prop := ∃ i, i < ns.length ∧ g.1 = ns.getD i "" ∧ (∀ z, z ∈ g.2.1 ↔ z = ys.getD i "" ∨ z = ys.getD (md ns.length (i + 1)) "") ∧ g.2.1.length = 2 ∧ g.2.2 = (if W i = true then ("wrap" : Str) else "open")
structure RingG (ys ns : List Str) (W : Nat → Bool) (rs : List Str) (gs : List Gt) : Prop where
  names : gs.map (·.1) = ns
  each : ∀ g ∈ gs, GateR ys ns W g
  asc : AscS rs
  reg : rs.Perm ys
theorem inV_int (x : Int) : ∀ is : List Int, inV (.int x) (is.map V.int) = decide (x ∈ is)
  | [] => by simp [inV]
  | y :: is => by
    have ih := inV_int x is
    unfold inV at ih ⊢
    rw [List.map_cons, List.any_cons, ih]
    have e : eqV (.int y) (.int x) = decide (x = y) := by
      by_cases c : x = y
      · rw [c]
        simp [eqV]
      · rw [decide_eq_false c]
        simp [eqV]
        exact fun z => c z.symm
    rw [e]
    simp [List.mem_cons, Bool.decide_or]
theorem flat_ints : ∀ is : List Int, (is.map V.int).all flatV = true
  | [] => rfl
  | _ :: is => by
    rw [List.map_cons, List.all_cons, flat_ints is]
    rfl
theorem nm_of_all {s : Str} (h1 : s.length ≤ 8) (h2 : s.cps.toList.all (fun c => decide (97 ≤ c ∧ c ≤ 122)) = true) : NmOk s := ⟨h1, fun c hc => by
  have := of_decide_eq_true (List.all_eq_true.mp h2 c hc)
  unfold Low
  omega⟩
theorem zones_alone {gs : List Gt} {rs : List Str} (A : AscS rs) (h : ∀ g ∈ gs, g.2.2 = ("wrap" : Str)) : zonesL (conB gs (wrapsW gs)) rs = rs.map fun x => [x] := by
  have nc : ∀ x ∈ rs, ∀ y ∈ rs, conB gs (wrapsW gs) x y = decide (x = y) := fun x _ y _ => by
    by_cases c : x = y
    · rw [c, decide_eq_true rfl]
      exact conB_iff.mpr .refl
    · rw [decide_eq_false c]
      cases e : conB gs (wrapsW gs) x y with
      | false => rfl
      | true =>
        exfalso
        have := conB_iff.mp e
        induction this with
        | refl => exact c rfl
        | step _ ad _ =>
          obtain ⟨g, hg, nb, _⟩ := ad
          exact nb (mem_wraps.mpr ⟨g, hg, h g hg, rfl⟩)
  rw [zones_congr nc]
  unfold zonesL headsL
  have e1 : rs.filter (headB (fun x y => decide (x = y)) rs) = rs := List.filter_eq_self.mpr fun x hx => headB_iff.mpr fun y _ e b => by
    have e : x = y := of_decide_eq_true e
    exact b.ne e.symm
  rw [e1]
  refine List.map_congr_left fun x hx => ?_
  unfold zoneL
  have nd : rs.Nodup := A.imp fun b => b.ne
  clear e1 nc h A
  induction rs with
  | nil => cases hx
  | cons y rs ih =>
    rw [List.filter_cons]
    obtain ⟨n1, n2⟩ := List.nodup_cons.mp nd
    rcases List.mem_cons.mp hx with rfl | hx
    · rw [if_pos (decide_eq_true rfl), List.filter_eq_nil_iff.mpr fun z hz e => n1 (by rw [show x = z from of_decide_eq_true e]; exact hz)]
    · rw [if_neg fun e => n1 (by rw [← (show x = y from of_decide_eq_true e)]; exact hx)]
      exact ih hx n2
theorem getD_at {l : List Str} {i : Nat} (h : i < l.length) : l.getD i "" = l[i] := by
  rw [List.getD_eq_getElem?_getD, List.getElem?_eq_getElem h]
  rfl
section
variable {ys ns rs : List Str} {W : Nat → Bool} {gs : List Gt}
structure RingP (ys ns : List Str) : Prop where
  ly : ys.length = ns.length
  two : 2 ≤ ns.length
  ten : ns.length ≤ 10
  ndy : ys.Nodup
  asc : AscS ns
  oky : ∀ s ∈ ys, NmOk s
  okn : ∀ s ∈ ns, NmOk s
theorem RingP.io (p : RingP ys ns) : ∀ i j, i < ns.length → j < ns.length → ys.getD i "" = ys.getD j "" → i = j := fun i j hi hj e => by
  have l := p.ly
  rw [getD_at (by omega), getD_at (by omega)] at e
  exact (List.getElem_inj p.ndy).mp e
theorem RingP.im (p : RingP ys ns) : ∀ i j, i < ns.length → j < ns.length → ns.getD i "" = ns.getD j "" → i = j := fun i j hi hj e => by
  rw [getD_at hi, getD_at hj] at e
  exact (List.getElem_inj (p.asc.imp fun h => h.ne)).mp e
theorem RingP.mem (p : RingP ys ns) {i : Nat} (hi : i < ns.length) : ys.getD i "" ∈ ys := by
  have l := p.ly
  rw [getD_at (by omega)]
  exact List.getElem_mem _
theorem RingG.ring (p : RingP ys ns) (R : RingG ys ns W rs gs) : RingW ns.length (fun i => ys.getD i "") (fun i => ns.getD i "") gs where
  two := p.two
  mem g hg := by
    obtain ⟨i, h1, h2, h3, _⟩ := R.each g hg
    exact ⟨i, h1, h2, h3⟩
  all i hi := by
    have : ns.getD i "" ∈ gs.map (·.1) := by
      rw [R.names, getD_at hi]
      exact List.getElem_mem _
    obtain ⟨g, hg, e⟩ := List.mem_map.mp this
    exact ⟨g, hg, e⟩
  io := p.io
  im := p.im
theorem RingG.fine (p : RingP ys ns) (R : RingG ys ns W rs gs) : WFine rs gs where
  rl := by rw [R.reg.length_eq, p.ly]; exact p.ten
  gl := by
    have := congrArg List.length R.names
    rw [List.length_map] at this
    rw [this]
    exact p.ten
  rok s hs := p.oky s (R.reg.mem_iff.mp hs)
  nd := by
    rw [R.names]
    exact p.asc.imp fun h => h.ne
  each g hg := by
    obtain ⟨i, h1, h2, h3, h4, h5⟩ := R.each g hg
    have t := p.two
    refine ⟨?_, by omega, fun y hy => R.reg.mem_iff.mpr ?_, ?_⟩
    · rw [h2, getD_at h1]
      exact p.okn _ (List.getElem_mem _)
    · rcases (h3 y).mp hy with rfl | rfl
      · exact p.mem h1
      · exact p.mem (md_lt (by omega))
    · rw [h5]
      split
      · exact nm_of_all (by decide +kernel) (by decide +kernel)
      · exact nm_of_all (by decide +kernel) (by decide +kernel)
theorem WFine.wds (h : WFine rs gs) : Wds gs rs := ⟨h.nd, fun g hg => (h.each g hg).2.2.1⟩
theorem RingG.wr (p : RingP ys ns) (R : RingG ys ns W rs gs) {i : Nat} (hi : i < ns.length) : ns.getD i "" ∈ wrapsW gs ↔ W i = true := by
  have Q := R.ring p
  rw [mem_wraps]
  constructor
  · rintro ⟨g, hg, k, e⟩
    obtain ⟨j, h1, h2, _, _, h5⟩ := R.each g hg
    obtain rfl : i = j := p.im _ _ hi h1 (by rw [← e, h2])
    rw [h5] at k
    cases c : W i with
    | true => rfl
    | false =>
      rw [c] at k
      exact absurd k (by decide +kernel)
  · intro c
    obtain ⟨g, hg, e⟩ := Q.all i hi
    obtain ⟨j, h1, h2, _, _, h5⟩ := R.each g hg
    obtain rfl : i = j := p.im _ _ hi h1 (by rw [← h2]; exact e.symm)
    exact ⟨g, hg, by rw [h5, if_pos c], e⟩
theorem RingG.wsub (R : RingG ys ns W rs gs) {s : Str} (h : s ∈ wrapsW gs) : ∃ i, i < ns.length ∧ s = ns.getD i "" := by
  obtain ⟨g, hg, _, rfl⟩ := mem_wraps.mp h
  obtain ⟨i, h1, h2, _⟩ := R.each g hg
  exact ⟨i, h1, h2⟩
theorem RingG.wasc (p : RingP ys ns) (R : RingG ys ns W rs gs) : AscS (wrapsW gs) := by
  have h : AscS (gs.map (·.1)) := by
    rw [R.names]
    exact p.asc
  unfold wrapsW
  exact h.sublist (List.filter_sublist.map _)
theorem RingG.cyc (p : RingP ys ns) (R : RingG ys ns W rs gs) : ∀ g ∈ gs, ∃ n, CycW gs g n := fun g hg => ⟨_, (R.ring p).way hg⟩
/-- what is told of a ring with wrapping gateways -/
theorem RingG.told (p : RingP ys ns) (R : RingG ys ns W rs gs) {i : Nat} (hi : i < ns.length) (hw : W i = true) : toldW gs rs = toldD (some ns.length) [] (wrapsW gs) := by
  have f := (R.fine p).wds
  have Q := R.ring p
  obtain ⟨g, hg, k, e⟩ := mem_wraps.mp ((R.wr p hi).mpr hw)
  have hgw : g ∈ wrapsG gs := List.mem_filter.mpr ⟨hg, decide_eq_true k⟩
  obtain ⟨c, ec, lc⟩ := girth_is f ⟨g, hgw, Q.way hg⟩ fun g' hg' m w => Q.low (List.mem_filter.mp hg').1 w
  unfold toldW
  rw [ec, quiet_none f (R.cyc p), noticed_all f (R.cyc p)]
  show toldD (some c.length) _ _ = _
  rw [lc]
  rfl
theorem RingG.told0 (p : RingP ys ns) (R : RingG ys ns W rs gs) (h : ∀ i, i < ns.length → W i = false) : toldW gs rs = toldD none [] [] := by
  have f := (R.fine p).wds
  have e : wrapsG gs = [] := List.filter_eq_nil_iff.mpr fun g hg k => by
    obtain ⟨i, h1, _, _, _, h5⟩ := R.each g hg
    rw [h5, h i h1] at k
    exact absurd (of_decide_eq_true k) (by decide +kernel)
  unfold toldW
  rw [quiet_none f (R.cyc p), girth_no f (by rw [e]; exact fun g hg => nomatch hg), e]
  rfl
theorem RingG.one (p : RingP ys ns) {at_ : Nat} (hi : at_ < ns.length) (R : RingG ys ns (fun i => decide ((i : Int) ∈ [(at_ : Int)])) rs gs) : wrapsW gs = [ns.getD at_ ""] := by
  refine ascs_ext (R.wasc p) (List.pairwise_singleton ..) fun z => ⟨fun h => ?_, fun h => ?_⟩
  · obtain ⟨i, h1, rfl⟩ := R.wsub h
    have := (R.wr p h1).mp h
    have : i = at_ := by
      have := of_decide_eq_true this
      have := List.mem_singleton.mp this
      omega
    rw [this]
    exact List.mem_singleton.mpr rfl
  · rw [List.mem_singleton.mp h]
    exact (R.wr p hi).mpr (by simp)
theorem RingG.every (p : RingP ys ns) (R : RingG ys ns W rs gs) (h : ∀ i, i < ns.length → W i = true) : wrapsW gs = ns := by
  refine ascs_ext (R.wasc p) p.asc fun z => ⟨fun hz => ?_, fun hz => ?_⟩
  · obtain ⟨i, h1, rfl⟩ := R.wsub hz
    rw [getD_at h1]
    exact List.getElem_mem _
  · obtain ⟨i, hi, rfl⟩ := List.getElem_of_mem hz
    rw [← getD_at hi]
    exact (R.wr p hi).mpr (h i hi)
theorem RingG.zone (p : RingP ys ns) {at_ : Nat} (hi : at_ < ns.length) (R : RingG ys ns (fun i => decide ((i : Int) ∈ [(at_ : Int)])) rs gs) : zonesL (conB gs (wrapsW gs)) rs = [rs] := by
  have t := p.two
  have l := p.ly
  refine zones_one R.asc (fun e => ?_) fun x hx y hy => conB_iff.mpr ?_
  · have := R.reg.length_eq
    rw [e, List.length_nil] at this
    omega
  · rw [R.one p hi]
    have ix : ∀ x ∈ rs, ∃ i, i < ns.length ∧ x = ys.getD i "" := fun x hx => by
      obtain ⟨i, h, rfl⟩ := List.getElem_of_mem (R.reg.mem_iff.mp hx)
      exact ⟨i, by omega, (getD_at h).symm⟩
    obtain ⟨i, h1, rfl⟩ := ix x hx
    obtain ⟨j, h2, rfl⟩ := ix y hy
    exact (R.ring p).conn hi h1 h2
theorem RingG.zoneA (p : RingP ys ns) (R : RingG ys ns W rs gs) (h : ∀ i, i < ns.length → W i = true) : (zonesL (conB gs (wrapsW gs)) rs).length = ns.length := by
  rw [zones_alone R.asc fun g hg => by
    obtain ⟨i, h1, _, _, _, h5⟩ := R.each g hg
    rw [h5, if_pos (h i h1)], List.length_map, R.reg.length_eq, p.ly]
end
end WT

set_option Elab.async false
set_option linter.all false
set_option maxRecDepth 100000
set_option maxHeartbeats 4000000
namespace K14
open PySem PySem.Spec PyProof.Rows L2 WT
abbrev st_quiet : Stmt := top 14
theorem sc_quiet : FnScope ["world", "name"] ["world"] (defScope st_quiet) := ⟨rfl, rfl, rfl, by decide +kernel, rfl, by decide +kernel, by decide +kernel⟩
abbrev st_noticed : Stmt := top 15
theorem sc_noticed : FnScope ["world", "name"] ["world"] (defScope st_noticed) := ⟨rfl, rfl, rfl, by decide +kernel, rfl, by decide +kernel, by decide +kernel⟩
section
variable {P : Program} {w : World} {K : PySem.W.Frag} {mg : Str → Option Value} {base : Heap} {f fN fC : Addr} {fd fdN fdC : FuncData}
/-- quiet(world) -/
def spQuiet : Sp := fun vs H Q _ => ∃ (wa r g : Addr) (as : List Addr) (rs : List Str) (gs : List Gt), vs = [.ref wa] ∧ WorldAt H wa r g as rs gs ∧ (gs.map (·.1)).Nodup ∧ rs.length ≤ 100 ∧ gs.length ≤ 100 ∧ (∀ g ∈ gs, g.2.1.length ≤ 100 ∧ ∀ y ∈ g.2.1, y ∈ rs) ∧
  ∀ (H' : Hp) (p : Addr), Same H H' → H' p = some (.tup ((pickG gs rs false gs).map V.str)) → Q (.ref p) H'
theorem ok_quiet (F : Fun K "quiet" "quiet" st_quiet f fd) (B : Blt mg) (F_gateway_names : DfO P w K mg base "gateway_names" 1 fN fdN ["world"] spGnames) (F_cycle_through : DfO P w K mg base "cycle_through" 3 fC fdC ["world", "name"] spCyc) :
    FnOk P w K mg base CX0 4 f fd ["world"] spQuiet := by
  refine F.ok sc_quiet (fun vs H Q E h => ?_) (fun cdv A outer s H vs Q E hr h => ?_)
  · obtain ⟨_, _, _, _, _, _, rfl, _⟩ := h
    rfl
  · obtain ⟨wa, r, g, as, rs, gs, rfl, hw, nd, hrl, hgl, hil, q⟩ := h
    refine ⟨_, (pss_one (ps_ret (pe_callTy call_tuple_of (by rfl) B.tuple (by decide +kernel) (pa_cons (pe_lc (own := [("name", 1)]) (by rfl) sc_quiet.nd (pi_tup (pe_call F_gateway_names.G (hr.mono (by decide)) (by rfl) F_gateway_names.g F_gateway_names.kp F_gateway_names.bd .nil pass0 (pa_cons (pv 0) pa_nil))) (blkOk_by (own := [("name", 1)]) (N := ["world", "name"]) (sc := defScope st_quiet) (by decide +kernel)) (fun _ _ _ _ _ => (pg_name (i := 1) sc_quiet.nd rfl (.inl rfl))) (fun _ _ _ _ _ => (pts_one (pt_cmpR op_isN (pe_call F_cycle_through.G (hr.mono (by decide)) (by rfl) F_cycle_through.g F_cycle_through.kp F_cycle_through.bd .nil pass0 (pa_cons (pv 0) (pa_cons (pv 1) pa_nil))) pe_non (nomark _)))) (fun _ _ _ _ _ => (pv 1))) pa_nil)))), ?_⟩
    refine ⟨_, rfl, wa, r, g, as, rs, gs, rfl, hw, hgl, fun H1 p s1 hp => ?_⟩
    refine ⟨p, rfl, ⟨_, SqT.of hp⟩, fun L nL => lc_tup (K := K) (a := p) (xs := (gs.map (·.1)).map V.str) (fun m H' => Same H1 H' ∧ H' L = some (.lst ((pickG gs rs false (gs.take m)).map V.str)))
      ⟨same_new nL, by rw [upd_same]; rfl⟩ (fun m H' _ ⟨s', _⟩ => SqT.of (s' _ _ hp)) (fun m v H2 hm hP => ?_) fun H2 hP => ?_⟩
    · obtain ⟨s2, hL⟩ := hP
      rw [List.getElem?_map, List.getElem?_map] at hm
      obtain ⟨n, hn, rfl⟩ := Option.map_eq_some_iff.mp hm
      obtain ⟨gg, hgg, rfl⟩ := Option.map_eq_some_iff.mp hn
      have ggm : gg ∈ gs := List.mem_of_getElem? hgg
      have stp : pickG gs rs false (gs.take (m + 1)) = pickG gs rs false (gs.take m) ++ (if (cycT gs rs gg).isSome = false then [gg.1] else []) := by
        rw [List.take_add_one, hgg]
        exact pick_snoc gs rs false (gs.take m) gg
      refine ⟨rfl, _, rfl, _, rfl, wa, r, g, as, rs, gs, gg, rfl, (hw.same s1).same s2, ggm, nd, hrl, hgl, hil, fun H3 v s3 hv => ⟨rfl, _, rfl, ?_⟩⟩
      have hL3 := s3 _ _ hL
      cases c : cycT gs rs gg with
      | some cy =>
        rw [c] at hv stp
        obtain ⟨_, _, rfl, _⟩ := hv
        refine ifF rfl ⟨s2.trans s3, ?_⟩
        rw [stp, if_neg (by simp), List.append_nil]
        exact hL3
      | none =>
        rw [c] at hv stp
        have nv : v = .non := hv
        subst nv
        refine ifT rfl ⟨_, rfl, _, hL3, ?_, fun d o ed => ?_, ?_⟩
        · have l1 := pick_len gs rs false (gs.take m)
          rw [List.length_take] at l1
          rw [List.length_map]
          exact Nat.lt_of_le_of_lt (show (pickG gs rs false (gs.take m)).length ≤ 100 by omega) (by decide)
        · rw [upd_ne (ne_of_none ed nL)]
          exact s3 _ _ (s2 _ _ ed)
        · rw [upd_same, stp, if_pos (by rfl), List.map_append]
          rfl
    · obtain ⟨s2, hL⟩ := hP
      rw [List.length_map, List.length_map, List.take_length] at hL
      exact ⟨L, _, rfl, .inl ⟨SqL.of hL, fun t nt => q _ t (s1.trans (s2.trans (same_new nt))) upd_same⟩⟩
/-- noticed(world) -/
def spNoticed : Sp := fun vs H Q _ => ∃ (wa r g : Addr) (as : List Addr) (rs : List Str) (gs : List Gt), vs = [.ref wa] ∧ WorldAt H wa r g as rs gs ∧ (gs.map (·.1)).Nodup ∧ rs.length ≤ 100 ∧ gs.length ≤ 100 ∧ (∀ g ∈ gs, g.2.1.length ≤ 100 ∧ ∀ y ∈ g.2.1, y ∈ rs) ∧
  ∀ (H' : Hp) (p : Addr), Same H H' → H' p = some (.tup ((pickG gs rs true (wrapsG gs)).map V.str)) → Q (.ref p) H'
theorem ok_noticed (F : Fun K "noticed" "noticed" st_noticed f fd) (B : Blt mg) (F_wrapping_names : DfO P w K mg base "wrapping_names" 1 fN fdN ["world"] spWnames) (F_cycle_through : DfO P w K mg base "cycle_through" 3 fC fdC ["world", "name"] spCyc) :
    FnOk P w K mg base CX0 4 f fd ["world"] spNoticed := by
  refine F.ok sc_noticed (fun vs H Q E h => ?_) (fun cdv A outer s H vs Q E hr h => ?_)
  · obtain ⟨_, _, _, _, _, _, rfl, _⟩ := h
    rfl
  · obtain ⟨wa, r, g, as, rs, gs, rfl, hw, nd, hrl, hgl, hil, q⟩ := h
    refine ⟨_, (pss_one (ps_ret (pe_callTy call_tuple_of (by rfl) B.tuple (by decide +kernel) (pa_cons (pe_lc (own := [("name", 1)]) (by rfl) sc_noticed.nd (pi_tup (pe_call F_wrapping_names.G (hr.mono (by decide)) (by rfl) F_wrapping_names.g F_wrapping_names.kp F_wrapping_names.bd .nil pass0 (pa_cons (pv 0) pa_nil))) (blkOk_by (own := [("name", 1)]) (N := ["world", "name"]) (sc := defScope st_noticed) (by decide +kernel)) (fun _ _ _ _ _ => (pg_name (i := 1) sc_noticed.nd rfl (.inl rfl))) (fun _ _ _ _ _ => (pts_one (pt_cmpR op_notN (pe_call F_cycle_through.G (hr.mono (by decide)) (by rfl) F_cycle_through.g F_cycle_through.kp F_cycle_through.bd .nil pass0 (pa_cons (pv 0) (pa_cons (pv 1) pa_nil))) pe_non (nomark _)))) (fun _ _ _ _ _ => (pv 1))) pa_nil)))), ?_⟩
    refine ⟨_, rfl, wa, r, g, as, rs, gs, rfl, hw, hgl, fun H1 p s1 hp' => ?_⟩
    have hp : H1 p = some (.tup (((wrapsG gs).map fun g : Gt => g.1).map V.str)) := hp'
    refine ⟨p, rfl, ⟨_, SqT.of hp⟩, fun L nL => lc_tup (K := K) (a := p) (xs := ((wrapsG gs).map fun g : Gt => g.1).map V.str) (fun m H' => Same H1 H' ∧ H' L = some (.lst ((pickG gs rs true ((wrapsG gs).take m)).map V.str)))
      ⟨same_new nL, by rw [upd_same]; rfl⟩ (fun m H' _ ⟨s', _⟩ => SqT.of (s' _ _ hp)) (fun m v H2 hm hP => ?_) fun H2 hP => ?_⟩
    · obtain ⟨s2, hL⟩ := hP
      rw [List.getElem?_map, List.getElem?_map] at hm
      obtain ⟨n, hn, rfl⟩ := Option.map_eq_some_iff.mp hm
      obtain ⟨gg, hgg, rfl⟩ := Option.map_eq_some_iff.mp hn
      have ggm : gg ∈ gs := (List.mem_filter.mp (List.mem_of_getElem? hgg)).1
      have stp : pickG gs rs true ((wrapsG gs).take (m + 1)) = pickG gs rs true ((wrapsG gs).take m) ++ (if (cycT gs rs gg).isSome = true then [gg.1] else []) := by
        rw [List.take_add_one, hgg]
        exact pick_snoc gs rs true ((wrapsG gs).take m) gg
      refine ⟨rfl, _, rfl, _, rfl, wa, r, g, as, rs, gs, gg, rfl, (hw.same s1).same s2, ggm, nd, hrl, hgl, hil, fun H3 v s3 hv => ⟨rfl, _, rfl, ?_⟩⟩
      have hL3 := s3 _ _ hL
      cases c : cycT gs rs gg with
      | some cy =>
        rw [c] at hv stp
        obtain ⟨_, _, rfl, _⟩ := hv
        refine ifT rfl ⟨_, rfl, _, hL3, ?_, fun d o ed => ?_, ?_⟩
        · have l1 := pick_len gs rs true ((wrapsG gs).take m)
          have l2 : (wrapsG gs).length ≤ gs.length := List.length_filter_le _ _
          rw [List.length_take] at l1
          rw [List.length_map]
          exact Nat.lt_of_le_of_lt (show (pickG gs rs true ((wrapsG gs).take m)).length ≤ 100 by omega) (by decide)
        · rw [upd_ne (ne_of_none ed nL)]
          exact s3 _ _ (s2 _ _ ed)
        · rw [upd_same, stp, if_pos (by rfl), List.map_append]
          rfl
      | none =>
        rw [c] at hv stp
        have nv : v = .non := hv
        subst nv
        refine ifF rfl ⟨s2.trans s3, ?_⟩
        rw [stp, if_neg (by simp), List.append_nil]
        exact hL3
    · obtain ⟨s2, hL⟩ := hP
      rw [List.length_map, List.length_map, List.take_length] at hL
      exact ⟨L, _, rfl, .inl ⟨SqL.of hL, fun t nt => q _ t (s1.trans (s2.trans (same_new nt))) upd_same⟩⟩
end
end K14

set_option Elab.async false
set_option linter.all false
set_option maxRecDepth 100000
set_option maxHeartbeats 4000000
namespace K14
open PySem PySem.Spec PyProof.Rows L2 WT
abbrev st_shortest_cycle : Stmt := top 16
theorem sc_shortest_cycle : FnScope ["world", "cycles", "name", "cycle"] ["world"] (defScope st_shortest_cycle) := ⟨rfl, rfl, rfl, by decide +kernel, rfl, by decide +kernel, by decide +kernel⟩
abbrev st_girth : Stmt := top 17
theorem sc_girth : FnScope ["world", "cycle"] ["world"] (defScope st_girth) := ⟨rfl, rfl, rfl, by decide +kernel, rfl, by decide +kernel, by decide +kernel⟩
/-- a world that the program's searches are told of -/
structure WHere (H : Hp) (wa r g : Addr) (as : List Addr) (rs : List Str) (gs : List Gt) : Prop where
  at_ : WorldAt H wa r g as rs gs
  nd : (gs.map (·.1)).Nodup
  rl : rs.length ≤ 100
  gl : gs.length ≤ 100
  each : ∀ g ∈ gs, g.2.1.length ≤ 100 ∧ ∀ y ∈ g.2.1, y ∈ rs
theorem WHere.same {H H' : Hp} {wa r g : Addr} {as : List Addr} {rs : List Str} {gs : List Gt} (h : WHere H wa r g as rs gs) (s : Same H H') : WHere H' wa r g as rs gs := ⟨h.at_.same s, h.nd, h.rl, h.gl, h.each⟩
/-- pairs of texts in memory -/
abbrev PairsAt (H : Hp) : List Addr → List (Str × Str) → Prop := Paired fun u (q : Str × Str) => H u = some (.tup [.str q.1, .str q.2])
theorem cyc_tup {H H' : Hp} {v : V} {o : Option (List (Str × Str))} (h : CycRes H v o) (k : ∀ t xs, H t = some (.tup xs) → H' t = some (.tup xs)) : CycRes H' v o := by
  cases o with
  | none => exact h
  | some l =>
    obtain ⟨p, us, h1, h2, h3⟩ := h
    exact ⟨p, us, h1, k _ _ h2, Paired.mapP h3 fun _ _ z => k _ _ z⟩
section
variable {P : Program} {w : World} {K : PySem.W.Frag} {mg : Str → Option Value} {base : Heap} {f fN fC fS : Addr} {fd fdN fdC fdS : FuncData}
/-- shortest_cycle(world) -/
def spScyc : Sp := fun vs H Q _ => ∃ (wa r g : Addr) (as : List Addr) (rs : List Str) (gs : List Gt), vs = [.ref wa] ∧ WHere H wa r g as rs gs ∧ ∀ (H' : Hp) (v : V), Same H H' → CycRes H' v (scyc gs rs) → Q v H'
theorem ok_shortest_cycle (F : Fun K "shortest_cycle" "shortest_cycle" st_shortest_cycle f fd) (B : Blt mg) (F_wrapping_names : DfO P w K mg base "wrapping_names" 1 fN fdN ["world"] spWnames) (F_cycle_through : DfO P w K mg base "cycle_through" 3 fC fdC ["world", "name"] spCyc) :
    FnOk P w K mg base CX0 4 f fd ["world"] spScyc := by
  refine F.ok sc_shortest_cycle (fun vs H Q E h => ?_) (fun cdv A outer s H vs Q E hr h => ?_)
  · obtain ⟨_, _, _, _, _, _, rfl, _⟩ := h
    rfl
  · obtain ⟨wa, r, g, as, rs, gs, rfl, W, q⟩ := h
    refine ⟨_, (pss_cons (ps_setLc (i := 1) (own := [("name", 2)]) (by rfl) sc_shortest_cycle.nd rfl rfl (sw_true rfl rfl rfl (by decide +kernel)) (pi_tup (pe_call F_wrapping_names.G (hr.mono (by decide)) (by rfl) F_wrapping_names.g F_wrapping_names.kp F_wrapping_names.bd .nil pass0 (pa_cons (pv 0) pa_nil))) (blkOk_by (own := [("name", 2)]) (N := ["world", "cycles", "name", "cycle"]) (sc := defScope st_shortest_cycle) (by decide +kernel)) (fun _ _ _ _ _ => (pg_name (i := 2) sc_shortest_cycle.nd rfl (.inl rfl))) (fun _ _ _ _ _ => pts_nil) (fun _ _ _ _ _ => (pe_call F_cycle_through.G (hr.mono (by decide)) (by rfl) F_cycle_through.g F_cycle_through.kp F_cycle_through.bd .nil pass0 (pa_cons (pv 0) (pa_cons (pv 2) pa_nil)))))
      (pss_one (ps_ret (pe_minLenI (by rfl) (by rfl) B.min (by rfl) B.len (pa_cons (pe_lc (own := [("cycle", 3)]) (by rfl) sc_shortest_cycle.nd (pi_list (pv 1)) (blkOk_by (own := [("cycle", 3)]) (N := ["world", "cycles", "name", "cycle"]) (sc := defScope st_shortest_cycle) (by decide +kernel)) (fun _ _ _ _ _ => (pg_name (i := 3) sc_shortest_cycle.nd rfl (.inl rfl))) (fun _ _ _ _ _ => (pts_one (pt_cmpR op_notN (pv 3) pe_non (nomark _)))) (fun _ _ _ _ _ => (pv 3))) pa_nil))))), ?_⟩
    have hm : ∀ g ∈ gs, ∀ z ∈ g.2.1, z ∈ rs := fun g hg => (W.each g hg).2
    have hgl := W.gl
    have hrl := W.rl
    refine ⟨_, rfl, wa, r, g, as, rs, gs, rfl, W.at_, W.gl, fun H1 p s1 hp' => ?_⟩
    have hp : H1 p = some (.tup (((wrapsG gs).map fun g : Gt => g.1).map V.str)) := hp'
    have lw : (wrapsG gs).length ≤ gs.length := List.length_filter_le _ _
    refine ⟨p, rfl, ⟨_, SqT.of hp⟩, fun D nD => lc_tup (K := K) (a := p) (xs := ((wrapsG gs).map fun g : Gt => g.1).map V.str) (fun m H' => Same H1 H' ∧ ∃ vs : List V, H' D = some (.lst vs) ∧ Paired (fun v (g : Gt) => CycRes H' v (cycT gs rs g)) vs ((wrapsG gs).take m))
      ⟨same_new nD, [], upd_same, .nil⟩ (fun m H' _ ⟨s', _⟩ => SqT.of (s' _ _ hp)) (fun m v H2 hm2 hP => ?_) fun H2 hP => ?_⟩
    · obtain ⟨s2, vs, hD, pv⟩ := hP
      rw [List.getElem?_map, List.getElem?_map] at hm2
      obtain ⟨n, hn, rfl⟩ := Option.map_eq_some_iff.mp hm2
      obtain ⟨gg, hgg, rfl⟩ := Option.map_eq_some_iff.mp hn
      have ggm : gg ∈ gs := (List.mem_filter.mp (List.mem_of_getElem? hgg)).1
      have W2 := (W.same s1).same s2
      refine ⟨rfl, _, rfl, _, rfl, wa, r, g, as, rs, gs, gg, rfl, W2.at_, ggm, W.nd, W.rl, W.gl, W.each, fun H3 v s3 hv => ?_⟩
      have hD3 := s3 _ _ hD
      have lv := Paired.length pv
      rw [List.length_take] at lv
      have keep : ∀ (t : Addr) (xs : List V) (o : HO), H3 t = some (.tup xs) → upd H3 D o t = some (.tup xs) := fun t xs o e => by
        rw [upd_ne (ne_of e hD3 (by intro q; cases q))]
        exact e
      refine ⟨_, hD3, ?_, fun d o ed => ?_, vs ++ [v], upd_same, ?_⟩
      · exact Nat.lt_of_le_of_lt (show vs.length ≤ 100 by omega) (by decide)
      · rw [upd_ne (ne_of_none ed nD)]
        exact s3 _ _ (s2 _ _ ed)
      · rw [List.take_add_one, hgg]
        exact pair_snoc (Paired.mapP pv fun _ _ h => cyc_tup h fun t xs e => keep _ _ _ (s3 _ _ e)) (cyc_tup hv fun t xs e => keep _ _ _ e)
    · obtain ⟨s2, vs, hD, pv⟩ := hP
      rw [List.length_map, List.length_map, List.take_length] at pv
      have lv := Paired.length pv
      -- min(..)
      refine ⟨_, rfl, D, rfl, ⟨_, SqL.of hD⟩, fun L nL => lc_list (K := K) (a := D) (xs := vs) (fun m H' => Same H2 H' ∧ ∃ ts : List (Addr × List Addr), H' L = some (.lst ((ts.map fun t => (t.1, t.2.map V.ref)).map fun t => V.ref t.1)) ∧ Paired (fun (t : Addr × List Addr) (c : List (Str × Str)) => H' t.1 = some (.tup (t.2.map V.ref)) ∧ PairsAt H' t.2 c) ts (((wrapsG gs).take m).filterMap (cycT gs rs)))
        ⟨same_new nL, [], upd_same, .nil⟩ (fun m H' _ ⟨s', _⟩ => SqL.of (s' _ _ hD)) (fun m v H3 hm2 hP => ?_) fun H3 hP => ?_⟩
      · obtain ⟨s3, ts, hL, hts⟩ := hP
        have hml : m < vs.length := (List.getElem?_eq_some_iff.mp hm2).1
        obtain ⟨gg, hgg, hres⟩ := pair_at pv hm2
        have stp : ((wrapsG gs).take (m + 1)).filterMap (cycT gs rs) = ((wrapsG gs).take m).filterMap (cycT gs rs) ++ (cycT gs rs gg).toList := by
          rw [List.take_add_one, hgg, List.filterMap_append]
          congr 1
        refine ⟨rfl, _, rfl, rfl, _, rfl, ?_⟩
        cases e : cycT gs rs gg with
        | none =>
          rw [e] at hres stp
          have hres : v = .non := hres
          refine ifF (by simp [hres]) ⟨s3, ts, hL, ?_⟩
          rw [stp]
          show Paired _ ts (_ ++ [])
          rw [List.append_nil]
          exact hts
        | some c =>
          rw [e] at hres stp
          obtain ⟨t, us, rfl, ht, hus⟩ := hres
          have lts := Paired.length hts
          have lfs : (((wrapsG gs).take m).filterMap (cycT gs rs)).length ≤ m := by
            refine Nat.le_trans (List.length_filterMap_le ..) ?_
            rw [List.length_take]
            exact Nat.min_le_left _ _
          have nt : ∀ (d : Addr) (ys : List V) (o : HO), H3 d = some (.tup ys) → upd H3 L o d = some (.tup ys) := fun d ys o e => by
            rw [upd_ne (ne_of e hL (by intro q; cases q))]
            exact e
          refine ifT (by simp) ⟨_, rfl, _, hL, ?_, fun d o ed => ?_, ts ++ [(t, us)], ?_, ?_⟩
          · rw [List.length_map, List.length_map]
            exact Nat.lt_of_le_of_lt (show ts.length ≤ 100000 by omega) (by decide)
          · rw [upd_ne (ne_of_none ed nL)]
            exact s3 _ _ ed
          · rw [upd_same, List.map_append, List.map_append]
            rfl
          · rw [stp]
            exact pair_snoc (Paired.mapP hts fun _ _ h => ⟨nt _ _ _ h.1, Paired.mapP h.2 fun _ _ z => nt _ _ _ z⟩) ⟨nt _ _ _ (s3 _ _ ht), Paired.mapP hus fun _ _ z => nt _ _ _ (s3 _ _ z)⟩
      · obtain ⟨s3, ts, hL, hts⟩ := hP
        rw [lv, List.take_length] at hts
        change Paired _ ts (cycsW gs rs) at hts
        have s03 := s1.trans (s2.trans s3)
        have lens : (ts.map fun t => (t.1, t.2.map V.ref)).map (fun t : Addr × List V => t.2.length) = (cycsW gs rs).map List.length := by
          have : ∀ {ts : List (Addr × List Addr)} {cs : List (List (Str × Str))}, Paired (fun (t : Addr × List Addr) (c : List (Str × Str)) => H3 t.1 = some (.tup (t.2.map V.ref)) ∧ PairsAt H3 t.2 c) ts cs → (ts.map fun t => (t.1, t.2.map V.ref)).map (fun t : Addr × List V => t.2.length) = cs.map List.length := fun h => by
            induction h with
            | nil => rfl
            | cons h _ ih =>
              rw [List.map_cons, List.map_cons, List.map_cons, ih]
              congr 1
              rw [List.length_map]
              exact Paired.length h.2
          exact this hts
        refine ⟨L, ts.map (fun t => (t.1, t.2.map V.ref)), rfl, SqL.of hL, fun t ht => ?_, fun e => ?_, fun t ht => ?_⟩
        · obtain ⟨u, hu, rfl⟩ := List.mem_map.mp ht
          obtain ⟨j, hj⟩ := List.getElem?_of_mem hu
          obtain ⟨p, _, h1, _⟩ := pair_at hts hj
          exact SqT.of h1
        · refine q _ .non s03 ?_
          have : cycsW gs rs = [] := by
            have l1 := Paired.length hts
            rw [List.map_eq_nil_iff.mp e] at l1
            exact List.length_eq_zero_iff.mp l1.symm
          unfold scyc
          rw [this]
          exact rfl
        · rw [lens, List.getElem?_map] at ht
          obtain ⟨u, hu, rfl⟩ := Option.map_eq_some_iff.mp ht
          obtain ⟨c, hc, h1, h2⟩ := pair_at hts hu
          refine q _ _ s03 ?_
          unfold scyc
          rw [hc]
          exact ⟨u.1, u.2, rfl, h1, h2⟩
/-- girth(world) -/
def girV : Option (List (Str × Str)) → V
  | none => .non
  | some c => .int c.length
def spGirth : Sp := fun vs H Q _ => ∃ (wa r g : Addr) (as : List Addr) (rs : List Str) (gs : List Gt), vs = [.ref wa] ∧ WHere H wa r g as rs gs ∧ ∀ (H' : Hp), Same H H' → Q (girV (scyc gs rs)) H'
theorem ok_girth (F : Fun K "girth" "girth" st_girth f fd) (B : Blt mg) (F_shortest_cycle : DfO P w K mg base "shortest_cycle" 4 fS fdS ["world"] spScyc) : FnOk P w K mg base CX0 5 f fd ["world"] spGirth := by
  refine F.ok sc_girth (fun vs H Q E h => ?_) (fun cdv A outer s H vs Q E hr h => ?_)
  · obtain ⟨_, _, _, _, _, _, rfl, _⟩ := h
    rfl
  · obtain ⟨wa, r, g, as, rs, gs, rfl, W, q⟩ := h
    refine ⟨_, (pss_cons (ps_set (i := 1) sc_girth.nd rfl (.inl rfl) (pe_call F_shortest_cycle.G (hr.mono (by decide)) (by rfl) F_shortest_cycle.g F_shortest_cycle.kp F_shortest_cycle.bd .nil pass0 (pa_cons (pv 0) pa_nil)))
      (pss_one (ps_ret (pe_ifExp (pt_cmpR op_isN (pv 1) pe_non (nomark _)) pe_non (pe_callB call_len (by rfl) B.len (by decide +kernel) (pa_cons (pv 1) pa_nil)))))), ?_⟩
    refine ⟨_, rfl, wa, r, g, as, rs, gs, rfl, W, fun H1 v s1 hv => ?_⟩
    have qq := q H1 s1
    cases e : scyc gs rs with
    | none =>
      rw [e] at hv qq
      have hv : v = .non := hv
      subst hv
      exact ⟨_, rfl, rfl, _, rfl, ifT rfl qq⟩
    | some c =>
      rw [e] at hv qq
      obtain ⟨p, us, rfl, h1, h2⟩ := hv
      refine ⟨_, rfl, rfl, _, rfl, ifF rfl ⟨_, rfl, _, c.length, rfl, .inr ⟨_, SqT.of h1, ?_⟩, qq⟩⟩
      rw [List.length_map]
      exact (Paired.length h2).symm
end
end K14

set_option Elab.async false
set_option linter.all false
set_option maxRecDepth 100000
set_option maxHeartbeats 4000000
/-! sorted of a tuple, of a dict's values: alike data. -/
namespace WT
open PySem PySem.Spec PyProof.Rows L2 PySem.W
abbrev VD := V × PyData
/-- new for the tracked heap, since it is new behind what the heap grew to -/
def NewAt (h : Heap) (p : Addr) : Prop := h.get? p = none ∧ ∃ h1 : Heap, (∀ b o, h.get? b = some o → h1.get? b = some o) ∧ h1.objs.size ≤ p
theorem vd_sorted (l : List VD) : (l.mergeSort (dataLe false Prod.snd)).Pairwise fun a b => dataLt b.2 a.2 = false := by
  have T := sortLe_total (listOrd itemOrd) false fun b : VD => keyToks b.2
  have pw : (l.mergeSort (dataLe false Prod.snd)).Pairwise fun a b => dataLe false Prod.snd a b = true := List.pairwise_mergeSort (fun a b c => T.trans a b c) (fun a b => by
    rcases T.total a b with h | h
    · show (dataLe false Prod.snd a b || _) = true
      rw [show dataLe false Prod.snd a b = true from h]
      rfl
    · show (_ || dataLe false Prod.snd b a) = true
      rw [show dataLe false Prod.snd b a = true from h, Bool.or_true]) l
  refine pw.imp fun {a b} h => ?_
  have h : (!dataLt b.2 a.2) = true := h
  rwa [Bool.not_eq_true'] at h
theorem kv_vals {κ : Type} : ∀ {kvs : List (κ × V)} {vs : List (κ × Value)}, KV kvs vs → Vals (kvs.map Prod.snd) (vs.map Prod.snd)
  | _, _, .nil => .nil
  | _, _, .cons h t => .cons h.2 (kv_vals t)
/-- t + u, whichever of the two it gives -/
theorem catA_any {K : PySem.W.Frag} {H : Hp} {Q : VK} {t u : Addr} {xs ys : List V} (ht : H t = some (.tup xs)) (hu : H u = some (.tup ys)) (few : xs.length + ys.length ≤ sizeLine) (h : ∀ (q : Addr) (H7 : Hp), Same H H7 → H7 q = some (.tup (xs ++ ys)) → Q (.ref q) H7) : rCatA K (.ref t) (.ref u) H Q := by
  refine ⟨t, u, xs, ys, rfl, rfl, SqT.of ht, SqT.of hu, few, fun e => h u H (fun _ _ z => z) ?_, fun _ e => h t H (fun _ _ z => z) ?_, fun _ _ p np => h p _ (same_new np) upd_same⟩
  · rw [e, List.nil_append]
    exact hu
  · rw [e, List.append_nil]
    exact ht
section
variable {P : Program} {w : World} {A : Around} {E : Value → Shared → Prop} {s : Shared}
/-- whatever is collected into these values -/
theorem sorted_col {x : Value} {bs : List VD} {Q : Value → Shared → Prop} (hu : A.units + 64 < cLine)
    (col : ∀ (Z : List Value → Shared → Prop), (∀ (h2 : Heap) (tk : Nat) (vs : List Value), (∀ b o, s.heap.get? b = some o → h2.get? b = some o) → EachIs (fun v (b : VD) => RelV b.1 v) vs bs → Z vs { s with heap := h2, toks := tk }) → wpAny (model P w) A.in1 (collect x) Z E s)
    (hr : ∀ vs, EachIs (fun v (b : VD) => RelV b.1 v) vs bs → EachIs (fun v (b : VD) => Reads s.heap v b.2 []) vs bs) (al : AllAlike (bs.map Prod.snd)) (so : Sortable (bs.map Prod.snd)) (dp : ∀ b ∈ bs, b.2.depth ≤ 60) (few : bs.length ≤ sizeLine)
    (z : ∀ (h2 : Heap) (tk : Nat) (p : Addr) (out : Array Value) (c : Nat), (∀ b o, s.heap.get? b = some o → h2.get? b = some o) → NewAt s.heap p → h2.get? p = some (seqObj "list" out c) → Vals ((bs.mergeSort (dataLe false Prod.snd)).map Prod.fst) out.toList → Q (.ref p) { s with heap := h2, toks := tk }) :
    wpAny (model P w) A (call (.builtin "sorted") [x]) Q E s := by
  refine Calls.call_function_entry kind_sorted plain_sorted entry_sorted (args_sorted1 _) ?_
  unfold Builtin.«sorted»
  refine wpAny_bind (m := checkCount "sorted" 1 1 _) (wpAny_pure (wpAny_bind (col _ fun h2 tk vs k2 ev => ?_)))
  have lv := ev.length
  refine wpAny_bind (wpAny_newList ?_ (by omega))
  have hoL : (h2.push (seqObj "list" vs.toArray 0)).get? h2.objs.size = some (seqObj "list" vs.toArray 0) := Heap.get?_push_size _ rfl
  have kk : ∀ b o, s.heap.get? b = some o → (h2.push (seqObj "list" vs.toArray 0)).get? b = some o := fun b o e => Heap.get?_push_of_some _ (k2 b o e)
  refine wpAny_bind (wpAny_holding (list_sort_data (enc := Prod.snd) (bs := bs) (s := { s with heap := h2.push (seqObj "list" vs.toArray 0), toks := tk }) hoL ev
    ((hr vs ev).mono fun v b r => ⟨[], PyProof.Rows.Reads.keeps kk r, List.not_mem_nil⟩) al so few (fun b hb => ?_) fun out ho he => ?_))
  · have := dp b hb
    simp only [Around.in1_units]
    omega
  obtain ⟨c, hc⟩ := sortedHeap_at (vs := vs) (out := List.toArray out) hoL
  have s0 : s.heap.get? h2.objs.size = none := by
    cases e : s.heap.get? h2.objs.size with
    | none => rfl
    | some o => exact absurd (Heap.lt_size (k2 _ _ e)) (Nat.lt_irrefl _)
  refine wpAny_pure ⟨_, rfl, z _ tk h2.objs.size (List.toArray out) c (fun b u e => ?_) ⟨s0, h2, k2, Nat.le_refl _⟩ hc (vals_each he)⟩
  have e1 := k2 b u e
  have lt := Heap.lt_size e1
  rw [sortedHeap_old (Nat.ne_of_lt lt) (by rw [size_push']; exact Nat.lt_succ_of_lt lt)]
  exact Heap.get?_push_of_some _ e1
end
section
variable {X : Cx}
theorem free_H {pins : List (Addr × Obj)} {σ : L2.St} {H : Hp} {s : Shared} (I : Inv X pins σ H s) {p : Addr} (hp : NewAt s.heap p) : H p = none := by
  obtain ⟨_, h1, k, z⟩ := hp
  exact (I.hok.kept k).fresh z
/-- what is laid by such a sort -/
theorem col_done {pins : List (Addr × Obj)} {σ : L2.St} {H : Hp} {s : Shared} (I : Inv X pins σ H s) {ys : List V} {h2 : Heap} {tk : Nat} {p : Addr} {out : Array Value} {c : Nat} (few : ys.length ≤ sizeLine) (k : ∀ b o, s.heap.get? b = some o → h2.get? b = some o) (hp : NewAt s.heap p)
    (hg : h2.get? p = some (seqObj "list" out c)) (hv : Vals ys out.toList) : Inv X pins σ (upd H p (.lst ys)) { s with heap := h2, toks := tk } :=
  I.laidN (t' := tk) k hp.1 (free_H I hp) (show ObjOk X.prog X.w _ h2 p (.lst ys) from ⟨few, out.toList, c, hv, hg⟩)
/-- no list and no dict in it: so no address of one is read -/
theorem plain_reads {pins : List (Addr × Obj)} {σ : L2.St} {H : Hp} {s : Shared} (I : Inv X pins σ H s) {bs : List VD} (hd : ∀ b ∈ bs, ∃ k : NestedKey, b.2 = k.data ∧ Dp X.K H b.1 b.2) :
    ∀ vs, EachIs (fun v (b : VD) => RelV b.1 v) vs bs → EachIs (fun v (b : VD) => Reads s.heap v b.2 []) vs bs := by
  intro vs e
  induction e with
  | nil => exact .nil
  | @cons v b vs bs h _ ih =>
    obtain ⟨k, e1, e2⟩ := hd b List.mem_cons_self
    obtain ⟨as, r⟩ := Dp.reads I _ _ _ e2 h
    have : as = [] := by
      rw [e1] at r
      exact (nk_reads k _ as r).2
    rw [this] at r
    exact .cons r (ih fun x hx => hd x (List.mem_cons_of_mem _ hx))
/-- sorted(t), a tuple of texts -/
def rSortedTS (K : PySem.W.Frag) : List V → Hp → VK → Prop := fun vs H Q => ∃ (a : Addr) (ys : List Str), vs = [.ref a] ∧ SqT K H a (ys.map V.str) ∧ ys.length ≤ 4000 ∧ ∀ (zs : List Str) (p : Addr), zs.Perm ys → zs.Pairwise (fun x y => ¬ Bef y x) → H p = none → Q (.ref p) (upd H p (.lst (zs.map V.str)))
theorem text_sort (ys : List Str) : ∃ zs : List Str, zs.Perm ys ∧ zs.Pairwise (fun x y => ¬ Bef y x) ∧ ((ys.map fun y => ((V.str y, PyData.str y) : VD)).mergeSort (dataLe false Prod.snd)) = zs.map fun y => (V.str y, PyData.str y) := by
  obtain ⟨zs, pz, ez⟩ := perm_map_inv (f := fun y : Str => ((V.str y, PyData.str y) : VD)) (List.mergeSort_perm (ys.map fun y => ((V.str y, PyData.str y) : VD)) (dataLe false Prod.snd)) rfl
  refine ⟨zs, pz, ?_, ez⟩
  have T := sortLe_total (listOrd itemOrd) false fun b : VD => keyToks b.2
  have pw : ((ys.map fun y => ((V.str y, PyData.str y) : VD)).mergeSort (dataLe false Prod.snd)).Pairwise fun a b => dataLe false Prod.snd a b = true := List.pairwise_mergeSort (fun a b c => T.trans a b c) (fun a b => by
    rcases T.total a b with h | h
    · show (dataLe false Prod.snd a b || _) = true
      rw [show dataLe false Prod.snd a b = true from h]
      rfl
    · show (_ || dataLe false Prod.snd b a) = true
      rw [show dataLe false Prod.snd b a = true from h, Bool.or_true]) _
  rw [ez, List.pairwise_map] at pw
  refine pw.imp fun {a b} h hb => ?_
  have h : (!dataLt (.str b) (.str a)) = true := h
  rw [dataLt_str, decide_eq_true (show b.cps.toList < a.cps.toList from hb)] at h
  cases h
theorem cr_sortedTS (hu : X.A.units + 64 < cLine) : CallR X (.builtin "sorted") (rSortedTS X.K) := by
  intro pins s σ H vs us Q I r h
  obtain ⟨a, ys, rfl, hs, few, q⟩ := h
  obtain ⟨its, rv, ⟨o, ho, hc, n, hd⟩, hz⟩ := I.tuple hs
  rw [Vals.ref1 r]
  obtain ⟨zs, pz, srt, ez⟩ := text_sort ys
  have e := each_vals (bs := ys.map fun y => ((V.str y, PyData.str y) : VD)) (us := its) (by rw [List.map_map]; exact rv)
  have lz := pz.length_eq
  have li : its.length = ys.length := by rw [← rv.length, List.length_map]
  have few2 : ys.length ≤ sizeLine := Nat.le_trans few (by decide)
  refine sorted_col (bs := ys.map fun y => ((V.str y, PyData.str y) : VD)) hu (fun Z hZ => ?_) (plain_reads I fun b hb => ?_) ?_ (.inr ?_) (fun b hb => ?_) (by rw [List.length_map]; exact few2) fun h2 tk p out c k hp hg hv => ?_
  · refine wpAny_collect_seq a (.inr rfl) ho hc hd (fun h2 k2 => ?_) (by rw [List.size_toArray, li]; exact few2)
    exact hZ h2 s.toks its k2 e
  · obtain ⟨y, _, rfl⟩ := List.mem_map.mp hb
    exact ⟨.text y, by rw [NestedKey.data], .str y⟩
  · intro d hd d' hd'
    rw [List.map_map] at hd hd'
    obtain ⟨x, _, rfl⟩ := List.mem_map.mp hd
    obtain ⟨y, _, rfl⟩ := List.mem_map.mp hd'
    show alike (.str x) (.str y) = true
    simp [alike]
  · intro d hd
    rw [List.map_map] at hd
    obtain ⟨x, _, rfl⟩ := List.mem_map.mp hd
    exact ⟨fun z => (by cases z), fun xs z => (by cases z)⟩
  · obtain ⟨y, _, rfl⟩ := List.mem_map.mp hb
    show (PyData.str y).depth ≤ 60
    simp [PyData.depth]
  · rw [ez, List.map_map] at hv
    exact ⟨.ref p, _, col_done I (ys := zs.map V.str) (by rw [List.length_map, lz]; exact few2) k hp hg hv, rfl, q zs p pz srt (free_H I hp)⟩
/-- sorted(d.values()), tuples of texts none of which is empty -/
def tSortVals (K : PySem.W.Frag) (td : TE) : TE := fun σ H Q => td σ H fun x H1 => ∃ (a : Addr) (kvs : List (Key × V)) (bs : List VD), x = .ref a ∧ H1 a = some (.dK kvs) ∧ kvs.map Prod.snd = bs.map Prod.fst ∧ (∀ b ∈ bs, ∃ k : NestedKey, b.2 = k.data ∧ Dp K H1 b.1 b.2) ∧ AllAlike (bs.map Prod.snd) ∧ Sortable (bs.map Prod.snd) ∧
  (∀ b ∈ bs, b.2.depth ≤ 60) ∧ bs.length ≤ 4000 ∧ ∀ p, H1 p = none → Q (.ref p) (upd H1 p (.lst ((bs.mergeSort (dataLe false Prod.snd)).map Prod.fst)))
theorem pe_sortVals {o : Expr} {p pos apos mpos : Pos} {td : TE} (calm : X.calm = true) (hu : X.A.units + 64 < cLine) (hg : Gl X "sorted") (hm : X.mg "sorted" = none) (hd : PE X o td) (hbase : attributeBase o "values" X.env (eval o X.env) = eval o X.env := by rfl) (hline : (apos.endLine == mpos.line) = true := by rfl)
    (hse : starEach [Expr.Call (.Attribute o "values" apos) [] [] mpos] X.env = [(false, eval (Expr.Call (.Attribute o "values" apos) [] [] mpos) X.env)] := by rfl) :
    PE X (.Call (.Name "sorted" p) [.Call (.Attribute o "values" apos) [] [] mpos] [] pos) (tSortVals X.K td) := by
  refine ⟨fun pins s σ H Q I h => wpAny_Call_Name_kw (ld_blt I hg hm (u := .builtin "sorted") (by first | rfl | decide +kernel) ?_ (by first | decide +kernel | decide) (by first | decide +kernel | decide))⟩
  rw [hse]
  refine PySem.callWith_builtin1 (wpAny_Call_method0_late hbase hline (thn (hd.run pins s σ H _ I h) fun v s1 ⟨x, H1, I1, r1, a, kvs, bs, ex, ha, ev, dd, al, so, dp, few, q⟩ => ?_))
  subst ex
  obtain rfl : v = Value.ref a := r1
  obtain ⟨_, hsys, vs, rel, dof⟩ := dk_of I1.hok ha
  obtain ⟨ep, dat⟩ := dof.dictAt
  have dat2 := dat
  obtain ⟨ob, es, ho, ex, hdat, hko, hpr, hnd⟩ := dat2
  refine ⟨"dict", "dict.values", PySem.F.plainAttrs_dict, PySem.F.slot_dict_values, PySem.F.type_dict_values, ⟨ob, ho, ex.1⟩, fun b e => ?_, Calls.callWith_builtin rfl (PySem.evalArgs_none ?_)⟩
  · cases e
    exact ⟨ob, ho, ex.2.1⟩
  refine call_meetsIn PySem.F.slot_dict_values ⟨ob, ho, ex.1⟩ PySem.F.entry_dict_values (PySem.F.args_dict_values_1 _) (meets_dict_values (mixKind X.prog X.w) a hsys) ⟨⟨vs, dof⟩, ?_⟩
  have k1 : ∀ b u, s1.heap.get? b = some u → (s1.heap.push { cls := .type "dict_values", data := .fields #[.ref a] }).get? b = some u := fun b u e => Heap.get?_push_of_some _ e
  have dat1 : (s1.heap.push { cls := .type "dict_values", data := .fields #[.ref a] }).DictAt (mixKind X.prog X.w) a vs ep := dat.keep k1
  have lv : vs.length = bs.length := by
    have e1 := congrArg List.length ev
    rw [List.length_map, List.length_map] at e1
    rw [← e1]
    exact (KV.length rel).symm
  have I2 : Inv X pins σ H1 { s1 with heap := s1.heap.push { cls := .type "dict_values", data := .fields #[.ref a] } } := I1.kept (t' := s1.toks) k1
  refine sorted_col (bs := bs) (s := { s1 with heap := s1.heap.push { cls := .type "dict_values", data := .fields #[.ref a] } }) hu (fun Z hZ => ?_) (plain_reads I2 dd) al so dp (Nat.le_trans few (by decide)) fun h2 tk p out c k hp hg hv => ?_
  · refine kdu_collect (kdl_values (knd := mixKind X.prog X.w) (r := s1.heap.objs.size) (d := a) (kvs := vs) (ep := ep)) (I1.ok.hd calm) ⟨⟨_, Heap.get?_push_size _ rfl, rfl, rfl⟩, dat1⟩ (by rw [lv]; exact Nat.le_trans few (by decide)) fun h2 tk acc k2 it => hZ h2 tk acc.toList k2 ?_
    have ev2 : acc.toList = vs.map Prod.snd := by
      refine kdl_vals_eq acc.toList (by rw [Array.length_toList]; exact it.1) fun j v hv => it.2 j v (by rw [← Array.getElem?_toList]; exact hv)
    rw [ev2]
    refine each_vals ?_
    rw [← ev]
    exact kv_vals rel
  · exact ⟨.ref p, _, col_done I2 (by rw [List.length_map, List.length_mergeSort]; exact Nat.le_trans few (by decide)) k hp hg hv, rfl, q p (free_H I2 hp)⟩
end
end WT

set_option Elab.async false
set_option linter.all false
set_option maxRecDepth 100000
set_option maxHeartbeats 4000000
namespace K14
open PySem PySem.Spec PyProof.Rows L2 WT
abbrev st_told : Stmt := top 24
theorem sc_told : FnScope ["_law_world"] ["_law_world"] (defScope st_told) := ⟨rfl, rfl, rfl, by decide +kernel, rfl, by decide +kernel, by decide +kernel⟩
abbrev st_ring : Stmt := top 25
theorem sc_ring : FnScope ["_law_regions", "_law_names_here", "_law_wrapping", "_law_found", "_law_at", "_law_name", "_law_inside"] ["_law_regions", "_law_names_here", "_law_wrapping"] (defScope st_ring) := ⟨rfl, rfl, rfl, by decide +kernel, rfl, by decide +kernel, by decide +kernel⟩
section
variable {P : Program} {w : World} {K : PySem.W.Frag} {mg : Str → Option Value} {base : Heap} {f fG fQ fN : Addr} {fd fdG fdQ fdN : FuncData}
theorem dp_girV {H : Hp} (o : Option (List (Str × Str))) : Dp K H (girV o) (girD (o.map List.length)) := by
  cases o with
  | none => exact .non
  | some c => exact .int _
/-- told(world) -/
def spTold : Sp := fun vs H Q _ => ∃ (wa r g : Addr) (as : List Addr) (rs : List Str) (gs : List Gt), vs = [.ref wa] ∧ WorldAt H wa r g as rs gs ∧ WFine rs gs ∧
  ∀ (H' : Hp), Same H H' → Q (.str (toldW gs rs).shown) H'
theorem ok_told (F : Fun K "_law_told" "_law_told" st_told f fd) (B : Blt mg) (F_girth : Df P w K mg base "girth" 5 fG fdG ["world"] spGirth) (F_quiet : Df P w K mg base "quiet" 4 fQ fdQ ["world"] spQuiet) (F_noticed : Df P w K mg base "noticed" 4 fN fdN ["world"] spNoticed) :
    FnG P w K mg base CX0 6 f fd ["_law_world"] spTold := by
  refine okG F sc_told (fun vs H Q E h => ?_) (fun cdv A outer s H vs Q E hgd hr h => ?_)
  · obtain ⟨_, _, _, _, _, _, rfl, _⟩ := h
    rfl
  · obtain ⟨wa, r, g, as, rs, gs, rfl, hw, wf, q⟩ := h
    refine ⟨_, (pss_one (ps_ret (pe_callB (call_repr hgd hr.units) (by rfl) B.repr (by decide +kernel) (pa_cons (pe_lst (pa_cons (pe_callG hgd F_girth.G (hr.mono (by decide)) (by rfl) F_girth.g F_girth.kp F_girth.bd pass0 (pa_cons (pv 0) pa_nil)) (pa_cons (pe_callG hgd F_quiet.G (hr.mono (by decide)) (by rfl) F_quiet.g F_quiet.kp F_quiet.bd pass0 (pa_cons (pv 0) pa_nil)) (pa_cons (pe_callG hgd F_noticed.G (hr.mono (by decide)) (by rfl) F_noticed.g F_noticed.kp F_noticed.bd pass0 (pa_cons (pv 0) pa_nil)) pa_nil)))) pa_nil)))), ?_⟩
    have each : ∀ g ∈ gs, g.2.1.length ≤ 100 ∧ ∀ y ∈ g.2.1, y ∈ rs := fun g hg => by
      obtain ⟨_, h2, h3, _⟩ := wf.each g hg
      exact ⟨by omega, h3⟩
    have hrl : rs.length ≤ 100 := by have := wf.rl; omega
    have hgl : gs.length ≤ 100 := by have := wf.gl; omega
    refine ⟨_, rfl, wa, r, g, as, rs, gs, rfl, ⟨hw, wf.nd, hrl, hgl, each⟩, fun H1 s1 => ?_⟩
    refine ⟨_, rfl, wa, r, g, as, rs, gs, rfl, hw.same s1, wf.nd, hrl, hgl, each, fun H2 p2 s2 h2 => ?_⟩
    refine ⟨_, rfl, wa, r, g, as, rs, gs, rfl, (hw.same s1).same s2, wf.nd, hrl, hgl, each, fun H3 p3 s3 h3 => ?_⟩
    refine ⟨(by show 3 ≤ sizeLine; decide), fun l nl => ?_⟩
    have zl := same_new nl (o := .lst [girV (scyc gs rs), .ref p2, .ref p3])
    have ft := fit_told wf
    exact ⟨_, toldW gs rs, rfl, WT.Dp.dt (.lst (SqL.of upd_same) (.cons (dp_girV _) (.cons (.tup (SqT.of (zl _ _ (s3 _ _ h2))) (dp_strs _)) (.cons (.tup (SqT.of (zl _ _ h3)) (dp_strs _)) .nil)))), ft.sh, ft.de, ft.ln, q _ (s1.trans (s2.trans (s3.trans zl)))⟩
/-- ring(regions, names, wrapping) -/
def spRing (K : PySem.W.Frag) : Sp := fun vs H Q _ => ∃ (rl nl wl : Addr) (ys ns : List Str) (is : List Int), vs = [.ref rl, .ref nl, .ref wl] ∧ SqL K H rl (ys.map V.str) ∧ SqT K H nl (ns.map V.str) ∧ SqL K H wl (is.map V.int) ∧ ys.length = ns.length ∧ 2 ≤ ns.length ∧ ns.length ≤ 10 ∧ ys.Nodup ∧ AscS ns ∧
  ∀ (H' : Hp) (p r g : Addr) (as : List Addr) (rs : List Str) (gs : List Gt), Same H H' → WorldAt H' p r g as rs gs → RingG ys ns (fun i => decide ((i : Int) ∈ is)) rs gs → Q (.ref p) H'
theorem ok_ring (F : Fun K "_law_ring" "_law_ring" st_ring f fd) (B : Blt mg) : FnG P w K mg base CX0 1 f fd ["_law_regions", "_law_names_here", "_law_wrapping"] (spRing K) := by
  refine okG F sc_ring (fun vs H Q E h => ?_) (fun cdv A outer s H vs Q E hgd hr h => ?_)
  · obtain ⟨_, _, _, _, _, _, rfl, _⟩ := h
    rfl
  · obtain ⟨rl, nl, wl, ys, ns, is, rfl, hrl, hnl, hwl, ly, n2, n10, ndy, ascn, q⟩ := h
    refine ⟨_, (pss_cons (ps_set (i := 3) sc_ring.nd rfl (.inl rfl) (pe_lst pa_nil))
      (pss_cons (ps_for PassesOwn.never rfl (pi_enumT (by rfl) B.enumerate (pa_cons (pv 1) pa_nil)) (pg_tup rfl (pgs_cons (pg_name (i := 4) sc_ring.nd rfl (.inl rfl)) (pgs_cons (pg_name (i := 5) sc_ring.nd rfl (.inl rfl)) pgs_nil)))
       (pss_cons (ps_set (i := 6) sc_ring.nd rfl (.inl rfl) (pe_callTy call_tuple_of (by rfl) B.tuple (by decide +kernel) (pa_cons (pe_callB cr_sortedS (by rfl) B.sorted (by decide +kernel) (pa_cons (pe_lst (pa_cons (pe_ix ix_list (pv 0) (pv 4) (fun _ _ => rfl)) (pa_cons (pe_ix ix_list (pv 0) (pe_op op_mod (pe_op op_add (pv 4) pe_int) (pe_callB call_len (by rfl) B.len (by decide +kernel) (pa_cons (pv 1) pa_nil))) (fun _ _ => rfl)) pa_nil))) pa_nil)) pa_nil)))
       (pss_one (ps_expr (pe_bm PySem.F.plainAttrs_list PySem.F.slot_list_append PySem.F.type_list_append mt_append (pv 3) (pa_cons (pe_tup (pa_cons (pv 5) (pa_cons (pv 6) (pa_cons (pe_ifExp (pt_cmpR op_in_seq (pv 4) (pv 2) (by rfl)) pe_str pe_str) pa_nil)))) pa_nil))))))
      (pss_one (ps_ret (pe_tup (pa_cons (pe_callTy call_tuple_of (by rfl) B.tuple (by decide +kernel) (pa_cons (pe_callB cr_sortedS (by rfl) B.sorted (by decide +kernel) (pa_cons (pv 0) pa_nil)) pa_nil)) (pa_cons (pe_callTy call_tuple_of (by rfl) B.tuple (by decide +kernel) (pa_cons (pe_callB (cr_sortedD hr.units) (by rfl) B.sorted (by decide +kernel) (pa_cons (pv 3) pa_nil)) pa_nil)) pa_nil))))))), ?_⟩
    refine ⟨(by show 0 ≤ sizeLine; decide), fun D nD => ?_⟩
    have z0 := same_new nD (o := .lst [])
    refine ⟨_, rfl, nl, _, rfl, sameT z0 hnl, for_it (walk_enumT (xs := ns.map V.str)) (fun j σ H' => ∃ (v4 v5 v6 : Option V) (as : List Addr) (gs : List Gt), σ = [some (.ref rl), some (.ref nl), some (.ref wl), some (.ref D), v4, v5, v6] ∧ Same H H' ∧ H' D = some (.lst (as.map V.ref)) ∧ Paired (GateAt H') as gs ∧ gs.map (·.1) = ns.take j ∧
        ∀ g ∈ gs, GateR ys ns (fun i => decide ((i : Int) ∈ is)) g)
      ⟨none, none, none, [], [], rfl, z0, upd_same, .nil, rfl, fun g hg => nomatch hg⟩ (fun j σ H' _ ⟨_, _, _, _, _, _, sm, _⟩ => sameT sm hnl) (fun j v σ H6 H7 hj hP hY => ?_) (fun σ H6 hP => ?_)⟩
    · obtain ⟨v4, v5, v6, as, gs, rfl, s6, hD, prs, hmap, hgok⟩ := hP
      obtain ⟨T, x', y', rfl, nT, rfl, e1, e2⟩ := hY
      cases e1
      rw [List.length_map] at hj
      have e2 : (ns.map V.str)[j]? = some y' := e2
      rw [List.getElem?_map, List.getElem?_eq_getElem hj] at e2
      cases e2
      have lgs : gs.length = j := by
        have := congrArg List.length hmap
        rw [List.length_map, List.length_take] at this
        omega
      have zT := same_new nT (o := .tup [.int ((j : Nat) : Int), .str ns[j]])
      have hT : upd H6 T (.tup [.int ((j : Nat) : Int), .str ns[j]]) T = some (.tup [.int ((j : Nat) : Int), .str ns[j]]) := upd_same
      have s7 := s6.trans zT
      have hD7 := zT _ _ hD
      have prs7 := Paired.mapP prs fun _ _ h => h.same zT
      generalize upd H6 T (.tup [.int ((j : Nat) : Int), .str ns[j]]) = H7 at zT hT s7 hD7 prs7 ⊢
      have ysat : ∀ (i : Nat), i < ys.length → (ys.map V.str)[i]? = some (V.str (ys.getD i "")) := fun i h => by
        rw [List.getElem?_map, List.getElem?_eq_getElem h, List.getD_eq_getElem?_getD, List.getElem?_eq_getElem h]
        rfl
      have hm : md ns.length (j + 1) < ys.length := by
        rw [ly]
        exact md_lt (by omega)
      have hmod : ((j : Int) + 1) % (ns.length : Int) = ((md ns.length (j + 1) : Nat) : Int) := by
        have := md_mod (n := ns.length) (x := j + 1) (by omega)
        rw [← this]
        rfl
      refine ⟨T, _, rfl, SqT.of hT, rfl, .int (j : Nat), _, rfl, .str ns[j], [], rfl, rfl, ?_⟩
      -- inside = tuple(sorted([..]))
      refine ⟨_, rfl, _, rfl, rl, _, (j : Int), _, rfl, rfl, s7.seq hrl, atI_nat (ysat j (by omega)), ?_⟩
      refine ⟨_, rfl, _, rfl, (j : Int), 1, rfl, rfl, _, rfl, _, ns.length, rfl, .inr ⟨_, sameT s7 hnl, (List.length_map ..).symm⟩, (j : Int) + 1, (ns.length : Int), rfl, rfl, (by omega), ?_⟩
      refine ⟨rl, _, ((j : Int) + 1) % (ns.length : Int), _, rfl, rfl, s7.seq hrl, (by rw [hmod]; exact atI_nat (ysat _ hm)), (by show 2 ≤ sizeLine; decide), fun li nli => ?_⟩
      have zl := same_new nli (o := .lst [.str (ys.getD j ""), .str (ys.getD (md ns.length (j + 1)) "")])
      refine ⟨li, [ys.getD j "", ys.getD (md ns.length (j + 1)) ""], rfl, SqL.of upd_same, (by show 2 < 64; decide), fun ws c7 pm7 st7 n7 => ?_⟩
      have z7 := same_new n7 (o := .lst (ws.map V.str))
      refine ⟨c7, _, rfl, .inl ⟨SqL.of upd_same, fun t8 n8 => ?_⟩⟩
      have z8 := same_new n8 (o := .tup (ws.map V.str))
      have zz := zl.trans (z7.trans z8)
      have ht8 : upd (upd (upd H7 li (.lst [.str (ys.getD j ""), .str (ys.getD (md ns.length (j + 1)) "")])) c7 (.lst (ws.map V.str))) t8 (.tup (ws.map V.str)) t8 = some (.tup (ws.map V.str)) := upd_same
      generalize upd (upd (upd H7 li (.lst [.str (ys.getD j ""), .str (ys.getD (md ns.length (j + 1)) "")])) c7 (.lst (ws.map V.str))) t8 (.tup (ws.map V.str)) = H8 at zz ht8 ⊢
      have s8 := s7.trans zz
      have hD8 := zz _ _ hD7
      -- found.append((name, inside, kind))
      refine ⟨_, rfl, .inl ⟨rfl, _, SqL.of hD8⟩, _, rfl, _, rfl, _, rfl, _, rfl, wl, _, rfl, .inl (s8.seq hwl), rfl, flat_ints is, _, rfl, ?_⟩
      rw [inV_int]
      have fin : ∀ kd : Str, kd = (if decide ((j : Int) ∈ is) = true then ("wrap" : Str) else "open") → ∀ t9, H8 t9 = none → ∃ (v4 v5 v6 : Option V) (as' : List Addr) (gs' : List Gt), [some (V.ref rl), some (.ref nl), some (.ref wl), some (.ref D), some (.int (j : Nat)), some (.str ns[j]), some (.ref t8)] = [some (.ref rl), some (.ref nl), some (.ref wl), some (.ref D), v4, v5, v6] ∧
          Same H (upd (upd H8 t9 (.tup [.str ns[j], .ref t8, .str kd])) D (.lst (as.map V.ref ++ [.ref t9]))) ∧ (upd (upd H8 t9 (.tup [.str ns[j], .ref t8, .str kd])) D (.lst (as.map V.ref ++ [.ref t9]))) D = some (.lst (as'.map V.ref)) ∧ Paired (GateAt (upd (upd H8 t9 (.tup [.str ns[j], .ref t8, .str kd])) D (.lst (as.map V.ref ++ [.ref t9])))) as' gs' ∧ gs'.map (·.1) = ns.take (j + 1) ∧ ∀ g ∈ gs', GateR ys ns (fun i => decide ((i : Int) ∈ is)) g := fun kd ek t9 n9 => by
        have z9 := same_new n9 (o := .tup [.str ns[j], .ref t8, .str kd])
        have hD9 := z9 _ _ hD8
        have keep : ∀ (c : Addr) (xs : List V) (o : HO), upd H8 t9 (.tup [.str ns[j], .ref t8, .str kd]) c = some (.tup xs) → upd (upd H8 t9 (.tup [.str ns[j], .ref t8, .str kd])) D o c = some (.tup xs) := fun c xs o e => by
          rw [upd_ne (ne_of e hD9 (by intro z; cases z))]
          exact e
        refine ⟨_, _, _, as ++ [t9], gs ++ [(ns[j], ws, kd)], rfl, fun c o ec => ?_, ?_, ?_, ?_, fun g hg => ?_⟩
        · rw [upd_ne (ne_of_none ec nD)]
          exact z9 _ _ (s8 _ _ ec)
        · rw [upd_same, List.map_append]
          rfl
        · refine pair_snoc (Paired.mapP prs7 fun _ _ ⟨i, k1, k2⟩ => ⟨i, keep _ _ _ (z9 _ _ (zz _ _ k1)), keep _ _ _ (z9 _ _ (zz _ _ k2))⟩) ⟨t8, keep _ _ _ upd_same, keep _ _ _ (z9 _ _ ht8)⟩
        · rw [List.map_append, hmap, List.take_add_one, List.getElem?_eq_getElem hj]
          rfl
        · rcases List.mem_append.mp hg with hg | hg
          · exact hgok g hg
          · rw [List.mem_singleton.mp hg]
            refine ⟨j, hj, ?_, fun z => ?_, pm7.length_eq, ek⟩
            · show ns[j] = _
              rw [List.getD_eq_getElem?_getD, List.getElem?_eq_getElem hj]
              rfl
            · show z ∈ ws ↔ _
              rw [pm7.mem_iff]
              simp
      have lim : (as.map V.ref).length < sizeLine := by
        rw [List.length_map, Paired.length prs, lgs]
        exact Nat.lt_of_le_of_lt (show j ≤ 10 by omega) (by decide)
      by_cases c : (j : Int) ∈ is
      · rw [decide_eq_true c]
        refine iteT ⟨(by show 3 ≤ sizeLine; decide), fun t9 n9 => ⟨D, _, _, rfl, rfl, same_new n9 _ _ hD8, lim, fin "wrap" (by rw [if_pos (decide_eq_true c)]) t9 n9⟩⟩
      · rw [decide_eq_false c]
        refine iteF ⟨(by show 3 ≤ sizeLine; decide), fun t9 n9 => ⟨D, _, _, rfl, rfl, same_new n9 _ _ hD8, lim, fin "open" (by rw [if_neg (by rw [decide_eq_false c]; decide)]) t9 n9⟩⟩
    · obtain ⟨v4, v5, v6, as, gs, rfl, s6, hD, prs, hmap, hgok⟩ := hP
      rw [List.length_map, List.take_length] at hmap
      -- return (tuple(sorted(regions)), tuple(sorted(found)))
      obtain ⟨zf, zg⟩ := zip_fst prs
      have lys : ys.length ≤ 10 := by omega
      refine ⟨_, rfl, rl, ys, rfl, s6.seq hrl, (by omega), fun rs p1 pr1 st1 n1 => ?_⟩
      have z1 := same_new n1 (o := .lst (rs.map V.str))
      refine ⟨p1, _, rfl, .inl ⟨SqL.of upd_same, fun rg n2' => ?_⟩⟩
      have z2 := same_new n2' (o := .tup (rs.map V.str))
      have hrg : upd (upd H6 p1 (.lst (rs.map V.str))) rg (.tup (rs.map V.str)) rg = some (.tup (rs.map V.str)) := upd_same
      have z12 := z1.trans z2
      generalize upd (upd H6 p1 (.lst (rs.map V.str))) rg (.tup (rs.map V.str)) = H2 at z12 hrg ⊢
      have s2 := s6.trans z12
      have hD2 := z12 _ _ hD
      have prs2 := Paired.mapP prs fun _ _ h => h.same z12
      have asc : AscS rs := asc_of st1 (pr1.nodup_iff.mpr ndy)
      refine ⟨_, rfl, D, (as.zip gs).map (fun p => (V.ref p.1, gateD p.2)), rfl, ?_, ?_, ?_, ?_, ?_, fun p np => ?_⟩
      · rw [List.map_map]
        have : (as.zip gs).map ((fun b : V × PyData => b.1) ∘ fun p => (V.ref p.1, gateD p.2)) = as.map V.ref := by
          conv => rhs; rw [← zf, List.map_map]
          rfl
        rw [this]
        exact SqL.of hD2
      · intro c hc
        obtain ⟨p, hp', rfl⟩ := List.mem_map.mp hc
        exact dp_gate (paired_zip prs2 p hp')
      · rw [List.map_map]
        exact PySem.W.AllAlike.of fun b b' => alike_gate _ _
      · rw [List.map_map]
        exact PySem.W.Sortable.tuples fun b => ⟨_, _, rfl⟩
      · intro c hc
        obtain ⟨p, hp', rfl⟩ := List.mem_map.mp hc
        exact Nat.le_trans (depth_gate _) (by decide)
      · obtain ⟨ks, hks, eks⟩ := perm_map_inv (f := fun p : Addr × Gt => (V.ref p.1, gateD p.2)) (List.mergeSort_perm ((as.zip gs).map fun p => (V.ref p.1, gateD p.2)) (PySem.W.dataLe false fun b => b.2)) rfl
        have pg : (ks.map (·.2)).Perm gs := by
          have := hks.map (·.2)
          rw [zg] at this
          exact this
        have pn : ((ks.map (·.2)).map (·.1)).Perm ns := by
          have := pg.map (·.1)
          rw [hmap] at this
          exact this
        have ndn : ns.Nodup := ascn.imp fun h => h.ne
        have ga : AscS ((ks.map (·.2)).map (·.1)) := by
          have := gates_asc eks (by
            have := pn.nodup_iff.mpr ndn
            rw [List.map_map] at this
            exact this)
          rw [List.map_map]
          exact this
        have en : (ks.map (·.2)).map (·.1) = ns := ascs_ext ga ascn fun z => pn.mem_iff
        rw [eks]
        have zp := same_new np (o := .lst ((ks.map fun p : Addr × Gt => (V.ref p.1, gateD p.2)).map (·.1)))
        refine ⟨p, _, rfl, .inl ⟨SqL.of upd_same, fun t nt => ?_⟩⟩
        have zt := same_new nt (o := .tup ((ks.map fun p : Addr × Gt => (V.ref p.1, gateD p.2)).map (·.1)))
        refine ⟨(by show 2 ≤ sizeLine; decide), fun wp nwp => ?_⟩
        have zw := same_new nwp (o := .tup [.ref rg, .ref t])
        have z6 := zp.trans (zt.trans zw)
        have ht := zw _ _ (show upd (upd H2 p (.lst ((ks.map fun p : Addr × Gt => (V.ref p.1, gateD p.2)).map (·.1)))) t (.tup ((ks.map fun p : Addr × Gt => (V.ref p.1, gateD p.2)).map (·.1))) t = _ from upd_same)
        have et : (ks.map fun p : Addr × Gt => (V.ref p.1, gateD p.2)).map (·.1) = (ks.map (·.1)).map V.ref := by
          rw [List.map_map, List.map_map]
          rfl
        have ht2 := ht.trans (congrArg (fun z => some (HO.tup z)) et)
        exact q _ wp rg t (ks.map (·.1)) rs (ks.map (·.2)) (s2.trans z6) ⟨upd_same, z6 _ _ hrg, ht2, zip_paired fun k hk => (paired_zip prs2 k (hks.mem_iff.mp hk)).same z6⟩ ⟨en, fun g hg => hgok g (pg.mem_iff.mp hg), asc, pr1⟩
end
end K14

set_option Elab.async false
set_option linter.all false
set_option maxRecDepth 100000
set_option maxHeartbeats 4000000
namespace K14
open PySem PySem.Spec PyProof.Rows L2 WT
abbrev st_rings_right : Stmt := top 26
theorem sc_rings_right : FnScope ["_law_hand_here", "_law_size", "_law_all_regions", "_law_names_here", "_law_order", "_law_at", "_law_world", "_law_full"] ["_law_hand_here"] (defScope st_rings_right) := ⟨rfl, rfl, rfl, by decide +kernel, rfl, by decide +kernel, by decide +kernel⟩
section
variable {P : Program} {w : World} {K : PySem.W.Frag} {mg : Str → Option Value} {base : Heap} {f fT fM fN fR fL fZ : Addr} {fd fdT fdM fdN fdR fdL fdZ : FuncData}
theorem cut_to (ys : List Str) (n : Nat) (h : n ≤ ys.length) : cutV (ys.map V.str) none (some (n : Int)) = (ys.take n).map V.str := by
  unfold cutV
  rw [HT.sIx_nat, HT.sIx_none, List.length_map, Nat.min_eq_left h, Nat.sub_zero, List.drop_zero, List.map_take]
theorem snoc_lt : ∀ (s : List Nat) {a b : Nat}, a < b → s ++ [a] < s ++ [b]
  | [], a, b, h => by
    rw [List.nil_append, List.nil_append]
    exact List.cons_lt_cons_iff.mpr (.inl h)
  | c :: s, a, b, h => by
    rw [List.cons_append, List.cons_append]
    exact List.cons_lt_cons_iff.mpr (.inr ⟨rfl, snoc_lt s h⟩)
theorem names_asc {n : Nat} {ys : List Str} (h : NamesOf n ys) : AscS ys := by
  obtain ⟨s, f, rfl, _⟩ := h.ex
  unfold nameList AscS
  refine List.pairwise_map.mpr (List.Pairwise.imp (fun {i j} hij => ?_) List.pairwise_lt_range)
  show (s ++ sign (97 + f + i)).cps.toList < (s ++ sign (97 + f + j)).cps.toList
  rw [app_cps, app_cps]
  exact snoc_lt _ (by show 97 + f + i < 97 + f + j; omega)
theorem win_of {rs : List Str} {gs : List Gt} (h : WFine rs gs) : WIn rs gs := ⟨by have := h.rl; omega, by have := h.gl; omega, h.nd, fun g hg => by
  obtain ⟨_, h2, h3, _⟩ := h.each g hg
  exact ⟨by omega, h3⟩⟩
/-- others: the hand moves, the answer is True -/
def spRings : Sp := fun vs H Q _ => ∃ (a : Addr) (b : Nat), vs = [.ref a] ∧ PotAt H a b ∧ b ≤ 60000 ∧ ∀ (H' : Hp), But a H H' → PotAt H' a (b + 60) → Q (.bl true) H'
theorem ok_rings (F : Fun K "_law_rings_right" "_law_rings_right" st_rings_right f fd) (B : Blt mg) (F_take : Df P w K mg base "_law_take" 1 fT fdT ["_law_hand_here", "_law_many"] spTake) (F_mixed : Df P w K mg base "_law_mixed" 2 fM fdM ["_law_hand_here", "_law_some"] (spMixed K))
    (F_names : Df P w K mg base "_law_names" 3 fN fdN ["_law_hand_here", "_law_count"] spNames) (F_ring : Df P w K mg base "_law_ring" 1 fR fdR ["_law_regions", "_law_names_here", "_law_wrapping"] (spRing K)) (F_told : Df P w K mg base "_law_told" 6 fL fdL ["_law_world"] spTold)
    (F_zones : Df P w K mg base "zones" 5 fZ fdZ ["world"] spZones) : FnG P w K mg base CX0 7 f fd ["_law_hand_here"] spRings := by
  refine okG F sc_rings_right (fun vs H Q E h => ?_) (fun cdv A outer s H vs Q E hgd hr h => ?_)
  · obtain ⟨_, _, rfl, _⟩ := h
    rfl
  · obtain ⟨a, b, rfl, ha, hb, q⟩ := h
    refine ⟨_, (pss_cons (ps_par (by rfl) sc_rings_right.nd (i := 1) (j := 2) rfl rfl (by decide) rfl rfl (pa_cons (pe_op op_add pe_int (pe_callG hgd F_take.G (hr.mono (by decide)) (by rfl) F_take.g F_take.kp F_take.bd pass0 (pa_cons (pv 0) (pa_cons pe_int pa_nil)))) (pa_cons (pe_callG hgd F_names.G (hr.mono (by decide)) (by rfl) F_names.g F_names.kp F_names.bd pass0 (pa_cons (pv 0) (pa_cons pe_int pa_nil))) pa_nil)) (by rfl))
      (pss_cons (ps_par (by rfl) sc_rings_right.nd (i := 3) (j := 4) rfl rfl (by decide) rfl rfl (pa_cons (pe_callG hgd F_names.G (hr.mono (by decide)) (by rfl) F_names.g F_names.kp F_names.bd pass0 (pa_cons (pv 0) (pa_cons (pv 1) pa_nil))) (pa_cons (pe_callG hgd F_mixed.G (hr.mono (by decide)) (by rfl) F_mixed.g F_mixed.kp F_mixed.bd pass0 (pa_cons (pv 0) (pa_cons (pv 2) pa_nil))) pa_nil)) (by rfl))
      (pss_cons (ps_set (i := 5) sc_rings_right.nd rfl (.inl rfl) (pe_callG hgd F_take.G (hr.mono (by decide)) (by rfl) F_take.g F_take.kp F_take.bd pass0 (pa_cons (pv 0) (pa_cons (pv 1) pa_nil))))
      (pss_cons (ps_set (i := 6) sc_rings_right.nd rfl (.inl rfl) (pe_callG hgd F_ring.G (hr.mono (by decide)) (by rfl) F_ring.g F_ring.kp F_ring.bd pass0 (pa_cons (pe_slice sl_list (pv 4) po_none (po_some (pv 1))) (pa_cons (pv 3) (pa_cons (pe_lst (pa_cons (pv 5) pa_nil)) pa_nil)))))
      (pss_cons (ps_if (PW.pt (pw_or (pt_cmpR op_ne (pe_callG hgd F_told.G (hr.mono (by decide)) (by rfl) F_told.g F_told.kp F_told.bd pass0 (pa_cons (pv 6) pa_nil)) (pe_callB (call_repr hgd hr.units) (by rfl) B.repr (by decide +kernel) (pa_cons (pe_lst (pa_cons (pv 1) (pa_cons (pe_tup pa_nil) (pa_cons (pe_tup (pa_cons (pe_ix ix_tup (pv 3) (pv 5) (fun _ _ => rfl)) pa_nil)) pa_nil)))) pa_nil)) (nomark _)) (pw_or1 (pt_cmpR op_ne (pe_callB call_len (by rfl) B.len (by decide +kernel) (pa_cons (pe_callG hgd F_zones.G (hr.mono (by decide)) (by rfl) F_zones.g F_zones.kp F_zones.bd pass0 (pa_cons (pv 6) pa_nil)) pa_nil)) pe_int (nomark _)))))
       (pss_one (ps_ret pe_bl))
       pss_nil)
      (pss_cons (ps_if (pt_cmpR op_ne (pe_callG hgd F_told.G (hr.mono (by decide)) (by rfl) F_told.g F_told.kp F_told.bd pass0 (pa_cons (pe_callG hgd F_ring.G (hr.mono (by decide)) (by rfl) F_ring.g F_ring.kp F_ring.bd pass0 (pa_cons (pe_slice sl_list (pv 4) po_none (po_some (pv 1))) (pa_cons (pv 3) (pa_cons (pe_lst pa_nil) pa_nil)))) pa_nil)) (pe_callB (call_repr hgd hr.units) (by rfl) B.repr (by decide +kernel) (pa_cons (pe_lst (pa_cons pe_non (pa_cons (pe_tup pa_nil) (pa_cons (pe_tup pa_nil) pa_nil)))) pa_nil)) (nomark _))
       (pss_one (ps_ret pe_bl))
       pss_nil)
      (pss_cons (ps_set (i := 7) sc_rings_right.nd rfl (.inl rfl) (pe_callG hgd F_ring.G (hr.mono (by decide)) (by rfl) F_ring.g F_ring.kp F_ring.bd pass0 (pa_cons (pe_slice sl_list (pv 4) po_none (po_some (pv 1))) (pa_cons (pv 3) (pa_cons (pe_listRg (by rfl) (by rfl) B.list (prg_1 (by rfl) B.range (pv 1))) pa_nil)))))
      (pss_one (ps_ret (pe_and (pe_cmpR op_eq (pe_callG hgd F_told.G (hr.mono (by decide)) (by rfl) F_told.g F_told.kp F_told.bd pass0 (pa_cons (pv 7) pa_nil)) (pe_callB (call_repr hgd hr.units) (by rfl) B.repr (by decide +kernel) (pa_cons (pe_lst (pa_cons (pv 1) (pa_cons (pe_tup pa_nil) (pa_cons (pe_callTy call_tuple_of (by rfl) B.tuple (by decide +kernel) (pa_cons (pe_callB (cr_sortedTS hr.units) (by rfl) B.sorted (by decide +kernel) (pa_cons (pv 3) pa_nil)) pa_nil)) pa_nil)))) pa_nil)) (nomark _)) (pe_one (pe_cmpR op_eq (pe_callB call_len (by rfl) B.len (by decide +kernel) (pa_cons (pe_callG hgd F_zones.G (hr.mono (by decide)) (by rfl) F_zones.g F_zones.kp F_zones.bd pass0 (pa_cons (pv 7) pa_nil)) pa_nil)) (pv 1) (nomark _))))))))))))), ?_⟩
    refine ⟨_, rfl, a, b, 9, rfl, ha, by omega, by decide, by decide, fun H1 sz b1 p1 s0 s1 => ?_⟩
    obtain ⟨n, hn⟩ : ∃ n : Nat, (2 + sz) = (n : Int) := ⟨(2 + sz).toNat, by omega⟩
    refine ⟨2, sz, rfl, rfl, ?_⟩
    dsimp only
    rw [hn]
    have n2 : 2 ≤ n := by omega
    have n10 : n ≤ 10 := by omega
    refine ⟨_, rfl, a, b + 1, 10, rfl, p1, by omega, by decide, fun H2 rg all b2 p2 hrg nall => ?_⟩
    have lall := nall.length
    -- names_here, order
    refine ⟨_, _, rfl, _, rfl, _, rfl, a, b + 1 + 9, n, rfl, p2, by omega, by omega, fun H3 nm ns b3 p3 hnm nns => ?_⟩
    have lns := nns.length
    have hrg3 := b3 _ _ (p2.ne_tup hrg) hrg
    refine ⟨_, rfl, _, rfl, a, rg, b + 1 + 9 + 9, all, rfl, p3, by omega, .inr (SqT.of hrg3), by omega, fun s hs => (nall.nm s hs).ok, fun H4 od ys b4 p4 nod hod pmy => ?_⟩
    have lys := pmy.length_eq
    have noda : od ≠ a := Ne.symm (p3.ne_new nod)
    have hnm4 := b4 _ _ (p3.ne_tup hnm) hnm
    -- at
    refine ⟨_, _, rfl, _, rfl, _, rfl, a, b + 1 + 9 + 9 + all.length, (n : Int), rfl, p4, by omega, by omega, by omega, fun H5 at' b5 p5 a0 a1 => ?_⟩
    obtain ⟨at_, rfl⟩ := Int.eq_ofNat_of_zero_le a0
    have hat : at_ < ns.length := by omega
    have hnm5 := b5 _ _ (p4.ne_tup hnm4) hnm4
    have hod5 := b5 _ _ noda hod
    have b05 : But a H H5 := b1.trans (b2.trans (b3.trans (b4.trans b5)))
    have done : ∀ H', Same H5 H' → Q (.bl true) H' := fun H' s' => q H' (b05.trans (.of s')) ((p5.same s').more (by omega))
    -- the facts of the names
    have ndys : (ys : List Str).Nodup := pmy.nodup_iff.mpr (names_nodup nall)
    have RP : RingP (ys.take n) ns := ⟨by rw [List.length_take]; omega, by omega, by omega, ndys.sublist (List.take_sublist ..), names_asc nns, fun s hs => nall.nm s (pmy.mem_iff.mp (List.mem_of_mem_take hs)), nns.nm⟩
    have cut : cutV (ys.map V.str) none (some (n : Int)) = (ys.take n).map V.str := cut_to ys n (by omega)
    clear b05 b1 b2 b3 b4 q hrg hrg3 hod hnm hnm4
    -- world = ring(order[:size], names_here, [at])
    refine ⟨_, rfl, _, rfl, (n : Int), rfl, od, _, rfl, SqL.of hod5, fun c1 nc1 => ?_⟩
    rw [cut]
    have z1 := same_new nc1 (o := .lst ((ys.take n).map V.str))
    refine ⟨_, rfl, _, rfl, (by show 1 ≤ sizeLine; decide), fun c2 nc2 => ?_⟩
    have z2 := same_new nc2 (o := .lst [.int (at_ : Int)])
    refine ⟨c1, nm, c2, ys.take n, ns, [(at_ : Int)], rfl, SqL.of (z2 _ _ upd_same), SqT.of (z2 _ _ (z1 _ _ hnm5)), SqL.of upd_same, RP.ly, RP.two, RP.ten, RP.ndy, RP.asc, fun H6 wa r g as rs gs s6 hw R => ?_⟩
    have s06 := z1.trans (z2.trans s6)
    clear z1 z2 s6
    have wf := R.fine RP
    have on := R.one RP hat
    have tol := R.told RP hat (by simp)
    rw [on] at tol
    -- told(world) != ..
    refine ⟨_, rfl, wa, r, g, as, rs, gs, rfl, hw, wf, fun H7 s7 => ?_⟩
    rw [tol]
    have nmat : ∀ i, i < ns.length → (ns.map V.str)[i]? = some (V.str (ns.getD i "")) := fun i h => by
      rw [List.getElem?_map, List.getElem?_eq_getElem h, getD_at h]
      rfl
    have s07 := s06.trans s7
    refine ⟨_, rfl, (by show 0 ≤ sizeLine; decide), fun t1 nt1 => ?_⟩
    have z1 := same_new nt1 (o := .tup [])
    refine ⟨_, rfl, _, rfl, nm, _, (at_ : Int), _, rfl, rfl, SqT.of (z1 _ _ (s07 _ _ hnm5)), atI_nat (nmat at_ hat), (by show 1 ≤ sizeLine; decide), fun t2 nt2 => ?_⟩
    have z2 := same_new nt2 (o := .tup [.str (ns.getD at_ "")])
    refine ⟨(by show 3 ≤ sizeLine; decide), fun t3 nt3 => ?_⟩
    have z3 := same_new nt3 (o := .lst [.int (n : Int), .ref t1, .ref t2])
    have ft := fit_toldD (o := some n) (a := []) (b := [ns.getD at_ ""]) (fun m e => by cases e; omega) (by decide) (by show 1 ≤ 10; decide) (fun s hs => nomatch hs) fun s hs => by
      rw [List.mem_singleton.mp hs, getD_at hat]
      exact nns.nm _ (List.getElem_mem _)
    refine ⟨_, toldD (some n) [] [ns.getD at_ ""], rfl, WT.Dp.dt (.lst (SqL.of upd_same) (.cons (.int _) (.cons (.tup (SqT.of (z3 _ _ (z2 _ _ upd_same))) .nil) (.cons (.tup (SqT.of (z3 _ _ upd_same)) (.cons (.str _) .nil)) .nil)))), ft.sh, ft.de, ft.ln, rfl, _, rfl, ifF (by rw [← lns] at hn; subst lns; simp) ?_⟩
    have s08 := s07.trans (z1.trans (z2.trans z3))
    have hw8 := hw.same (s7.trans (z1.trans (z2.trans z3)))
    generalize upd (upd (upd H7 t1 (.tup [])) t2 (.tup [.str (ns.getD at_ "")])) t3 (.lst [.int (n : Int), .ref t1, .ref t2]) = H8 at s08 hw8 ⊢
    clear s06 s07 s7 z1 z2 z3
    -- len(zones(world)) != 1
    refine ⟨_, rfl, wa, r, g, as, rs, gs, rfl, hw8, win_of wf, R.asc, fun H9 p9 ts s9 hp9 hts => ?_⟩
    rw [R.zone RP hat] at hts
    have lts := Paired.length hts
    refine ⟨_, 1, rfl, .inr ⟨_, SqT.of hp9, by rw [List.length_map, lts]; rfl⟩, rfl, _, rfl, ifF (by simp) ?_⟩
    have s09 := s08.trans s9
    clear s08 s9 hw8 hw tol on wf R hts hp9 lts
    -- told(ring(.., [])) != ..
    refine ⟨_, rfl, _, rfl, (n : Int), rfl, od, _, rfl, SqL.of (s09 _ _ hod5), fun c1 nc1 => ?_⟩
    rw [cut]
    have z1 := same_new nc1 (o := .lst ((ys.take n).map V.str))
    refine ⟨_, rfl, (by show 0 ≤ sizeLine; decide), fun c2 nc2 => ?_⟩
    have z2 := same_new nc2 (o := .lst [])
    refine ⟨c1, nm, c2, ys.take n, ns, [], rfl, SqL.of (z2 _ _ upd_same), SqT.of (z2 _ _ (z1 _ _ (s09 _ _ hnm5))), SqL.of upd_same, RP.ly, RP.two, RP.ten, RP.ndy, RP.asc, fun H6 wa r g as rs gs s6 hw R => ?_⟩
    have s06 := s09.trans (z1.trans (z2.trans s6))
    clear z1 z2 s6 s09
    have tol := R.told0 RP (fun i _ => by simp)
    refine ⟨wa, r, g, as, rs, gs, rfl, hw, R.fine RP, fun H7 s7 => ?_⟩
    rw [tol]
    have s07 := s06.trans s7
    refine ⟨(by show 0 ≤ sizeLine; decide), fun t1 nt1 => ?_⟩
    have z1 := same_new nt1 (o := .tup [])
    refine ⟨(by show 0 ≤ sizeLine; decide), fun t2 nt2 => ?_⟩
    have z2 := same_new nt2 (o := .tup [])
    refine ⟨(by show 3 ≤ sizeLine; decide), fun t3 nt3 => ?_⟩
    have z3 := same_new nt3 (o := .lst [.non, .ref t1, .ref t2])
    have ft := fit_toldD (o := none) (a := []) (b := []) (fun m e => by cases e) (by decide) (by decide) (fun s hs => nomatch hs) (fun s hs => nomatch hs)
    refine ⟨_, toldD none [] [], rfl, WT.Dp.dt (.lst (SqL.of upd_same) (.cons .non (.cons (.tup (SqT.of (z3 _ _ (z2 _ _ upd_same))) .nil) (.cons (.tup (SqT.of (z3 _ _ upd_same)) .nil) .nil)))), ft.sh, ft.de, ft.ln, rfl, _, rfl, ifF (by simp) ?_⟩
    have s08 := s07.trans (z1.trans (z2.trans z3))
    generalize upd (upd (upd H7 t1 (.tup [])) t2 (.tup [])) t3 (.lst [.non, .ref t1, .ref t2]) = H8 at s08 ⊢
    clear s06 s07 s7 z1 z2 z3 hw tol R ft
    -- full
    refine ⟨_, rfl, _, rfl, (n : Int), rfl, od, _, rfl, SqL.of (s08 _ _ hod5), fun c1 nc1 => ?_⟩
    rw [cut]
    have z1 := same_new nc1 (o := .lst ((ys.take n).map V.str))
    have rg0 : rgV 0 (n : Int) = ((List.range n).map fun i : Nat => (i : Int)).map V.int := by
      unfold rgV
      rw [List.map_map, show ((n : Int) - 0).toNat = n by omega]
      exact List.map_congr_left fun i _ => by simp
    refine ⟨_, rfl, _, rfl, n, rfl, RgOk.of_le (by omega) (by omega) (by omega) (by omega), fun c2 nc2 => ?_⟩
    rw [rg0]
    have z2 := same_new nc2 (o := .lst (((List.range n).map fun i : Nat => (i : Int)).map V.int))
    have wi : ∀ i, i < ns.length → decide ((i : Int) ∈ (List.range n).map fun i : Nat => (i : Int)) = true := fun i hi => decide_eq_true (List.mem_map.mpr ⟨i, List.mem_range.mpr (by omega), rfl⟩)
    refine ⟨c1, nm, c2, ys.take n, ns, _, rfl, SqL.of (z2 _ _ upd_same), SqT.of (z2 _ _ (z1 _ _ (s08 _ _ hnm5))), SqL.of upd_same, RP.ly, RP.two, RP.ten, RP.ndy, RP.asc, fun H6 wa r g as rs gs s6 hw R => ?_⟩
    have s06 := s08.trans (z1.trans (z2.trans s6))
    clear z1 z2 s6 s08
    have ev := R.every RP wi
    have tol := R.told RP hat (wi _ hat)
    rw [ev] at tol
    refine ⟨_, rfl, wa, r, g, as, rs, gs, rfl, hw, R.fine RP, fun H7 s7 => ?_⟩
    rw [tol]
    have s07 := s06.trans s7
    refine ⟨_, rfl, (by show 0 ≤ sizeLine; decide), fun t1 nt1 => ?_⟩
    have z1 := same_new nt1 (o := .tup [])
    refine ⟨_, rfl, nm, ns, rfl, SqT.of (z1 _ _ (s07 _ _ hnm5)), by omega, fun zs p2' pz srt n2' => ?_⟩
    have ez : zs = ns := by
      refine ascs_ext ?_ RP.asc fun z => pz.mem_iff
      have nz : zs.Nodup := pz.nodup_iff.mpr (RP.asc.imp fun h => h.ne)
      exact (srt.and nz).imp fun {a b} ⟨h1, h2⟩ => bef_of h1 h2
    subst ez
    have z2 := same_new n2' (o := .lst (zs.map V.str))
    refine ⟨p2', _, rfl, .inl ⟨SqL.of upd_same, fun t2 nt2 => ?_⟩⟩
    have z2b := same_new nt2 (o := .tup (zs.map V.str))
    refine ⟨(by show 3 ≤ sizeLine; decide), fun t3 nt3 => ?_⟩
    have z3 := same_new nt3 (o := .lst [.int (n : Int), .ref t1, .ref t2])
    have ft := fit_toldD (o := some n) (a := []) (b := zs) (fun m e => by cases e; omega) (by decide) (by omega) (fun s hs => nomatch hs) nns.nm
    refine ⟨_, toldD (some n) [] zs, rfl, WT.Dp.dt (.lst (SqL.of upd_same) (.cons (.int _) (.cons (.tup (SqT.of (z3 _ _ (z2b _ _ (z2 _ _ upd_same)))) .nil) (.cons (.tup (SqT.of (z3 _ _ upd_same)) (dp_strs _)) .nil)))), ft.sh, ft.de, ft.ln, ?_⟩
    have s08 := s07.trans (z1.trans (z2.trans (z2b.trans z3)))
    have hw8 := hw.same (s7.trans (z1.trans (z2.trans (z2b.trans z3))))
    generalize upd (upd (upd (upd H7 t1 (.tup [])) p2' (.lst (zs.map V.str))) t2 (.tup (zs.map V.str))) t3 (.lst [.int (n : Int), .ref t1, .ref t2]) = H8 at s08 hw8 ⊢
    refine ⟨rfl, _, rfl, ifT (by rw [lns]; exact decide_eq_true rfl) ?_⟩
    refine ⟨_, rfl, wa, r, g, as, rs, gs, rfl, hw8, win_of (R.fine RP), R.asc, fun H9 p9 ts s9 hp9 hts => ?_⟩
    have lts := Paired.length hts
    rw [R.zoneA RP wi] at lts
    refine ⟨_, n, rfl, .inr ⟨_, SqT.of hp9, by rw [List.length_map, lts, lns]⟩, _, rfl, rfl, ?_⟩
    rw [decide_eq_true rfl]
    exact done _ (s08.trans s9)
end
end K14

set_option Elab.async false
set_option linter.all false
set_option maxRecDepth 100000
set_option maxHeartbeats 2000000
namespace WT
open PySem PySem.Spec PyProof.Rows L2
/-! ### small worlds of ten regions -/
theorem open_wrap : ("open" : Str) ≠ "wrap" := by decide +kernel
section
variable {gs : List Gt} {rs : List Str}
theorem told_all {n : Nat} (W : Wds gs rs) (all : ∀ g ∈ gs, ∃ n, CycW gs g n) (h : ∃ g ∈ wrapsG gs, CycW gs g n) (lo : ∀ g ∈ wrapsG gs, ∀ m, CycW gs g m → n ≤ m) : toldW gs rs = toldD (some n) [] (wrapsW gs) := by
  obtain ⟨c, ec, lc⟩ := girth_is W h lo
  unfold toldW
  rw [ec, quiet_none W all, noticed_all W all]
  show toldD (some c.length) _ _ = _
  rw [lc]
  rfl
theorem SPath.go {bar : List Str} {g : Gt} {x z y : Str} {l : List (Str × Str)} (hg : g ∈ gs) (hb : g.1 ∉ bar) (hx : x ∈ g.2.1) (hz : z ∈ g.2.1) (p : SPath gs bar z l y) : SPath gs bar x ((g.1, z) :: l) y :=
  .cons ⟨g, hg, rfl, hb, hx, hz⟩ p
theorem told_nil : toldW [] rs = toldD none [] [] := rfl
theorem told_star (k : Str) : toldW [("hub", rs, k)] rs = toldD none ["hub"] [] := by
  have W : Wds [(("hub", rs, k) : Gt)] rs := ⟨by simp, fun g hg z hz => by
    rw [List.mem_singleton.mp hg] at hz
    exact hz⟩
  have no : ∀ g ∈ [(("hub", rs, k) : Gt)], ∀ n, ¬ CycW [(("hub", rs, k) : Gt)] g n := fun g hg n w => by
    obtain ⟨a, _, b, _, ne, l, p, _⟩ := w
    have hg := List.mem_singleton.mp hg
    subst hg
    cases p with
    | nil => exact ne rfl
    | cons s _ =>
      obtain ⟨g, hg, rfl, hb, _⟩ := s
      have hg := List.mem_singleton.mp hg
      subst hg
      exact hb (List.mem_singleton.mpr rfl)
  have nc : cycT [(("hub", rs, k) : Gt)] rs ("hub", rs, k) = none := no_cyc W (List.mem_singleton.mpr rfl) (no _ (List.mem_singleton.mpr rfl))
  have hw : ∀ g ∈ wrapsG [(("hub", rs, k) : Gt)], g = (("hub", rs, k) : Gt) := fun g hg => List.mem_singleton.mp (List.mem_filter.mp hg).1
  have e1 : pickG [(("hub", rs, k) : Gt)] rs true (wrapsG [(("hub", rs, k) : Gt)]) = [] := by
    unfold pickG
    rw [List.map_eq_nil_iff, List.filter_eq_nil_iff]
    intro g hg
    rw [hw g hg, nc]
    decide
  unfold toldW
  rw [girth_no W fun g hg => no g (List.mem_filter.mp hg).1, e1]
  unfold pickG
  rw [List.filter_cons, nc]
  rfl
theorem zones_star (A : AscS rs) (ne : rs ≠ []) : zonesL (conB [("hub", rs, "open")] (wrapsW [("hub", rs, "open")])) rs = [rs] := by
  refine zones_one A ne fun x hx y hy => conB_iff.mpr ?_
  have e : wrapsW [(("hub", rs, "open") : Gt)] = [] := by
    unfold wrapsW
    rw [List.map_eq_nil_iff, List.filter_eq_nil_iff]
    intro g hg
    rw [List.mem_singleton.mp hg]
    exact fun z => open_wrap (of_decide_eq_true z)
  rw [e]
  exact Conn.refl.step ⟨_, List.mem_singleton.mpr rfl, List.not_mem_nil, hx, hy⟩
end
def letters10 : List Str := ["a", "b", "c", "d", "e", "f", "g", "h", "i", "j"]
def bothG (ms : List Str) : List Gt := letters10.map fun c => (c, ms, if c = ("j" : Str) then ("wrap" : Str) else "open")
theorem both_names (ms : List Str) : (bothG ms).map (·.1) = letters10 := by
  unfold bothG
  rw [List.map_map]
  exact List.map_id _
theorem both_wraps (ms : List Str) : wrapsW (bothG ms) = [("j" : Str)] := by
  unfold wrapsW bothG letters10
  rfl
theorem both_gate {ms : List Str} {g : Gt} (h : g ∈ bothG ms) : g.1 ∈ letters10 ∧ g.2.1 = ms := by
  unfold bothG at h
  obtain ⟨c, hc, rfl⟩ := List.mem_map.mp h
  exact ⟨hc, rfl⟩
theorem both_cyc {x y : Str} (ne : x ≠ y) {g : Gt} (h : g ∈ bothG [x, y]) : CycW (bothG [x, y]) g 2 := by
  obtain ⟨h1, h2⟩ := both_gate h
  have other : ∃ c ∈ letters10, c ≠ g.1 := by
    by_cases e : g.1 = ("a" : Str)
    · exact ⟨"b", by decide +kernel, by rw [e]; decide +kernel⟩
    · exact ⟨"a", by decide +kernel, fun z => e z.symm⟩
  obtain ⟨c, hc, nc⟩ := other
  have hg : ((c, [x, y], if c = ("j" : Str) then ("wrap" : Str) else "open") : Gt) ∈ bothG [x, y] := List.mem_map.mpr ⟨c, hc, rfl⟩
  refine ⟨x, by rw [h2]; simp, y, by rw [h2]; simp, ne.symm, _, SPath.go hg (fun z => nc (List.mem_singleton.mp z)) (by simp) (by simp) (.nil y), rfl⟩
theorem both_told {x y : Str} (ne : x ≠ y) : toldW (bothG [x, y]) [x, y] = toldD (some 2) [] ["j"] := by
  have W : Wds (bothG [x, y]) [x, y] := ⟨by rw [both_names]; decide +kernel, fun g hg z hz => by
    rw [(both_gate hg).2] at hz
    exact hz⟩
  have := told_all W (fun g hg => ⟨2, both_cyc ne hg⟩) (n := 2) (by
    have hj : (("j", [x, y], "wrap") : Gt) ∈ wrapsG (bothG [x, y]) := List.mem_filter.mpr ⟨List.mem_map.mpr ⟨"j", by decide +kernel, rfl⟩, decide_eq_true rfl⟩
    exact ⟨_, hj, both_cyc ne (List.mem_filter.mp hj).1⟩) fun g _ m w => two_way w
  rw [this, both_wraps]
theorem both_zones {x y : Str} (b : Bef x y) : zonesL (conB (bothG [x, y]) (wrapsW (bothG [x, y]))) [x, y] = [[x, y]] := by
  refine zones_one (List.pairwise_cons.mpr ⟨fun z hz => by rw [List.mem_singleton.mp hz]; exact b, List.pairwise_singleton ..⟩) (by simp) fun u hu v hv => conB_iff.mpr ?_
  rw [both_wraps]
  have hg : (("a", [x, y], "open") : Gt) ∈ bothG [x, y] := List.mem_map.mpr ⟨"a", by decide +kernel, rfl⟩
  exact Conn.refl.step ⟨_, hg, by show ("a" : Str) ∉ [("j" : Str)]; decide +kernel, hu, hv⟩
def threeG (x y z : Str) : List Gt := [("p", [x, y, z], "wrap"), ("q", [y, z], "open")]
theorem three_told {x y z : Str} (yz : y ≠ z) : toldW (threeG x y z) [x, y, z] = toldD (some 2) [] ["p"] := by
  have W : Wds (threeG x y z) [x, y, z] := ⟨by show [("p" : Str), "q"].Nodup; decide +kernel, fun g hg u hu => by
    unfold threeG at hg
    simp only [List.mem_cons, List.not_mem_nil, or_false] at hg
    rcases hg with rfl | rfl
    · exact hu
    · exact List.mem_cons_of_mem _ hu⟩
  have hp : (("p", [x, y, z], "wrap") : Gt) ∈ threeG x y z := by simp [threeG]
  have hq : (("q", [y, z], "open") : Gt) ∈ threeG x y z := by simp [threeG]
  have cp : CycW (threeG x y z) ("p", [x, y, z], "wrap") 2 := ⟨y, by simp, z, by simp, yz.symm, _, SPath.go hq (by dsimp only; decide +kernel) (by simp) (by simp) (.nil z), rfl⟩
  have cq : CycW (threeG x y z) ("q", [y, z], "open") 2 := ⟨y, by simp, z, by simp, yz.symm, _, SPath.go hp (by dsimp only; decide +kernel) (by simp) (by simp) (.nil z), rfl⟩
  refine told_all W (fun g hg => ?_) ⟨_, List.mem_filter.mpr ⟨hp, decide_eq_true rfl⟩, cp⟩ fun g _ m w => two_way w
  unfold threeG at hg
  simp only [List.mem_cons, List.not_mem_nil, or_false] at hg
  rcases hg with rfl | rfl
  · exact ⟨_, cp⟩
  · exact ⟨_, cq⟩
theorem Bef.asymm {x y : Str} (h : Bef x y) (k : Bef y x) : False := (h.trans k).ne rfl
theorem three_zones {x y z : Str} (xy : Bef x y) (yz : Bef y z) : zonesL (conB (threeG x y z) (wrapsW (threeG x y z))) [x, y, z] = [[x], [y, z]] := by
  have xz := xy.trans yz
  have ew : wrapsW (threeG x y z) = [("p" : Str)] := rfl
  rw [ew]
  have hq : (("q", [y, z], "open") : Gt) ∈ threeG x y z := by simp [threeG]
  have no : ∀ u, Conn (threeG x y z) ["p"] x u → u = x := fun u h => by
    refine List.mem_singleton.mp (closed_conn (ks := [x]) (List.mem_singleton.mpr rfl) (fun k hk v ad => ?_) h)
    rw [List.mem_singleton.mp hk] at ad
    obtain ⟨g, hg, nb, h1, h2⟩ := ad
    unfold threeG at hg
    simp only [List.mem_cons, List.not_mem_nil, or_false] at hg
    rcases hg with rfl | rfl
    · exact absurd (List.mem_singleton.mpr rfl) nb
    · simp only [List.mem_cons, List.not_mem_nil, or_false] at h1
      rcases h1 with e | e
      · exact absurd e xy.ne
      · exact absurd e xz.ne
  generalize hR : conB (threeG x y z) ["p"] = R
  have E : EqvB R := hR ▸ conB_eqv _ _
  have rx : ∀ u, R x u = true → u = x := fun u h => no u (conB_iff.mp (by rw [hR]; exact h))
  have rxx : R x x = true := by rw [← hR]; exact conB_iff.mpr .refl
  have ryz : R y z = true := by rw [← hR]; exact conB_iff.mpr (Conn.refl.step ⟨_, hq, (by dsimp only; decide +kernel), by simp, by simp⟩)
  have rzy : R z y = true := by rw [← hR]; exact conB_iff.mpr (Conn.refl.step ⟨_, hq, (by dsimp only; decide +kernel), by simp, by simp⟩)
  have ryy : R y y = true := by rw [← hR]; exact conB_iff.mpr .refl
  have rxy : R x y = false := by
    cases e : R x y with
    | false => rfl
    | true => exact absurd (rx y e).symm xy.ne
  have rxz : R x z = false := by
    cases e : R x z with
    | false => rfl
    | true => exact absurd (rx z e).symm xz.ne
  have ryx : R y x = false := by
    cases e : R y x with
    | false => rfl
    | true =>
      rw [← hR] at e
      exact absurd (no y (conB_iff.mp e).symm).symm xy.ne
  have hx : headB R [x, y, z] x = true := headB_iff.mpr fun u hu h b => by
    rw [rx u h] at b
    exact b.ne rfl
  have hy : headB R [x, y, z] y = true := headB_iff.mpr fun u hu h b => by
    simp only [List.mem_cons, List.not_mem_nil, or_false] at hu
    rcases hu with rfl | rfl | rfl
    · rw [ryx] at h
      cases h
    · exact b.ne rfl
    · exact b.asymm yz
  have hz : headB R [x, y, z] z ≠ true := fun h => headB_iff.mp h y (by simp) rzy yz
  unfold zonesL headsL
  rw [List.filter_cons, if_pos hx, List.filter_cons, if_pos hy, List.filter_cons, if_neg hz, List.filter_nil]
  unfold zoneL
  simp [rxx, rxy, rxz, ryx, ryy, ryz]
def sharedG (x y z u : Str) : List Gt := [("m", [x, y, z, u], "wrap"), ("n", [x, y], "open"), ("o", [z, u], "wrap")]
theorem shared_told {x y z u : Str} (xy : x ≠ y) (zu : z ≠ u) : toldW (sharedG x y z u) [x, y, z, u] = toldD (some 2) [] ["m", "o"] := by
  have W : Wds (sharedG x y z u) [x, y, z, u] := ⟨by show [("m" : Str), "n", "o"].Nodup; decide +kernel, fun g hg v hv => by
    unfold sharedG at hg
    simp only [List.mem_cons, List.not_mem_nil, or_false] at hg
    rcases hg with rfl | rfl | rfl <;> simp only [List.mem_cons, List.not_mem_nil, or_false] at hv ⊢
    · exact hv
    · rcases hv with h | h <;> simp [h]
    · rcases hv with h | h <;> simp [h]⟩
  have hm : (("m", [x, y, z, u], "wrap") : Gt) ∈ sharedG x y z u := by simp [sharedG]
  have hn : (("n", [x, y], "open") : Gt) ∈ sharedG x y z u := by simp [sharedG]
  have cm : CycW (sharedG x y z u) ("m", [x, y, z, u], "wrap") 2 := ⟨x, by simp, y, by simp, xy.symm, _, SPath.go hn (by dsimp only; decide +kernel) (by simp) (by simp) (.nil y), rfl⟩
  have cn : CycW (sharedG x y z u) ("n", [x, y], "open") 2 := ⟨x, by simp, y, by simp, xy.symm, _, SPath.go hm (by dsimp only; decide +kernel) (by simp) (by simp) (.nil y), rfl⟩
  have co : CycW (sharedG x y z u) ("o", [z, u], "wrap") 2 := ⟨z, by simp, u, by simp, zu.symm, _, SPath.go hm (by dsimp only; decide +kernel) (by simp) (by simp) (.nil u), rfl⟩
  refine told_all W (fun g hg => ?_) ⟨_, List.mem_filter.mpr ⟨hm, decide_eq_true rfl⟩, cm⟩ fun g _ m w => two_way w
  unfold sharedG at hg
  simp only [List.mem_cons, List.not_mem_nil, or_false] at hg
  rcases hg with rfl | rfl | rfl
  · exact ⟨_, cm⟩
  · exact ⟨_, cn⟩
  · exact ⟨_, co⟩
def eightG (n0 n1 n2 n3 n4 n5 : Str) : List Gt := [("a", [n0, n1], "open"), ("b", [n1, n2], "open"), ("c", [n0, n2], "open"), ("d", [n2, n3], "open"), ("e", [n3, n4], "wrap"), ("f", [n4, n5], "open"), ("g", [n2, n5], "open")]
theorem eight_told {n0 n1 n2 n3 n4 n5 : Str} {rs : List Str} (nd : [n0, n1, n2, n3, n4, n5].Nodup) (sub : ∀ x ∈ [n0, n1, n2, n3, n4, n5], x ∈ rs) : toldW (eightG n0 n1 n2 n3 n4 n5) rs = toldD (some 4) [] ["e"] := by
  have W : Wds (eightG n0 n1 n2 n3 n4 n5) rs := ⟨by show [("a" : Str), "b", "c", "d", "e", "f", "g"].Nodup; decide +kernel, fun g hg v hv => sub v (by
    unfold eightG at hg
    simp only [List.mem_cons, List.not_mem_nil, or_false] at hg
    rcases hg with rfl | rfl | rfl | rfl | rfl | rfl | rfl <;> simp only [List.mem_cons, List.not_mem_nil, or_false] at hv ⊢ <;> rcases hv with h | h <;> simp [h])⟩
  simp only [List.nodup_cons, List.mem_cons, List.not_mem_nil, or_false, not_or, not_false_eq_true, List.nodup_nil, and_true] at nd
  obtain ⟨⟨d01, d02, d03, d04, d05⟩, ⟨d12, d13, d14, d15⟩, ⟨d23, d24, d25⟩, ⟨d34, d35⟩, d45⟩ := nd
  have ha : (("a", [n0, n1], "open") : Gt) ∈ eightG n0 n1 n2 n3 n4 n5 := by simp [eightG]
  have hb : (("b", [n1, n2], "open") : Gt) ∈ eightG n0 n1 n2 n3 n4 n5 := by simp [eightG]
  have hc : (("c", [n0, n2], "open") : Gt) ∈ eightG n0 n1 n2 n3 n4 n5 := by simp [eightG]
  have hd : (("d", [n2, n3], "open") : Gt) ∈ eightG n0 n1 n2 n3 n4 n5 := by simp [eightG]
  have he : (("e", [n3, n4], "wrap") : Gt) ∈ eightG n0 n1 n2 n3 n4 n5 := by simp [eightG]
  have hf : (("f", [n4, n5], "open") : Gt) ∈ eightG n0 n1 n2 n3 n4 n5 := by simp [eightG]
  have hg : (("g", [n2, n5], "open") : Gt) ∈ eightG n0 n1 n2 n3 n4 n5 := by simp [eightG]
  have ce : CycW (eightG n0 n1 n2 n3 n4 n5) ("e", [n3, n4], "wrap") 4 := ⟨n3, by simp, n4, by simp, Ne.symm d34, _,
    SPath.go hd (by dsimp only; decide +kernel) (by simp) (z := n2) (by simp) (SPath.go hg (by dsimp only; decide +kernel) (by simp) (z := n5) (by simp) (SPath.go hf (by dsimp only; decide +kernel) (by simp) (by simp) (.nil n4))), rfl⟩
  refine told_all W (fun g hgm => ?_) ⟨_, List.mem_filter.mpr ⟨he, decide_eq_true rfl⟩, ce⟩ fun g hgm m w => ?_
  · unfold eightG at hgm
    simp only [List.mem_cons, List.not_mem_nil, or_false] at hgm
    rcases hgm with rfl | rfl | rfl | rfl | rfl | rfl | rfl
    · exact ⟨_, n0, by simp, n1, by simp, Ne.symm d01, _, SPath.go hc (by dsimp only; decide +kernel) (by simp) (z := n2) (by simp) (SPath.go hb (by dsimp only; decide +kernel) (by simp) (by simp) (.nil n1)), rfl⟩
    · exact ⟨_, n1, by simp, n2, by simp, Ne.symm d12, _, SPath.go ha (by dsimp only; decide +kernel) (by simp) (z := n0) (by simp) (SPath.go hc (by dsimp only; decide +kernel) (by simp) (by simp) (.nil n2)), rfl⟩
    · exact ⟨_, n0, by simp, n2, by simp, Ne.symm d02, _, SPath.go ha (by dsimp only; decide +kernel) (by simp) (z := n1) (by simp) (SPath.go hb (by dsimp only; decide +kernel) (by simp) (by simp) (.nil n2)), rfl⟩
    · exact ⟨_, n2, by simp, n3, by simp, Ne.symm d23, _, SPath.go hg (by dsimp only; decide +kernel) (by simp) (z := n5) (by simp) (SPath.go hf (by dsimp only; decide +kernel) (by simp) (z := n4) (by simp) (SPath.go he (by dsimp only; decide +kernel) (by simp) (by simp) (.nil n3))), rfl⟩
    · exact ⟨_, ce⟩
    · exact ⟨_, n4, by simp, n5, by simp, Ne.symm d45, _, SPath.go he (by dsimp only; decide +kernel) (by simp) (z := n3) (by simp) (SPath.go hd (by dsimp only; decide +kernel) (by simp) (z := n2) (by simp) (SPath.go hg (by dsimp only; decide +kernel) (by simp) (by simp) (.nil n5))), rfl⟩
    · exact ⟨_, n2, by simp, n5, by simp, Ne.symm d25, _, SPath.go hd (by dsimp only; decide +kernel) (by simp) (z := n3) (by simp) (SPath.go he (by dsimp only; decide +kernel) (by simp) (z := n4) (by simp) (SPath.go hf (by dsimp only; decide +kernel) (by simp) (by simp) (.nil n5))), rfl⟩
  · have eg : g = (("e", [n3, n4], "wrap") : Gt) := by
      obtain ⟨h1, h2⟩ := List.mem_filter.mp hgm
      have h2 := of_decide_eq_true h2
      unfold eightG at h1
      simp only [List.mem_cons, List.not_mem_nil, or_false] at h1
      rcases h1 with rfl | rfl | rfl | rfl | rfl | rfl | rfl
      · exact absurd h2 open_wrap
      · exact absurd h2 open_wrap
      · exact absurd h2 open_wrap
      · exact absurd h2 open_wrap
      · rfl
      · exact absurd h2 open_wrap
      · exact absurd h2 open_wrap
    subst eg
    obtain ⟨φ, p0, p1, p2, p3, p4, p5⟩ : ∃ φ : Str → Nat, φ n0 = 1 ∧ φ n1 = 1 ∧ φ n2 = 1 ∧ φ n3 = 0 ∧ φ n4 = 3 ∧ φ n5 = 2 :=
      ⟨fun v => if v = n3 then 0 else if v = n5 then 2 else if v = n4 then 3 else 1, by simp [d03, d05, d04], by simp [d13, d15, d14], by simp [d23, d25, d24], by simp, by simp [Ne.symm d34, d45], by simp [Ne.symm d35]⟩
    refine far_way φ 3 (fun g' hg' ne x hx z hz => ?_) (fun a ha' b hb' ne => ?_) w
    · unfold eightG at hg'
      simp only [List.mem_cons, List.not_mem_nil, or_false] at hg'
      rcases hg' with rfl | rfl | rfl | rfl | rfl | rfl | rfl
      case inr.inr.inr.inr.inl => exact absurd rfl ne
      all_goals
        simp only [List.mem_cons, List.not_mem_nil, or_false] at hx hz
        rcases hx with rfl | rfl <;> rcases hz with rfl | rfl <;> omega
    · simp only [List.mem_cons, List.not_mem_nil, or_false] at ha' hb'
      rcases ha' with rfl | rfl <;> rcases hb' with rfl | rfl
      · exact absurd rfl ne
      · left
        omega
      · right
        omega
      · exact absurd rfl ne
/-! ### these worlds are fine -/
theorem nmw : NmOk "wrap" := nm_of (by decide +kernel) (by decide +kernel)
theorem nmo : NmOk "open" := nm_of (by decide +kernel) (by decide +kernel)
theorem empty_fine {rs : List Str} (rl : rs.length ≤ 10) (ok : ∀ s ∈ rs, NmOk s) : WFine rs [] := ⟨rl, by simp, ok, List.nodup_nil, fun g hg => nomatch hg⟩
theorem star_fine {rs : List Str} {k : Str} (hk : NmOk k) (rl : rs.length ≤ 10) (ok : ∀ s ∈ rs, NmOk s) : WFine rs [("hub", rs, k)] := ⟨rl, by simp, ok, by simp, fun g hg => by
  rw [List.mem_singleton.mp hg]
  exact ⟨nm_of (by dsimp only; decide +kernel) (by dsimp only; decide +kernel), rl, fun y hy => hy, hk⟩⟩
theorem both_fine {ms : List Str} (rl : ms.length ≤ 10) (ok : ∀ s ∈ ms, NmOk s) : WFine ms (bothG ms) := ⟨rl, by
  have := congrArg List.length (both_names ms)
  rw [List.length_map] at this
  rw [this]
  decide, ok, by rw [both_names]; decide +kernel, fun g hg => by
  obtain ⟨h1, h2⟩ := both_gate hg
  have nm : ∀ c ∈ letters10, NmOk c := fun c hc => by
    simp only [letters10, List.mem_cons, List.not_mem_nil, or_false] at hc
    rcases hc with rfl | rfl | rfl | rfl | rfl | rfl | rfl | rfl | rfl | rfl <;> exact nm_of (by decide +kernel) (by decide +kernel)
  refine ⟨nm _ h1, by rw [h2]; exact rl, fun y hy => by rw [h2] at hy; exact hy, ?_⟩
  unfold bothG at hg
  obtain ⟨c, _, rfl⟩ := List.mem_map.mp hg
  show NmOk (if c = ("j" : Str) then ("wrap" : Str) else "open")
  split
  · exact nmw
  · exact nmo⟩
theorem three_fine {x y z : Str} (ok : ∀ s ∈ [x, y, z], NmOk s) : WFine [x, y, z] (threeG x y z) := ⟨by show 3 ≤ 10; decide, by show 2 ≤ 10; decide, ok, by show [("p" : Str), "q"].Nodup; decide +kernel, fun g hg => by
  unfold threeG at hg
  simp only [List.mem_cons, List.not_mem_nil, or_false] at hg
  rcases hg with rfl | rfl
  · exact ⟨nm_of (by dsimp only; decide +kernel) (by dsimp only; decide +kernel), by show 3 ≤ 10; decide, fun y hy => hy, nmw⟩
  · exact ⟨nm_of (by dsimp only; decide +kernel) (by dsimp only; decide +kernel), by show 2 ≤ 10; decide, fun y hy => List.mem_cons_of_mem _ hy, nmo⟩⟩
theorem shared_fine {x y z u : Str} (ok : ∀ s ∈ [x, y, z, u], NmOk s) : WFine [x, y, z, u] (sharedG x y z u) := ⟨by show 4 ≤ 10; decide, by show 3 ≤ 10; decide, ok, by show [("m" : Str), "n", "o"].Nodup; decide +kernel, fun g hg => by
  unfold sharedG at hg
  simp only [List.mem_cons, List.not_mem_nil, or_false] at hg
  rcases hg with rfl | rfl | rfl
  · exact ⟨nm_of (by dsimp only; decide +kernel) (by dsimp only; decide +kernel), by show 4 ≤ 10; decide, fun y hy => hy, nmw⟩
  · exact ⟨nm_of (by dsimp only; decide +kernel) (by dsimp only; decide +kernel), by show 2 ≤ 10; decide, fun v hv => by
      simp only [List.mem_cons, List.not_mem_nil, or_false] at hv ⊢
      rcases hv with h | h <;> simp [h], nmo⟩
  · exact ⟨nm_of (by dsimp only; decide +kernel) (by dsimp only; decide +kernel), by show 2 ≤ 10; decide, fun v hv => by
      simp only [List.mem_cons, List.not_mem_nil, or_false] at hv ⊢
      rcases hv with h | h <;> simp [h], nmw⟩⟩
theorem eight_fine {n0 n1 n2 n3 n4 n5 : Str} {rs : List Str} (rl : rs.length ≤ 10) (ok : ∀ s ∈ rs, NmOk s) (sub : ∀ x ∈ [n0, n1, n2, n3, n4, n5], x ∈ rs) : WFine rs (eightG n0 n1 n2 n3 n4 n5) := ⟨rl, by show 7 ≤ 10; decide, ok, by show [("a" : Str), "b", "c", "d", "e", "f", "g"].Nodup; decide +kernel, fun g hg => by
  unfold eightG at hg
  simp only [List.mem_cons, List.not_mem_nil, or_false] at hg
  rcases hg with rfl | rfl | rfl | rfl | rfl | rfl | rfl <;> refine ⟨nm_of (by dsimp only; decide +kernel) (by dsimp only; decide +kernel), by show 2 ≤ 10; decide, fun v hv => sub v ?_, by first | exact nmo | exact nmw⟩ <;> (simp only [List.mem_cons, List.not_mem_nil, or_false] at hv ⊢; rcases hv with h | h <;> simp [h])⟩
theorem ten_of {l : List Str} (h : l.length = 10) : ∃ n0 n1 n2 n3 n4 n5 n6 n7 n8 n9 : Str, l = [n0, n1, n2, n3, n4, n5, n6, n7, n8, n9] := by
  match l, h with
  | [n0, n1, n2, n3, n4, n5, n6, n7, n8, n9], _ => exact ⟨n0, n1, n2, n3, n4, n5, n6, n7, n8, n9, rfl⟩
theorem dp_tupsT {K : PySem.W.Frag} {H : Hp} : ∀ {ts : List Addr} {ls : List (List Str)}, TupsAt H ts ls → DpAll K H (ts.map V.ref) (ls.map tupD)
  | _, _, .nil => .nil
  | _, _, .cons h t => .cons (.tup (SqT.of h) (dp_strs _)) (dp_tupsT t)
theorem shaped_tupsT {ls : List (List Str)} (h : ∀ l ∈ ls, ∀ s ∈ l, PyData.strOk s = true) : SeqAt.shaped (.tuple (ls.map tupD)) = true := by
  obtain ⟨h1, h2⟩ := lay_tups ls h
  have h1 : PyData.canLayAll0 (ls.map tupD) = true := h1
  have h2 : PyData.depthAll (ls.map tupD) ≤ 1 := h2
  unfold SeqAt.shaped
  rw [PyData.canLay0, PyData.depth, h1]
  simp
  omega
end WT

set_option Elab.async false
set_option linter.all false
set_option maxRecDepth 100000
set_option maxHeartbeats 4000000
/-! the search through all paths, with a finer measure. -/
namespace WT
open PySem PySem.Spec PyProof.Rows L2
section
variable {gs : List Gt} {bar rs : List Str} {one other : Str}
def weighF (f : Nat → Nat) (D : Nat) (ls : List (List (Str × Str))) : Nat := (ls.map fun l => f (D - l.length)).sum
theorem weighF_app (f : Nat → Nat) (D : Nat) (a b : List (List (Str × Str))) : weighF f D (a ++ b) = weighF f D a + weighF f D b := by
  unfold weighF
  rw [List.map_append, List.sum_append]
theorem weighF_same (f : Nat → Nat) (D k : Nat) : ∀ ls : List (List (Str × Str)), (∀ l ∈ ls, l.length = k) → weighF f D ls = ls.length * f (D - k)
  | [], _ => by simp [weighF]
  | l :: ls, h => by
    have ih := weighF_same f D k ls fun x hx => h x (List.mem_cons_of_mem _ hx)
    unfold weighF at ih ⊢
    rw [List.map_cons, List.sum_cons, ih, h l List.mem_cons_self, List.length_cons, Nat.add_mul]
    omega
theorem weighF_ge (f : Nat → Nat) (hf : ∀ n, 0 < f n) (D : Nat) : ∀ ls : List (List (Str × Str)), ls.length ≤ weighF f D ls
  | [] => Nat.zero_le _
  | l :: ls => by
    have ih := weighF_ge f hf D ls
    have p : 0 < f (D - l.length) := hf _
    unfold weighF at ih ⊢
    rw [List.map_cons, List.sum_cons, List.length_cons]
    omega
/-- the search's state: what waits, what was found -/
structure SrchF (gs : List Gt) (bar rs : List Str) (one other : Str) (f : Nat → Nat) (D : Nat) (ls fs : List (List (Str × Str))) : Prop where
  wait : ∀ l ∈ ls, GoodP gs bar rs one l
  good : ∀ l ∈ fs, GoodP gs bar rs one l ∧ lastOf one l = other
  all : ∀ m, GoodP gs bar rs one m → lastOf one m = other → m ∈ fs ∨ ∃ l ∈ ls, ∃ r, m = l ++ r
  wt : fs.length + weighF f D ls ≤ f D
theorem SrchF.first (f : Nat → Nat) (D : Nat) : SrchF gs bar rs one other f D [[]] [] :=
  ⟨fun l hl => by rw [List.mem_singleton.mp hl]; exact .nil, fun l hl => (nomatch hl), fun m _ _ => .inr ⟨[], by simp, m, rfl⟩, by simp [weighF]⟩
theorem SrchF.take {f : Nat → Nat} {D : Nat} (hf : ∀ n, 0 < f n) {ls fs : List (List (Str × Str))} {l : List (Str × Str)} (h : SrchF gs bar rs one other f D (ls ++ [l]) fs) (e : lastOf one l = other) : SrchF gs bar rs one other f D ls (fs ++ [l]) := by
  have hl := h.wait l (by simp)
  refine ⟨fun k hk => h.wait k (by simp [hk]), fun k hk => ?_, fun m hm em => ?_, ?_⟩
  · rcases List.mem_append.mp hk with hk | hk
    · exact h.good k hk
    · rw [List.mem_singleton.mp hk]
      exact ⟨hl, e⟩
  · rcases h.all m hm em with q | ⟨k, hk, r, rfl⟩
    · exact .inl (List.mem_append_left _ q)
    · rcases List.mem_append.mp hk with hk | hk
      · exact .inr ⟨k, hk, r, rfl⟩
      · rw [List.mem_singleton.mp hk] at hm em ⊢
        rcases List.eq_nil_or_concat r with rfl | ⟨s, p, rfl⟩
        · exact .inl (by simp)
        · exfalso
          have r1 := hm.reg
          obtain ⟨n, z⟩ := p
          rw [List.concat_eq_append, ← List.append_assoc, lastOf_snoc] at em
          rw [List.concat_eq_append, ← List.append_assoc, List.map_append, ← List.cons_append] at r1
          have r2 := (List.nodup_append.mp r1).2.2
          have mem : lastOf one l ∈ one :: (l ++ s).map (·.2) := by
            unfold lastOf
            cases hl2 : l.map (·.2) with
            | nil => simp
            | cons a b =>
              rw [List.map_append, hl2]
              have : (a :: b).getLastD one ∈ a :: b := by
                rw [List.getLastD_cons]
                cases b with
                | nil => simp
                | cons c d =>
                  have : (c :: d).getLastD a ∈ c :: d := by
                    rw [List.getLastD_eq_getLast?, List.getLast?_eq_some_getLast (by simp)]
                    exact List.getLast_mem _
                  exact List.mem_cons_of_mem _ this
              exact List.mem_cons_of_mem _ (List.mem_append_left _ this)
          exact r2 _ mem z (by simp) (e.trans em.symm)
  · have w := h.wt
    rw [weighF_app] at w
    have g := weighF_ge f hf D [l]
    rw [List.length_append]
    simp only [List.length_cons, List.length_nil] at g ⊢
    omega
theorem SrchF.grow {f : Nat → Nat} {D : Nat} {ls fs : List (List (Str × Str))} {l : List (Str × Str)} (hm : ∀ g ∈ gs, ∀ z ∈ g.2.1, z ∈ rs) (hl : weighF f D (kids gs bar one l) < weighF f D [l]) (h : SrchF gs bar rs one other f D (ls ++ [l]) fs) (e : lastOf one l ≠ other) :
    SrchF gs bar rs one other f D (ls ++ kids gs bar one l) fs ∧ weighF f D (ls ++ kids gs bar one l) < weighF f D (ls ++ [l]) := by
  have lk := hl
  have hl := h.wait l (by simp)
  have lt : weighF f D (ls ++ kids gs bar one l) < weighF f D (ls ++ [l]) := by
    rw [weighF_app, weighF_app]
    omega
  refine ⟨⟨fun k hk => ?_, h.good, fun m hg em => ?_, ?_⟩, lt⟩
  · rcases List.mem_append.mp hk with hk | hk
    · exact h.wait k (by simp [hk])
    · exact (kids_good hm hl hk).1
  · rcases h.all m hg em with q | ⟨k, hk, r, rfl⟩
    · exact .inl q
    · rcases List.mem_append.mp hk with hk | hk
      · exact .inr ⟨k, List.mem_append_left _ hk, r, rfl⟩
      · rw [List.mem_singleton.mp hk] at hg em ⊢
        cases r with
        | nil =>
          rw [List.append_nil] at em
          exact absurd em e
        | cons p r =>
          obtain ⟨n, z⟩ := p
          exact .inr ⟨l ++ [(n, z)], List.mem_append_right _ (kids_has hg), r, by simp⟩
  · have := h.wt
    omega
theorem SrchF.done {f : Nat → Nat} {D : Nat} {fs : List (List (Str × Str))} (h : SrchF gs bar rs one other f D [] fs) : AllP gs bar rs one other fs ∧ fs.length ≤ f D := by
  refine ⟨⟨h.good, fun m hm em => ?_⟩, ?_⟩
  · rcases h.all m hm em with q | ⟨k, hk, _⟩
    · exact q
    · cases hk
  · have := h.wt
    omega
/-- two more steps for each gateway that is left -/
def fan : Nat → Nat
  | 0 => 1
  | r + 1 => 1 + 2 * (r + 1) * fan r
theorem fan_pos : ∀ n, 0 < fan n
  | 0 => Nat.one_pos
  | r + 1 => by
    unfold fan
    omega
theorem fan_le : ∀ {n : Nat}, n ≤ 7 → fan n ≤ 1063623
  | 0, _ => by decide
  | 1, _ => by decide
  | 2, _ => by decide
  | 3, _ => by decide
  | 4, _ => by decide
  | 5, _ => by decide
  | 6, _ => by decide
  | 7, _ => by decide
  | n + 8, h => by omega
theorem flat_filter {α β : Type} {g : α → List β} {p : α → Bool} {B : Nat} : ∀ {l : List α}, (∀ x ∈ l, (g x).length ≤ B) → (∀ x ∈ l, p x = false → g x = []) → (l.flatMap g).length ≤ (l.filter p).length * B
  | [], _, _ => by simp
  | x :: l, h, k => by
    have a := h x List.mem_cons_self
    have b := flat_filter (l := l) (fun y hy => h y (List.mem_cons_of_mem _ hy)) fun y hy => k y (List.mem_cons_of_mem _ hy)
    rw [List.flatMap_cons, List.length_append, List.filter_cons]
    by_cases c : p x = true
    · rw [if_pos c, List.length_cons, Nat.add_mul]
      omega
    · rw [if_neg c, k x List.mem_cons_self (Bool.eq_false_iff.mpr c)]
      simpa using b
/-- how many go on from a path, one gateway barred -/
theorem kids_fan {gx : Gt} {l : List (Str × Str)} (nd : (gs.map (·.1)).Nodup) (hx : gx ∈ gs) (hB : ∀ g ∈ gs, g.2.1.length ≤ 3) (h : GoodP gs [gx.1] rs one l) : (kids gs [gx.1] one l).length ≤ 2 * (gs.length - 1 - l.length) ∧ l.length ≤ gs.length - 1 := by
  obtain ⟨z, hz⟩ := h.path
  have nb : ∀ {x y : Str} {l : List (Str × Str)}, SPath gs [gx.1] x l y → ∀ n ∈ l.map (·.1), n ≠ gx.1 := fun h => by
    induction h with
    | nil => intro n hn; cases hn
    | cons st _ ih =>
      obtain ⟨g, hg, e, nb, _⟩ := st
      intro n hn
      rcases List.mem_cons.mp hn with e2 | hn
      · rw [e2]
        exact fun q => nb (by simpa using q)
      · exact ih n hn
  have ln := hz.names
  have nx := nb hz
  let p : Gt → Bool := fun g => decide (g.1 ∉ gx.1 :: l.map (·.1))
  have a : (kids gs [gx.1] one l).length ≤ (gs.filter p).length * 2 := flat_filter (fun g hg => kidsOf_len (B := 2) (hB g hg) l) fun g hg c => by
    unfold kidsOf
    refine if_neg fun ⟨_, c2, c3⟩ => ?_
    have : ¬ g.1 ∉ gx.1 :: l.map (·.1) := of_decide_eq_false c
    refine this fun q => ?_
    rcases List.mem_cons.mp q with q | q
    · exact c3 (by simpa using q)
    · exact c2 q
  have b : (gx.1 :: l.map (·.1) ++ (gs.filter p).map (·.1)).length ≤ (gs.map (·.1)).length := by
    refine nodup_le (List.nodup_append.mpr ⟨List.nodup_cons.mpr ⟨fun q => nx _ q rfl, h.gat⟩, ?_, fun u hu v hv e => ?_⟩) fun u hu => ?_
    · exact List.Nodup.sublist (List.filter_sublist.map _) nd
    · obtain ⟨g, hg, rfl⟩ := List.mem_map.mp hv
      have : g.1 ∉ gx.1 :: l.map (·.1) := of_decide_eq_true (List.mem_filter.mp hg).2
      exact this (e ▸ hu)
    · rcases List.mem_append.mp hu with hu | hu
      · rcases List.mem_cons.mp hu with rfl | hu
        · exact List.mem_map.mpr ⟨gx, hx, rfl⟩
        · exact ln u hu
      · obtain ⟨g, hg, rfl⟩ := List.mem_map.mp hu
        exact List.mem_map.mpr ⟨g, (List.mem_filter.mp hg).1, rfl⟩
  rw [List.length_append, List.length_cons, List.length_map, List.length_map, List.length_map] at b
  omega
theorem weigh_fan {gx : Gt} {l : List (Str × Str)} (nd : (gs.map (·.1)).Nodup) (hm : ∀ g ∈ gs, ∀ z ∈ g.2.1, z ∈ rs) (hx : gx ∈ gs) (hB : ∀ g ∈ gs, g.2.1.length ≤ 3) (h : GoodP gs [gx.1] rs one l) : weighF fan (gs.length - 1) (kids gs [gx.1] one l) < weighF fan (gs.length - 1) [l] := by
  obtain ⟨a, b⟩ := kids_fan nd hx hB h
  rw [weighF_same fan _ (l.length + 1) _ fun k hk => (kids_good hm h hk).2]
  have e : weighF fan (gs.length - 1) [l] = fan (gs.length - 1 - l.length) := by simp [weighF]
  rw [e]
  cases hr : gs.length - 1 - l.length with
  | zero =>
    rw [hr] at a
    have : (kids gs [gx.1] one l).length = 0 := by omega
    rw [this, Nat.zero_mul]
    exact fan_pos _
  | succ r =>
    rw [hr] at a
    rw [show gs.length - 1 - (l.length + 1) = r by omega]
    have := Nat.mul_le_mul_right (fan r) a
    rw [show fan (r + 1) = 1 + 2 * (r + 1) * fan r from rfl]
    omega
end
end WT

set_option Elab.async false
set_option linter.all false
set_option maxRecDepth 100000
set_option maxHeartbeats 4000000
/-! cycles as data; one more object apart. -/
namespace WT
open PySem PySem.Spec PyProof.Rows L2
/-- region and gateway in turn -/
def hops : Str → List (Str × Str) → List (Str × Str)
  | _, [] => []
  | one, (n, z) :: l => (one, n) :: hops z l
theorem hops_len : ∀ (l : List (Str × Str)) (one : Str), (hops one l).length = l.length
  | [], _ => rfl
  | (n, z) :: l, one => by
    unfold hops
    rw [List.length_cons, hops_len l z]
    rfl
theorem hops_at : ∀ {l : List (Str × Str)} {one : Str} {m : Nat} {p : Str × Str}, (hops one l)[m]? = some p → (pathV one l)[2 * m]? = some (.str p.1) ∧ (pathV one l)[2 * m + 1]? = some (.str p.2)
  | [], _, m, p, h => by
    unfold hops at h
    simp at h
  | (n, z) :: l, one, 0, p, h => by
    unfold hops at h
    cases h
    rw [pathV_cons]
    exact ⟨rfl, rfl⟩
  | (n, z) :: l, one, m + 1, p, h => by
    unfold hops at h
    rw [List.getElem?_cons_succ] at h
    obtain ⟨a, b⟩ := hops_at h
    rw [pathV_cons, show 2 * (m + 1) = 2 * m + 1 + 1 by omega]
    exact ⟨a, b⟩
theorem hops_nm {l : List (Str × Str)} {one : Str} (h : ∀ s ∈ pathS one l, NmOk s) : ∀ p ∈ hops one l, NmOk p.1 ∧ NmOk p.2 := fun p hp => by
  obtain ⟨m, hm⟩ := List.mem_iff_getElem?.mp hp
  obtain ⟨a, b⟩ := hops_at hm
  rw [← pathS_V, List.getElem?_map] at a b
  obtain ⟨x, hx, ex⟩ := Option.map_eq_some_iff.mp a
  obtain ⟨y, hy, ey⟩ := Option.map_eq_some_iff.mp b
  cases ex
  cases ey
  exact ⟨h _ (List.mem_of_getElem? hx), h _ (List.mem_of_getElem? hy)⟩
/-- a cycle's parts -/
structure CycS (ps : List (Str × Str)) : Prop where
  one : 1 ≤ ps.length
  few : ps.length ≤ 8
  nm : ∀ p ∈ ps, NmOk p.1 ∧ NmOk p.2
theorem duo_sm {p : Str × Str} (h : NmOk p.1 ∧ NmOk p.2) : Sm 18 1 (duoD p) := (strs_sm (ss := [p.1, p.2]) fun s hs => by
  have : s = p.1 ∨ s = p.2 := by simpa using hs
  rcases this with e | e
  · rw [e]
    exact h.1
  · rw [e]
    exact h.2).tup
theorem duos_sm : ∀ {ps : List (Str × Str)}, (∀ p ∈ ps, NmOk p.1 ∧ NmOk p.2) → SmA (19 * ps.length) 1 (ps.map duoD)
  | [], _ => .nil _ _
  | p :: ps, h => by
    have b := duos_sm (ps := ps) fun y hy => h y (List.mem_cons_of_mem _ hy)
    exact ((SmA.one (duo_sm (h p List.mem_cons_self))).app b).mono (by rw [List.length_cons]; omega) (Nat.le_refl _)
theorem CycS.sm {ps : List (Str × Str)} (h : CycS ps) : SmA 152 1 (ps.map duoD) := (duos_sm h.nm).mono (by have := h.few; omega) (Nat.le_refl _)
def plus (S : Addr → Bool) (F : Addr) : Addr → Bool := fun c => S c || decide (c = F)
section
variable {K : PySem.W.Frag} {S : Addr → Bool} {a F : Addr} {H : Hp}
theorem plus_l (h : S a = true) : plus S F a = true := by
  unfold plus
  rw [h]
  rfl
theorem plus_r : plus S F F = true := by
  unfold plus
  simp
theorem plus_no {p : Addr} (h1 : S p = false) (h2 : p ≠ F) : plus S F p = false := by
  unfold plus
  simp [h1, h2]
theorem plus_live {o : HO} (l : Live S H) (h : H F = some o) : Live (plus S F) H := fun b hb => by
  unfold plus at hb
  have : S b = true ∨ b = F := by simpa using hb
  rcases this with e | e
  · exact l b e
  · rw [e, h]
    exact fun z => nomatch z
theorem plus_less : Same (del (plus S F) H) (del S H) := fun b o h => by
  unfold del at h ⊢
  by_cases c : S b = true
  · rw [if_pos (by unfold plus; rw [c]; rfl)] at h
    cases h
  · rw [if_neg c]
    split at h
    · cases h
    · exact h
theorem Off.less {x : V} {e : PyData} (h : Off K (plus S F) H x e) : Off K S H x e := Dt.same plus_less h
theorem dt_duo {u : Addr} {p : Str × Str} (n : S u = false) (h : H u = some (.tup [.str p.1, .str p.2])) : Off K S H (.ref u) (duoD p) := .tup (SqT.of (del_at n h)) (.cons (.str _) (.cons (.str _) .nil))
/-- pairs of texts, those objects apart -/
def Duos (S : Addr → Bool) (H : Hp) : List Addr → List (Str × Str) → Prop := Paired fun u p => S u = false ∧ H u = some (.tup [.str p.1, .str p.2])
theorem Duos.all : ∀ {us : List Addr} {ps : List (Str × Str)}, Duos S H us ps → DtAll K (del S H) (us.map V.ref) (ps.map duoD)
  | _, _, .nil => .nil
  | _, _, .cons h t => .cons (dt_duo h.1 h.2) (Duos.all t)
end
end WT

set_option Elab.async false
set_option linter.all false
set_option maxRecDepth 100000
set_option maxHeartbeats 1000000
/-! written values of any depth, dicts among them; data that repr can show, by weight and depth. -/
namespace WT
open PySem PySem.Spec PyProof.Rows L2
/-- data that repr can show, of at most that weight and depth -/
structure Wf (W D : Nat) (d : PyData) : Prop where
  sh : d.showable = true
  sm : d.leavesShort 40 = true
  wt : d.weight ≤ W
  de : d.depth ≤ D
structure WfA (W D : Nat) (ds : List PyData) : Prop where
  ok : ∀ d ∈ ds, d.showable = true ∧ d.leavesShort 40 = true
  wt : PyData.weightAll ds ≤ W
  de : PyData.depthAll ds ≤ D
theorem Wf.mono {W D W' D' : Nat} {d : PyData} (h : Wf W D d) (h1 : W ≤ W') (h2 : D ≤ D') : Wf W' D' d := ⟨h.sh, h.sm, Nat.le_trans h.wt h1, Nat.le_trans h.de h2⟩
theorem WfA.mono {W D W' D' : Nat} {ds : List PyData} (h : WfA W D ds) (h1 : W ≤ W') (h2 : D ≤ D') : WfA W' D' ds := ⟨h.ok, Nat.le_trans h.wt h1, Nat.le_trans h.de h2⟩
theorem Wf.fit {W D : Nat} {d : PyData} (h : Wf W D d) : Fit D (42 * W + 40) d := ⟨h.sh, h.de, Nat.le_trans (PyData.shown_le 40 (by decide) d h.sm) (by have := h.wt; omega)⟩
theorem Sm.wf {W D : Nat} {d : PyData} (h : Sm W D d) : Wf W D d := ⟨h.nr.short.1, h.nr.short.2, h.wt, h.de⟩
theorem SmA.wf {W D : Nat} {ds : List PyData} (h : SmA W D ds) : WfA W D ds := ⟨fun d hd => (h.nr d hd).short, h.wt, h.de⟩
theorem WfA.tup {W D : Nat} {ds : List PyData} (h : WfA W D ds) : Wf W (D + 1) (.tuple ds) := by
  obtain ⟨a, b⟩ := short_all h.ok
  exact ⟨by rw [PyData.showable]; exact a, by rw [PyData.leavesShort]; exact b, by rw [PyData.weight]; exact h.wt, by rw [PyData.depth]; have := h.de; omega⟩
theorem WfA.lst {W D : Nat} {ds : List PyData} (h : WfA W D ds) : Wf W (D + 1) (.list ds) := by
  obtain ⟨a, b⟩ := short_all h.ok
  exact ⟨by rw [PyData.showable]; exact a, by rw [PyData.leavesShort]; exact b, by rw [PyData.weight]; exact h.wt, by rw [PyData.depth]; have := h.de; omega⟩
theorem WfA.nil (W D : Nat) : WfA W D [] := ⟨fun _ h => absurd h List.not_mem_nil, by rw [w_nil]; exact Nat.zero_le _, by rw [d_nil]; exact Nat.zero_le _⟩
theorem WfA.one {W D : Nat} {d : PyData} (h : Wf W D d) : WfA (W + 1) D [d] := by
  refine ⟨fun x hx => ?_, ?_, ?_⟩
  · rw [List.mem_singleton.mp hx]
    exact ⟨h.sh, h.sm⟩
  · rw [w_cons, w_nil]
    have := h.wt
    omega
  · rw [d_cons, d_nil]
    have := h.de
    omega
theorem WfA.app {W D W' : Nat} {a b : List PyData} (h : WfA W D a) (k : WfA W' D b) : WfA (W + W') D (a ++ b) :=
  ⟨fun d hd => (List.mem_append.mp hd).elim (h.ok d) (k.ok d), by rw [w_app]; have := h.wt; have := k.wt; omega, by rw [d_app]; have := h.de; have := k.de; omega⟩
theorem Wf.dict {W D : Nat} {d : PyData} {k : Str} (h : Wf W D d) (hk : Asc k) : Wf (W + k.cps.size + 2) (D + 1) (.dict [(.str k, d)]) := by
  refine ⟨?_, ?_, ?_, ?_⟩
  · rw [PyData.showable, PyData.showableKv, h.sh, PyData.showable, PyData.showableKv]
    rfl
  · rw [PyData.leavesShort, PyData.leavesShortKv, h.sm, PyData.leavesShortKv, (Nr.short (.str k hk)).2]
    rfl
  · rw [PyData.weight, PyData.weightKv, PyData.weightKv, PyData.weight]
    have := h.wt
    omega
  · rw [PyData.depth, PyData.depthKv, PyData.depthKv, PyData.depth]
    have := h.de
    omega
theorem w_take (n : Nat) (ds : List PyData) : PyData.weightAll (ds.take n) + PyData.weightAll (ds.drop n) = PyData.weightAll ds := by
  rw [← w_app, List.take_append_drop]
theorem d_take (n : Nat) (ds : List PyData) : max (PyData.depthAll (ds.take n)) (PyData.depthAll (ds.drop n)) = PyData.depthAll ds := by
  rw [← d_app, List.take_append_drop]
theorem WfA.take {W D : Nat} {a : List PyData} (h : WfA W D a) (n : Nat) : WfA W D (a.take n) := ⟨fun d hd => h.ok d (List.mem_of_mem_take hd), by have := w_take n a; have := h.wt; omega, by have := d_take n a; have := h.de; omega⟩
theorem WfA.drop {W D : Nat} {a : List PyData} (h : WfA W D a) (n : Nat) : WfA W D (a.drop n) := ⟨fun d hd => h.ok d (List.mem_of_mem_drop hd), by have := w_take n a; have := h.wt; omega, by have := d_take n a; have := h.de; omega⟩
theorem WfA.rev {W D : Nat} {a : List PyData} (h : WfA W D a) : WfA W D a.reverse := ⟨fun d hd => h.ok d (List.mem_reverse.mp hd), by rw [w_rev]; exact h.wt, by rw [d_rev]; exact h.de⟩
/-- texts and tuples of such -/
inductive Tx : PyData → Prop
  | str (s : Str) (h : Asc s) : Tx (.str s)
  | tup (ds : List PyData) (h : ∀ d ∈ ds, Tx d) : Tx (.tuple ds)
theorem Tx.nr {d : PyData} (h : Tx d) : Nr d := by
  induction h with
  | str s h => exact .str s h
  | tup ds h ih => exact .tup ds ih
theorem tx_all {ds : List PyData} (h : ∀ d ∈ ds, Tx d) : WfA (PyData.weightAll ds) (PyData.depthAll ds) ds := ⟨fun d hd => (h d hd).nr.short, Nat.le_refl _, Nat.le_refl _⟩
/-- something else in it -/
def Bn (d e : PyData) : Prop := Wf (2 * d.weight + 200) (d.depth + 16) e
theorem bn_tup {ds es : List PyData} (h : WfA (2 * PyData.weightAll ds + 200) (PyData.depthAll ds + 16) es) : Bn (.tuple ds) (.tuple es) := h.tup.mono (by rw [PyData.weight]; exact Nat.le_refl _) (by rw [PyData.depth]; omega)
theorem WfA.put {W D C : Nat} {a : List PyData} {i : Nat} {d e : PyData} (h : WfA W D a) (hd : a[i]? = some d) (k : Wf (2 * d.weight + C) (d.depth + 16) e) : WfA (2 * W + C) (D + 16) (a.take i ++ [e] ++ a.drop (i + 1)) := by
  obtain ⟨hi, hd⟩ := List.getElem?_eq_some_iff.mp hd
  have s : a = a.take i ++ (d :: a.drop (i + 1)) := by
    rw [← hd, List.getElem_cons_drop, List.take_append_drop]
  have h2 := h
  rw [s] at h2
  obtain ⟨x, y, z⟩ := h2
  rw [w_app, w_cons] at y
  rw [d_app, d_cons] at z
  have kw := k.wt
  have kd := k.de
  refine ⟨fun q hq => ?_, ?_, ?_⟩
  · rw [List.append_assoc] at hq
    rcases List.mem_append.mp hq with hq | hq
    · exact x q (List.mem_append.mpr (.inl hq))
    · rcases List.mem_append.mp hq with hq | hq
      · rw [List.mem_singleton.mp hq]
        exact ⟨k.sh, k.sm⟩
      · exact x q (List.mem_append.mpr (.inr (List.mem_cons_of_mem _ hq)))
  · rw [w_app, w_app, w_cons, w_nil]
    omega
  · rw [d_app, d_app, d_cons, d_nil]
    omega
theorem seq_asg {t : TE} {g : TG} {u : L2.TS} {D : Ends} {σ : L2.St} {H : Hp} (h : t σ H fun v H1 => g v σ H1 (u D)) : tSeq (tAsg t g) u D σ H := h
theorem cons_hd {t : TE} {ts : TA} {σ : L2.St} {H : Hp} {Q : List V → Hp → Prop} (h : t σ H fun x H1 => ts σ H1 fun xs H2 => Q (x :: xs) H2) : tCons t ts σ H Q := h
section
variable {K : PySem.W.Frag} {S : Addr → Bool} {σ : L2.St} {H0 : Hp}
/-- an expression whose value is that data, whatever new objects there are -/
def Lit (K : PySem.W.Frag) (S : Addr → Bool) (σ : L2.St) (H0 : Hp) (t : TE) (d : PyData) : Prop := ∀ (H : Hp) (Q : VK), Same H0 H → (∀ H' x, Same H H' → Off K S H' x d → Q x H') → t σ H Q
def LitA (K : PySem.W.Frag) (S : Addr → Bool) (σ : L2.St) (H0 : Hp) (t : TA) (ds : List PyData) : Prop := ∀ (H : Hp) (Q : List V → Hp → Prop), Same H0 H → (∀ H' xs, Same H H' → DtAll K (del S H') xs ds → Q xs H') → t σ H Q
theorem lit_str (s : Str) : Lit K S σ H0 (tC (.str s)) (.str s) := fun H Q _ k => k H _ (fun _ _ e => e) (.str _)
theorem lit_int (i : Int) : Lit K S σ H0 (tC (.int i)) (.int i) := fun H Q _ k => k H _ (fun _ _ e => e) (.int _)
theorem lit_bl (b : Bool) : Lit K S σ H0 (tC (.bl b)) (.bool b) := fun H Q _ k => k H _ (fun _ _ e => e) (.bl _)
theorem lit_non : Lit K S σ H0 (tC .non) .none := fun H Q _ k => k H _ (fun _ _ e => e) .non
theorem lit_var {i : Nat} {v : V} {d : PyData} (e : σ[i]? = some (some v)) (h : Off K S H0 v d) : Lit K S σ H0 (tVar i) d := fun H Q s k => ⟨v, e, k H _ (fun _ _ e => e) (h.same s)⟩
theorem lit_nil : LitA K S σ H0 tNil [] := fun H Q _ k => k H _ (fun _ _ e => e) .nil
theorem lit_cons {t : TE} {d : PyData} {ts : TA} {ds : List PyData} (h : Lit K S σ H0 t d) (k : LitA K S σ H0 ts ds) : LitA K S σ H0 (tCons t ts) (d :: ds) := fun H Q s q =>
  h H _ s fun H1 x s1 o1 => k H1 _ (s.trans s1) fun H2 xs s2 o2 => q H2 _ (s1.trans s2) (.cons (Off.same o1 s2) o2)
theorem lit_tup {ts : TA} {ds : List PyData} (lv : Live S H0) (h : LitA K S σ H0 ts ds) (l : ds.length ≤ 4000 := by decide) : Lit K S σ H0 (tTup ts) (.tuple ds) := fun H Q s q =>
  h H _ s fun H1 xs s1 o1 => ⟨Nat.le_trans (by rw [DtAll.length o1]; exact l) (by decide), fun p np => q _ _ (s1.trans (same_new np)) (TupD.new (lv.same (s.trans s1)) np o1).off⟩
theorem lit_lst {ts : TA} {ds : List PyData} (lv : Live S H0) (h : LitA K S σ H0 ts ds) (l : ds.length ≤ 4000 := by decide) : Lit K S σ H0 (tLst ts) (.list ds) := fun H Q s q =>
  h H _ s fun H1 xs s1 o1 => ⟨Nat.le_trans (by rw [DtAll.length o1]; exact l) (by decide), fun p np => q _ _ (s1.trans (same_new np)) (off_lst (lv.same (s.trans s1)) np o1)⟩
theorem lit_dnew (lv : Live S H0) : Lit K S σ H0 tDNewK (.dict []) := fun H Q s q p np => q _ _ (same_new np) (off_dic (lv.same s) np)
/-- {k: variable} -/
theorem lit_disp {i : Nat} {v : V} {d : PyData} {k : Str} (lv : Live S H0) (e : σ[i]? = some (some v)) (h : Off K S H0 v d) : Lit K S σ H0 (tDisp [(tC (.str k), tVar i)]) (.dict [(.str k, d)]) := fun H Q s q p np => by
  refine ⟨v, e, upd_same, [(Sum.inr k, v)], rfl, (by show 1 ≤ 15; decide), q _ _ (fun c o ec => ?_) ?_⟩
  · rw [upd_ne (ne_of_none ec np), upd_ne (ne_of_none ec np)]
    exact ec
  · have nS : S p = false := (lv.same s).new np
    have z : Same H (upd (upd H p (.dK [])) p (.dK (mergeK [] [(Sum.inr k, v)]))) := fun c o ec => by
      rw [upd_ne (ne_of_none ec np), upd_ne (ne_of_none ec np)]
      exact ec
    have hv := h.same (s.trans z)
    exact .dic (kvs := [(Sum.inr k, v)]) (ds := [d]) (.inl (del_at nS upd_same)) (.cons hv .nil)
/-- a list of written values -/
theorem lit_list {ts : TA} {ds : List PyData} {H : Hp} {Q : VK} (h : LitA K S σ H0 ts ds) (lv : Live S H0) (s : Same H0 H) (l : ds.length ≤ 4000) (q : ∀ H' p xs, Same H H' → H p = none → H' p = some (.lst xs) → S p = false → DtAll K (del S H') xs ds → Q (.ref p) H') : tLst ts σ H Q :=
  h H _ s fun H1 xs s1 o1 => ⟨Nat.le_trans (by rw [DtAll.length o1]; exact l) (by decide), fun p np => q _ p xs (s1.trans (same_new np)) (s1.free np) upd_same ((lv.same (s.trans s1)).new np) (DtAll.same (del_same (same_new np)) o1)⟩
end
end WT

set_option Elab.async false
set_option linter.all false
set_option maxRecDepth 100000
set_option maxHeartbeats 1000000
/-! lists of values of a kind, made one by one by draws from the pot. -/
namespace WT
open PySem PySem.Spec PyProof.Rows L2
/-- only a -/
def sole (a : Addr) : Addr → Bool := fun c => decide (c = a)
theorem sole_at (a : Addr) : sole a a = true := decide_eq_true rfl
theorem sole_live {a : Addr} {H : Hp} {b : Nat} (h : PotAt H a b) : Live (sole a) H := fun c hc => by
  obtain ⟨_, _, _, e, _⟩ := h
  rw [of_decide_eq_true hc, e]
  exact fun z => nomatch z
theorem del_sole (a : Addr) (H : Hp) : But a H (del (sole a) H) := fun c o n h => del_at (decide_eq_false n) h
theorem world_off {K : PySem.W.Frag} {H : Hp} {a p r g : Addr} {as : List Addr} {rs : List Str} {gs : List Gt} {b : Nat} (h : WorldAt H p r g as rs gs) (k : PotAt H a b) : Off K (sole a) H (.ref p) (worldD rs gs) := WT.Dp.dt (dp_world (h.but k (del_sole a H)))
theorem off_plus {K : PySem.W.Frag} {S : Addr → Bool} {H : Hp} {N : Addr} {v : V} {d : PyData} (h : Off K S H v d) (n : H N = none) : Off K (plus S N) H v d := Dt.same (fun c o e => by
  unfold del at e ⊢
  split at e
  · cases e
  · rename_i z
    rw [if_neg fun k => ?_]
    · exact e
    · unfold plus at k
      rcases (Bool.or_eq_true _ _).mp k with k | k
      · exact z k
      · rw [of_decide_eq_true k, n] at e
        cases e) h
theorem but_upd {H H' : Hp} {a N : Addr} {o : HO} (h : But a H H') (n : H N = none) : But a H (upd H' N o) := fun c x nc e => by
  rw [upd_ne (ne_of_none e n)]
  exact h c x nc e
theorem pot_ne {H : Hp} {a N : Addr} {b : Nat} (h : PotAt H a b) (n : H N = none) : a ≠ N := by
  obtain ⟨p0, p1, p2, e, k⟩ := h
  exact ne_of_none e n
/-- values of a kind -/
def Vp (p : PyData → Prop) (K : PySem.W.Frag) (S : Addr → Bool) (H : Hp) (xs : List V) : Prop := ∀ x ∈ xs, ∃ e, Off K S H x e ∧ p e
section
variable {K : PySem.W.Frag} {S : Addr → Bool} {H H' : Hp} {a N : Addr} {xs ys : List V} {p q : PyData → Prop}
theorem Vp.but (h : Vp p K S H xs) (hS : S a = true) (b : But a H H') : Vp p K S H' xs := fun x hx => by
  obtain ⟨e, h1, h2⟩ := h x hx
  exact ⟨e, h1.but hS b, h2⟩
theorem Vp.same (h : Vp p K S H xs) (b : Same H H') : Vp p K S H' xs := fun x hx => by
  obtain ⟨e, h1, h2⟩ := h x hx
  exact ⟨e, h1.same b, h2⟩
theorem Vp.app (h : Vp p K S H xs) (k : Vp p K S H ys) : Vp p K S H (xs ++ ys) := fun y hy => (List.mem_append.mp hy).elim (h y) (k y)
theorem Vp.nil : Vp p K S H [] := fun x hx => absurd hx List.not_mem_nil
theorem Vp.one {x : V} {e : PyData} (h1 : Off K S H x e) (h2 : p e) : Vp p K S H [x] := fun y hy => by
  rw [List.mem_singleton.mp hy]
  exact ⟨e, h1, h2⟩
theorem Vp.minus (h : Vp p K (plus S N) H xs) : Vp p K S H xs := fun x hx => by
  obtain ⟨e, h1, h2⟩ := h x hx
  exact ⟨e, Dt.same plus_less h1, h2⟩
theorem Vp.plus (h : Vp p K S H xs) (n : H N = none) : Vp p K (plus S N) H xs := fun x hx => by
  obtain ⟨e, h1, h2⟩ := h x hx
  exact ⟨e, off_plus h1 n, h2⟩
theorem Vp.imp (h : Vp p K S H xs) (k : ∀ e, p e → q e) : Vp q K S H xs := fun x hx => by
  obtain ⟨e, h1, h2⟩ := h x hx
  exact ⟨e, h1, k e h2⟩
theorem Vp.sub (h : Vp p K S H xs) (k : ∀ y ∈ ys, y ∈ xs) : Vp p K S H ys := fun x hx => h x (k x hx)
theorem Vp.cons {x : V} {e : PyData} (h1 : Off K S H x e) (h2 : p e) (h : Vp p K S H xs) : Vp p K S H (x :: xs) := fun y hy => by
  rcases List.mem_cons.mp hy with rfl | hy
  · exact ⟨e, h1, h2⟩
  · exact h y hy
/-- as data, in order -/
theorem Vp.all : ∀ {xs : List V}, Vp p K S H xs → ∃ ds, DtAll K (del S H) xs ds ∧ ∀ d ∈ ds, p d
  | [], _ => ⟨[], .nil, fun d hd => absurd hd List.not_mem_nil⟩
  | x :: xs, h => by
    obtain ⟨e, h1, h2⟩ := h x List.mem_cons_self
    obtain ⟨ds, k1, k2⟩ := Vp.all (xs := xs) fun y hy => h y (List.mem_cons_of_mem _ hy)
    refine ⟨e :: ds, .cons h1 k1, fun d hd => ?_⟩
    rcases List.mem_cons.mp hd with rfl | hd
    · exact h2
    · exact k2 d hd
end
/-- a comprehension whose items are drawn one by one -/
theorem lc_grow {K : PySem.W.Frag} {J : It} {n : Nat} {G : Hp → Prop} {Y : Nat → Hp → V → Hp → Prop} (w : Walk J n G Y) {g : TG} {tt : L2.TT} {te : TE} {vs : List Nat} {σ : L2.St} {H1 : Hp} {D a : Addr} {Qd : Hp → Prop} (p : PyData → Prop) {b0 : Nat} (c : Nat) (hp : PotAt H1 a b0) (nD : H1 D = none) (hz : n ≤ 4000)
    (hG : ∀ H, But a H1 H → G H) (hY : ∀ j H v H', Y j H v H' → H' = H)
    (hs : ∀ (j : Nat) (v : V) (H2 : Hp) (b2 : Nat) (k : VK) (e : Hp → Prop), j < n → But a H1 H2 → PotAt H2 a b2 → b2 ≤ b0 + c * n → Live (plus (sole a) D) H2 → Y j H2 v H2 →
      (∀ H4 x e b4, But a H2 H4 → PotAt H4 a b4 → b4 ≤ b2 + c → Off K (plus (sole a) D) H4 x e → p e → k x H4) →
      g v (wipe σ vs) H2 fun σ2 H2 => wipe σ2 vs = wipe σ vs ∧ tt σ2 H2 fun t H3 => if t = true then te σ2 H3 k else e H3)
    (hd : ∀ H xs b', But a H1 H → PotAt H a b' → b' ≤ b0 + c * n → H D = some (.lst xs) → xs.length ≤ n → Vp p K (sole a) H xs → Qd H) :
    ∃ W : Nat → Nat → Hp → Prop, (∃ m, W 0 m (upd H1 D (.lst []))) ∧ ∀ i m H, W i m H →
      (J.stop i H ∧ Qd H) ∨ (J.go i H ∧ ∃ Nx : Hp → Prop, (∀ H', Nx H' → ∃ m', m' < m ∧ W (i + 1) m' H') ∧ ∀ x H', J.yld i H x H' → g x (wipe σ vs) H' fun σ2 H2 => wipe σ2 vs = wipe σ vs ∧ tt σ2 H2 fun b H3 =>
        if b = true then te σ2 H3 fun y H4 => ∃ acc, H4 D = some (.lst acc) ∧ acc.length < sizeLine ∧ Nx (upd H4 D (.lst (acc ++ [y]))) else Nx H3) := by
  have Da := pot_ne hp nD
  refine lc_it w (fun m H => But a H1 H ∧ (∃ b', PotAt H a b' ∧ b' ≤ b0 + c * m) ∧ m ≤ n ∧ ∃ xs, H D = some (.lst xs) ∧ xs.length ≤ m ∧ Vp p K (plus (sole a) D) H xs) ⟨but_upd (But.refl _ _) nD, ⟨b0, WT.pot_upd hp Da, by omega⟩, Nat.zero_le _, [], upd_same, Nat.le_refl _, Vp.nil⟩
    (fun _ H _ h => hG H h.1) (fun i x H H' hi hP hy => ?_) fun H hP => ?_
  · obtain ⟨bt, ⟨b', pt, hb⟩, hm, xs, hD, lx, vp⟩ := hP
    have e := hY i H x H' hy
    subst e
    have cn : c * i ≤ c * n := Nat.mul_le_mul_left c hm
    refine hs i x H' b' _ _ hi bt pt (by omega) (plus_live (sole_live pt) hD) hy fun H4 y e b4 bt4 pt4 hb4 oe pe => ?_
    have hD4 := bt4 _ _ (Ne.symm Da) hD
    refine ⟨xs, hD4, Nat.lt_of_le_of_lt (show xs.length ≤ 4000 by omega) (by decide), but_upd (bt.trans bt4) nD, ⟨b4, WT.pot_upd pt4 Da, by rw [Nat.mul_succ]; omega⟩, hi, _, upd_same, by rw [List.length_append, List.length_singleton]; omega, ?_⟩
    exact Vp.but ((vp.but (plus_l (sole_at a)) bt4).app (Vp.one oe pe)) plus_r But.upd
  · obtain ⟨bt, ⟨b', pt, hb⟩, hm, xs, hD, lx, vp⟩ := hP
    exact hd H xs b' bt pt hb hD lx vp.minus
/-- [x for x in xs if x is not None] -/
theorem lc_some {J : It} {n : Nat} {G : Hp → Prop} {Y : Nat → Hp → V → Hp → Prop} (w : Walk J n G Y) {g : TG} {tt : L2.TT} {te : TE} {vs : List Nat} {σ : L2.St} {H1 : Hp} {D : Addr} {Qd : Hp → Prop} (xs : List V) (nD : H1 D = none) (hz : n ≤ 4000)
    (hG : ∀ H, Same H1 H → G H) (hY : ∀ j H v H', Y j H v H' → H' = H ∧ xs[j]? = some v)
    (hs : ∀ (j : Nat) (v : V) (H2 : Hp) (k : VK) (e : Hp → Prop), xs[j]? = some v → Same H1 H2 → (v ≠ .non → k v H2) → (v = .non → e H2) →
      g v (wipe σ vs) H2 fun σ2 H2 => wipe σ2 vs = wipe σ vs ∧ tt σ2 H2 fun t H3 => if t = true then te σ2 H3 k else e H3)
    (hd : ∀ H ys, Same H1 H → H D = some (.lst ys) → ys.length ≤ n → (∀ y ∈ ys, y ∈ xs ∧ y ≠ .non) → Qd H) :
    ∃ W : Nat → Nat → Hp → Prop, (∃ m, W 0 m (upd H1 D (.lst []))) ∧ ∀ i m H, W i m H →
      (J.stop i H ∧ Qd H) ∨ (J.go i H ∧ ∃ Nx : Hp → Prop, (∀ H', Nx H' → ∃ m', m' < m ∧ W (i + 1) m' H') ∧ ∀ x H', J.yld i H x H' → g x (wipe σ vs) H' fun σ2 H2 => wipe σ2 vs = wipe σ vs ∧ tt σ2 H2 fun b H3 =>
        if b = true then te σ2 H3 fun y H4 => ∃ acc, H4 D = some (.lst acc) ∧ acc.length < sizeLine ∧ Nx (upd H4 D (.lst (acc ++ [y]))) else Nx H3) := by
  refine lc_it w (fun m H => Same H1 H ∧ m ≤ n ∧ ∃ ys, H D = some (.lst ys) ∧ ys.length ≤ m ∧ ∀ y ∈ ys, y ∈ xs ∧ y ≠ .non) ⟨same_new nD, Nat.zero_le _, [], upd_same, Nat.le_refl _, fun y hy => absurd hy List.not_mem_nil⟩
    (fun _ H _ h => hG H h.1) (fun i x H H' hi hP hy => ?_) fun H hP => ?_
  · obtain ⟨s, hm, ys, hD, ly, hin⟩ := hP
    obtain ⟨e, hx⟩ := hY i H x H' hy
    subst e
    refine hs i x H' _ _ hx s (fun nx => ?_) fun _ => ⟨s, hi, ys, hD, by omega, hin⟩
    refine ⟨ys, hD, Nat.lt_of_le_of_lt (show ys.length ≤ 4000 by omega) (by decide), fun c o ed => ?_, hi, _, upd_same, by rw [List.length_append, List.length_singleton]; omega, fun y hy => ?_⟩
    · rw [upd_ne (ne_of_none ed nD)]
      exact s _ _ ed
    · rcases List.mem_append.mp hy with hy | hy
      · exact hin y hy
      · rw [List.mem_singleton.mp hy]
        exact ⟨List.mem_of_getElem? hx, nx⟩
  · obtain ⟨s, hm, ys, hD, ly, hin⟩ := hP
    exact hd H ys s hD ly hin
end WT

set_option Elab.async false
set_option linter.all false
set_option maxRecDepth 100000
/-! a comprehension of new tuples of texts. -/
namespace WT
open PySem PySem.Spec PyProof.Rows L2
theorem tup_inj {l m : List Str} (h : tupD l = tupD m) : l = m := by
  injection h with h
  exact go h
where go : ∀ {l m : List Str}, l.map PyData.str = m.map PyData.str → l = m
  | [], [], _ => rfl
  | [], _ :: _, h => by cases h
  | _ :: _, [], h => by cases h
  | a :: l, b :: m, h => by
    obtain ⟨h1, h2⟩ := List.cons.inj h
    rw [PyData.str.inj h1, go h2]
theorem gate_eq {gs : List Gt} (nd : (gs.map (·.1)).Nodup) {g g2 : Gt} (hg : g ∈ gs) (h2 : g2 ∈ gs) (e2 : g.1 = g2.1) : g = g2 := by
  obtain ⟨i, hi, rfl⟩ := List.getElem_of_mem hg
  obtain ⟨j, hj, rfl⟩ := List.getElem_of_mem h2
  have q : i = j := by
    rcases Nat.lt_trichotomy i j with lt | e | lt
    · exact absurd e2 (List.pairwise_iff_getElem.mp (List.pairwise_map.mp nd) i j hi hj lt)
    · exact e
    · exact absurd e2.symm (List.pairwise_iff_getElem.mp (List.pairwise_map.mp nd) j i hj hi lt)
  subst q
  rfl
theorem lc_tups {J : It} {n : Nat} {G : Hp → Prop} {Y : Nat → Hp → V → Hp → Prop} (w : Walk J n G Y) {g : TG} {tt : L2.TT} {te : TE} {vs : List Nat} {σ : L2.St} {H1 : Hp} {D : Addr} {Qd : Hp → Prop} (ls : List (List Str)) (hl : ls.length = n) (hz : n ≤ 40001) (nD : H1 D = none) (hG : ∀ H, Same H1 H → G H)
    (hs : ∀ (i : Nat) (x : V) (l : List Str) (H2 H3 : Hp) (k : VK) (e : Hp → Prop), ls[i]? = some l → Same H1 H2 → Y i H2 x H3 → (∀ t H4, Same H2 H4 → H4 t = some (.tup (l.map V.str)) → k (.ref t) H4) →
      g x (wipe σ vs) H3 fun σ2 H2 => wipe σ2 vs = wipe σ vs ∧ tt σ2 H2 fun t H3 => if t = true then te σ2 H3 k else e H3)
    (hd : ∀ H ts, Same H1 H → H D = some (.lst (ts.map V.ref)) → TupsAt H ts ls → Qd H) :
    ∃ W : Nat → Nat → Hp → Prop, (∃ m, W 0 m (upd H1 D (.lst []))) ∧ ∀ i m H, W i m H →
      (J.stop i H ∧ Qd H) ∨ (J.go i H ∧ ∃ Nx : Hp → Prop, (∀ H', Nx H' → ∃ m', m' < m ∧ W (i + 1) m' H') ∧ ∀ x H', J.yld i H x H' → g x (wipe σ vs) H' fun σ2 H2 => wipe σ2 vs = wipe σ vs ∧ tt σ2 H2 fun b H3 =>
        if b = true then te σ2 H3 fun y H4 => ∃ acc, H4 D = some (.lst acc) ∧ acc.length < sizeLine ∧ Nx (upd H4 D (.lst (acc ++ [y]))) else Nx H3) := by
  refine lc_it w (fun m H => Same H1 H ∧ ∃ ts : List Addr, H D = some (.lst (ts.map V.ref)) ∧ TupsAt H ts (ls.take m)) ⟨same_new nD, [], upd_same, .nil⟩ (fun _ H _ h => hG H h.1) (fun i x H H' hi hP hy => ?_) fun H hP => ?_
  · obtain ⟨s2, ts, hD, hp⟩ := hP
    have hb : ls[i]? = some (ls[i]'(by omega)) := List.getElem?_eq_getElem _
    refine hs i x _ H H' _ _ hb s2 hy fun t H4 s4 ht => ⟨_, s4 _ _ hD, ?_, fun c o ed => ?_, ts ++ [t], ?_, ?_⟩
    · have := Paired.length hp
      rw [List.length_take] at this
      rw [List.length_map]
      exact Nat.lt_of_le_of_lt (show ts.length ≤ 50000 by omega) (by decide)
    · rw [upd_ne (ne_of_none ed nD)]
      exact s4 _ _ (s2 _ _ ed)
    · rw [upd_same, List.map_append]
      rfl
    · have keep : ∀ (c : Addr) (xs : List V) (o : HO), H4 c = some (.tup xs) → upd H4 D o c = some (.tup xs) := fun c xs o e => by
        rw [upd_ne (ne_of e (s4 _ _ hD) (by intro z; cases z))]
        exact e
      rw [List.take_add_one, hb]
      exact pair_snoc (Paired.mapP hp fun a b z => keep _ _ _ (s4 _ _ z)) (keep _ _ _ ht)
  · obtain ⟨s2, ts, hD, hp⟩ := hP
    rw [← hl, List.take_length] at hp
    exact hd H ts s2 hD hp
theorem lc_gatesP {J : It} {n : Nat} {G : Hp → Prop} {Y : Nat → Hp → V → Hp → Prop} (w : Walk J n G Y) {g : TG} {tt : L2.TT} {te : TE} {vs : List Nat} {σ : L2.St} {H1 : Hp} {D : Addr} {Qd : Hp → Prop} (p : Gt → Bool) (as : List Addr) (gs : List Gt) (pr : Paired (GateAt H1) as gs) (hl : gs.length = n) (nD : H1 D = none) (hz : n ≤ 4000)
    (hG : ∀ H, Same H1 H → G H) (hY : ∀ j H v H', Y j H v H' → H' = H ∧ (as.map V.ref)[j]? = some v)
    (hs : ∀ (j : Nat) (t ia : Addr) (gg : Gt) (H2 : Hp) (k : VK) (e : Hp → Prop), gg ∈ gs → Same H1 H2 → H2 t = some (.tup [.str gg.1, .ref ia, .str gg.2.2]) → H2 ia = some (.tup (gg.2.1.map V.str)) → (p gg = true → ∀ H4, Same H2 H4 → k (.ref t) H4) → (p gg = false → ∀ H4, Same H2 H4 → e H4) →
      g (.ref t) (wipe σ vs) H2 fun σ2 H2 => wipe σ2 vs = wipe σ vs ∧ tt σ2 H2 fun t H3 => if t = true then te σ2 H3 k else e H3)
    (hd : ∀ H bs, Same H1 H → H D = some (.lst (bs.map V.ref)) → Paired (GateAt H) bs (gs.filter p) → Qd H) :
    ∃ W : Nat → Nat → Hp → Prop, (∃ m, W 0 m (upd H1 D (.lst []))) ∧ ∀ i m H, W i m H →
      (J.stop i H ∧ Qd H) ∨ (J.go i H ∧ ∃ Nx : Hp → Prop, (∀ H', Nx H' → ∃ m', m' < m ∧ W (i + 1) m' H') ∧ ∀ x H', J.yld i H x H' → g x (wipe σ vs) H' fun σ2 H2 => wipe σ2 vs = wipe σ vs ∧ tt σ2 H2 fun b H3 =>
        if b = true then te σ2 H3 fun y H4 => ∃ acc, H4 D = some (.lst acc) ∧ acc.length < sizeLine ∧ Nx (upd H4 D (.lst (acc ++ [y]))) else Nx H3) := by
  refine lc_it w (fun m H => Same H1 H ∧ ∃ bs, H D = some (.lst (bs.map V.ref)) ∧ Paired (GateAt H) bs ((gs.take m).filter p)) ⟨same_new nD, [], upd_same, .nil⟩
    (fun _ H _ h => hG H h.1) (fun i x H H' hi hP hy => ?_) fun H hP => ?_
  · obtain ⟨s, bs, hD, pb⟩ := hP
    obtain ⟨e, hx⟩ := hY i H x H' hy
    subst e
    rw [List.getElem?_map] at hx
    obtain ⟨t, ht, rfl⟩ := Option.map_eq_some_iff.mp hx
    obtain ⟨gg, hgg, ia, e1, e2⟩ := pair_at (Paired.mapP pr fun _ _ z => z.same s) ht
    have hgm := List.mem_of_getElem? hgg
    have lb : bs.length ≤ i := by
      rw [Paired.length pb]
      exact Nat.le_trans (List.length_filter_le _ _) (by rw [List.length_take]; exact Nat.min_le_left _ _)
    have tk : ∀ b, p gg = b → (gs.take (i + 1)).filter p = (gs.take i).filter p ++ (if b = true then [gg] else []) := fun b eb => by
      rw [List.take_add_one, hgg, List.filter_append]
      cases b <;> simp [eb]
    refine hs i t ia gg H' _ _ hgm s e1 e2 (fun pt H4 s4 => ?_) fun pf H4 s4 => ⟨s.trans s4, bs, s4 _ _ hD, by rw [tk _ pf]; simpa using Paired.mapP pb fun _ _ z => z.same s4⟩
    have hD4 := s4 _ _ hD
    have keep : ∀ (c : Addr) (xs : List V) (o : HO), H4 c = some (.tup xs) → upd H4 D o c = some (.tup xs) := fun c xs o e => by
      rw [upd_ne (ne_of e hD4 (by intro z; cases z))]
      exact e
    refine ⟨_, hD4, by rw [List.length_map]; exact Nat.lt_of_le_of_lt (show bs.length ≤ 4000 by omega) (by decide), fun c o ed => ?_, bs ++ [t], by rw [upd_same, List.map_append]; rfl, ?_⟩
    · rw [upd_ne (ne_of_none ed nD)]
      exact s4 _ _ (s _ _ ed)
    · rw [tk _ pt, if_pos rfl]
      exact pair_snoc (Paired.mapP pb fun _ _ ⟨i, k1, k2⟩ => ⟨i, keep _ _ _ (s4 _ _ k1), keep _ _ _ (s4 _ _ k2)⟩) ⟨ia, keep _ _ _ (s4 _ _ e1), keep _ _ _ (s4 _ _ e2)⟩
  · obtain ⟨s, bs, hD, pb⟩ := hP
    rw [← hl, List.take_length] at pb
    exact hd H bs s hD pb
end WT

set_option Elab.async false
set_option linter.all false
set_option maxRecDepth 100000
/-! a comprehension of new gateways. -/
namespace WT
open PySem PySem.Spec PyProof.Rows L2
theorem lc_newG {J : It} {n : Nat} {G : Hp → Prop} {Y : Nat → Hp → V → Hp → Prop} (w : Walk J n G Y) {g : TG} {tt : L2.TT} {te : TE} {vs : List Nat} {σ : L2.St} {H1 : Hp} {D : Addr} {Qd : Hp → Prop} (gs : List Gt) (hl : gs.length = n) (hz : n ≤ 40001) (nD : H1 D = none) (hG : ∀ H, Same H1 H → G H)
    (hs : ∀ (i : Nat) (x : V) (g0 : Gt) (H2 H3 : Hp) (k : VK) (e : Hp → Prop), gs[i]? = some g0 → Same H1 H2 → Y i H2 x H3 → (∀ t H4, Same H2 H4 → GateAt H4 t g0 → k (.ref t) H4) →
      g x (wipe σ vs) H3 fun σ2 H2 => wipe σ2 vs = wipe σ vs ∧ tt σ2 H2 fun t H3 => if t = true then te σ2 H3 k else e H3)
    (hd : ∀ H ts, Same H1 H → H D = some (.lst (ts.map V.ref)) → Paired (GateAt H) ts gs → Qd H) :
    ∃ W : Nat → Nat → Hp → Prop, (∃ m, W 0 m (upd H1 D (.lst []))) ∧ ∀ i m H, W i m H →
      (J.stop i H ∧ Qd H) ∨ (J.go i H ∧ ∃ Nx : Hp → Prop, (∀ H', Nx H' → ∃ m', m' < m ∧ W (i + 1) m' H') ∧ ∀ x H', J.yld i H x H' → g x (wipe σ vs) H' fun σ2 H2 => wipe σ2 vs = wipe σ vs ∧ tt σ2 H2 fun b H3 =>
        if b = true then te σ2 H3 fun y H4 => ∃ acc, H4 D = some (.lst acc) ∧ acc.length < sizeLine ∧ Nx (upd H4 D (.lst (acc ++ [y]))) else Nx H3) := by
  refine lc_it w (fun m H => Same H1 H ∧ ∃ ts : List Addr, H D = some (.lst (ts.map V.ref)) ∧ Paired (GateAt H) ts (gs.take m)) ⟨same_new nD, [], upd_same, .nil⟩ (fun _ H _ h => hG H h.1) (fun i x H H' hi hP hy => ?_) fun H hP => ?_
  · obtain ⟨s2, ts, hD, hp⟩ := hP
    have hb : gs[i]? = some (gs[i]'(by omega)) := List.getElem?_eq_getElem _
    refine hs i x _ H H' _ _ hb s2 hy fun t H4 s4 ht => ⟨_, s4 _ _ hD, ?_, fun c o ed => ?_, ts ++ [t], ?_, ?_⟩
    · have := Paired.length hp
      rw [List.length_take] at this
      rw [List.length_map]
      exact Nat.lt_of_le_of_lt (show ts.length ≤ 50000 by omega) (by decide)
    · rw [upd_ne (ne_of_none ed nD)]
      exact s4 _ _ (s2 _ _ ed)
    · rw [upd_same, List.map_append]
      rfl
    · have keep : ∀ (c : Addr) (xs : List V) (o : HO), H4 c = some (.tup xs) → upd H4 D o c = some (.tup xs) := fun c xs o e => by
        rw [upd_ne (ne_of e (s4 _ _ hD) (by intro z; cases z))]
        exact e
      rw [List.take_add_one, hb]
      refine pair_snoc (Paired.mapP hp fun a b ⟨i, k1, k2⟩ => ⟨i, keep _ _ _ (s4 _ _ k1), keep _ _ _ (s4 _ _ k2)⟩) ?_
      obtain ⟨i, k1, k2⟩ := ht
      exact ⟨i, keep _ _ _ k1, keep _ _ _ k2⟩
  · obtain ⟨s2, ts, hD, hp⟩ := hP
    rw [← hl, List.take_length] at hp
    exact hd H ts s2 hD hp
theorem sl_tupK {X : Cx} {K : PySem.W.Frag} (hK : X.K = K := by rfl) : SlR X (rSlT K) := by
  subst hK
  exact sl_tup
end WT

set_option Elab.async false
set_option linter.all false
set_option maxRecDepth 100000
set_option maxHeartbeats 4000000
namespace K14
open PySem PySem.Spec PyProof.Rows L2 WT
abbrev st_others_right : Stmt := top 27
theorem sc_others_right : FnScope ["_law_hand_here", "_law_ten", "_law_star", "_law_both", "_law_three", "_law_first", "_law_second", "_law_eight", "_law_shared", "_law_letter", "_law_name", "_law_inside"] ["_law_hand_here"] (defScope st_others_right) := ⟨rfl, rfl, rfl, by decide +kernel, rfl, by decide +kernel, by decide +kernel⟩
section
variable {P : Program} {w : World} {K : PySem.W.Frag} {mg : Str → Option Value} {base : Heap} {f fN fL fZ : Addr} {fd fdN fdL fdZ : FuncData}
theorem dt3 {H : Hp} {l t1 t2 : Addr} {x : V} {xd : PyData} {a b : List Str} (hl : H l = some (.lst [x, .ref t1, .ref t2])) (hx : Dp K H x xd) (h1 : H t1 = some (.tup (a.map V.str))) (h2 : H t2 = some (.tup (b.map V.str))) : Dt K H (.ref l) (.list [xd, tupD a, tupD b]) :=
  WT.Dp.dt (.lst (SqL.of hl) (.cons hx (.cons (.tup (SqT.of h1) (dp_strs _)) (.cons (.tup (SqT.of h2) (dp_strs _)) .nil))))
/-- what is written for a world known by hand -/
theorem fitH {o : Option Nat} {a b : List Str} (ho : ∀ n, o = some n → n < 20) (ha : a.length ≤ 10 ∧ ∀ s ∈ a, NmOk s) (hb : b.length ≤ 10 ∧ ∀ s ∈ b, NmOk s) : Fit 60 sizeLine (toldD o a b) := fit_toldD ho ha.1 hb.1 ha.2 hb.2
theorem nmA {s : Str} (h : NmOk s) : [s].length ≤ 10 ∧ ∀ x ∈ [s], NmOk x := ⟨by show 1 ≤ 10; decide, fun x hx => by rw [List.mem_singleton.mp hx]; exact h⟩
theorem nm0 : ([] : List Str).length ≤ 10 ∧ ∀ x ∈ ([] : List Str), NmOk x := ⟨by decide, fun x hx => nomatch hx⟩
theorem letter_at {j : Nat} {c : Nat} (h : (("abcdefghij" : Str)).cps[j]? = some c) : letters10[j]? = some (sign c) := by
  have q : ∀ j : Fin 10, letters10[j.1]? = ((("abcdefghij" : Str)).cps[j.1]?).map sign := by decide +kernel
  have hj : j < 10 := by
    obtain ⟨h1, _⟩ := Array.getElem?_eq_some_iff.mp h
    exact h1
  rw [q ⟨j, hj⟩, h]
  rfl
/-- a name and its members -/
def PrAt (H : Hp) (t : Addr) (p : Str × List Str) : Prop := ∃ i, H t = some (.tup [.str p.1, .ref i]) ∧ H i = some (.tup (p.2.map V.str))
theorem PrAt.same {H H' : Hp} {t : Addr} {p : Str × List Str} (h : PrAt H t p) (s : Same H H') : PrAt H' t p := by
  obtain ⟨i, h1, h2⟩ := h
  exact ⟨i, s _ _ h1, s _ _ h2⟩
theorem PrAt.new {H : Hp} {t i : Addr} {n : Str} {ms : List Str} (n1 : H i = none) (n2 : upd H i (.tup (ms.map V.str)) t = none) : PrAt (upd (upd H i (.tup (ms.map V.str))) t (.tup [.str n, .ref i])) t (n, ms) ∧ Same H (upd (upd H i (.tup (ms.map V.str))) t (.tup [.str n, .ref i])) :=
  ⟨⟨i, upd_same, same_new n2 _ _ upd_same⟩, (same_new n1).trans (same_new n2)⟩
def kE (p : Str × List Str) : Gt := (p.1, p.2, if p.1 = ("e" : Str) then ("wrap" : Str) else "open")
theorem ok_others (F : Fun K "_law_others_right" "_law_others_right" st_others_right f fd) (B : Blt mg) (F_names : Df P w K mg base "_law_names" 3 fN fdN ["_law_hand_here", "_law_count"] spNames)
    (F_told : Df P w K mg base "_law_told" 6 fL fdL ["_law_world"] spTold) (F_zones : Df P w K mg base "zones" 5 fZ fdZ ["world"] spZones) : FnG P w K mg base CX0 7 f fd ["_law_hand_here"] spRings := by
  refine okG F sc_others_right (fun vs H Q E h => ?_) (fun cdv A outer s H vs Q E hgd hr h => ?_)
  · obtain ⟨_, _, rfl, _⟩ := h
    rfl
  · obtain ⟨a, b, rfl, ha, hb, q⟩ := h
    refine ⟨_, (pss_cons (ps_set (i := 1) sc_others_right.nd rfl (.inr rfl) (pe_callG hgd F_names.G (hr.mono (by decide)) (by rfl) F_names.g F_names.kp F_names.bd pass0 (pa_cons (pv 0) (pa_cons pe_int pa_nil))))
      (pss_cons (ps_set (i := 2) sc_others_right.nd rfl (.inl rfl) (pe_tup (pa_cons (pv 1) (pa_cons (pe_tup (pa_cons (pe_tup (pa_cons pe_str (pa_cons (pv 1) (pa_cons pe_str pa_nil)))) pa_nil)) pa_nil))))
      (pss_cons (ps_if (PW.pt (pw_or (pt_cmpR op_ne (pe_callG hgd F_told.G (hr.mono (by decide)) (by rfl) F_told.g F_told.kp F_told.bd pass0 (pa_cons (pv 2) pa_nil)) (pe_callB (call_repr hgd hr.units) (by rfl) B.repr (by decide +kernel) (pa_cons (pe_lst (pa_cons pe_non (pa_cons (pe_tup (pa_cons pe_str pa_nil)) (pa_cons (pe_tup pa_nil) pa_nil)))) pa_nil)) (nomark _)) (pw_or1 (pt_cmpR op_ne (pe_callG hgd F_told.G (hr.mono (by decide)) (by rfl) F_told.g F_told.kp F_told.bd pass0 (pa_cons (pe_tup (pa_cons (pv 1) (pa_cons (pe_tup pa_nil) pa_nil))) pa_nil)) (pe_callB (call_repr hgd hr.units) (by rfl) B.repr (by decide +kernel) (pa_cons (pe_lst (pa_cons pe_non (pa_cons (pe_tup pa_nil) (pa_cons (pe_tup pa_nil) pa_nil)))) pa_nil)) (nomark _)))))
       (pss_one (ps_ret pe_bl))
       pss_nil)
      (pss_cons (ps_if (pt_cmpR (op_neD hr.units) (pe_callG hgd F_zones.G (hr.mono (by decide)) (by rfl) F_zones.g F_zones.kp F_zones.bd pass0 (pa_cons (pe_tup (pa_cons (pv 1) (pa_cons (pe_tup (pa_cons (pe_tup (pa_cons pe_str (pa_cons (pv 1) (pa_cons pe_str pa_nil)))) pa_nil)) pa_nil))) pa_nil)) (pe_tup (pa_cons (pv 1) pa_nil)) (nomark _))
       (pss_one (ps_ret pe_bl))
       pss_nil)
      (pss_cons (ps_set (i := 3) sc_others_right.nd rfl (.inl rfl) (pe_tup (pa_cons (pe_slice (sl_tupK (K := K)) (pv 1) po_none (po_some pe_int)) (pa_cons (pe_callTy call_tuple_of (by rfl) B.tuple (by decide +kernel) (pa_cons (pe_lc (own := [("_law_letter", 9)]) (by rfl) sc_others_right.nd (pi_str pe_str) (blkOk_by (own := [("_law_letter", 9)]) (N := ["_law_hand_here", "_law_ten", "_law_star", "_law_both", "_law_three", "_law_first", "_law_second", "_law_eight", "_law_shared", "_law_letter", "_law_name", "_law_inside"]) (sc := defScope st_others_right) (by decide +kernel)) (fun _ _ _ _ _ => (pg_name (i := 9) sc_others_right.nd rfl (.inl rfl))) (fun _ _ _ _ _ => pts_nil) (fun _ _ _ _ _ => (pe_tup (pa_cons (pv 9) (pa_cons (pe_slice (sl_tupK (K := K)) (pv 1) po_none (po_some pe_int)) (pa_cons (pe_ifExp (pt_cmpR op_eq (pv 9) pe_str (nomark _)) pe_str pe_str) pa_nil)))))) pa_nil)) pa_nil))))
      (pss_cons (ps_if (PW.pt (pw_or (pt_cmpR op_ne (pe_callG hgd F_told.G (hr.mono (by decide)) (by rfl) F_told.g F_told.kp F_told.bd pass0 (pa_cons (pv 3) pa_nil)) (pe_callB (call_repr hgd hr.units) (by rfl) B.repr (by decide +kernel) (pa_cons (pe_lst (pa_cons pe_int (pa_cons (pe_tup pa_nil) (pa_cons (pe_tup (pa_cons pe_str pa_nil)) pa_nil)))) pa_nil)) (nomark _)) (pw_or1 (pt_cmpR (op_neD hr.units) (pe_callG hgd F_zones.G (hr.mono (by decide)) (by rfl) F_zones.g F_zones.kp F_zones.bd pass0 (pa_cons (pv 3) pa_nil)) (pe_tup (pa_cons (pe_slice (sl_tupK (K := K)) (pv 1) po_none (po_some pe_int)) pa_nil)) (nomark _)))))
       (pss_one (ps_ret pe_bl))
       pss_nil)
      (pss_cons (ps_set (i := 4) sc_others_right.nd rfl (.inl rfl) (pe_tup (pa_cons (pe_slice sl_tup (pv 1) po_none (po_some pe_int)) (pa_cons (pe_tup (pa_cons (pe_tup (pa_cons pe_str (pa_cons (pe_slice sl_tup (pv 1) po_none (po_some pe_int)) (pa_cons pe_str pa_nil)))) (pa_cons (pe_tup (pa_cons pe_str (pa_cons (pe_slice sl_tup (pv 1) (po_some pe_int) (po_some pe_int)) (pa_cons pe_str pa_nil)))) pa_nil))) pa_nil))))
      (pss_cons (ps_if (PW.pt (pw_or (pt_cmpR op_ne (pe_callG hgd F_told.G (hr.mono (by decide)) (by rfl) F_told.g F_told.kp F_told.bd pass0 (pa_cons (pv 4) pa_nil)) (pe_callB (call_repr hgd hr.units) (by rfl) B.repr (by decide +kernel) (pa_cons (pe_lst (pa_cons pe_int (pa_cons (pe_tup pa_nil) (pa_cons (pe_tup (pa_cons pe_str pa_nil)) pa_nil)))) pa_nil)) (nomark _)) (pw_or1 (pt_cmpR (op_neD hr.units) (pe_callG hgd F_zones.G (hr.mono (by decide)) (by rfl) F_zones.g F_zones.kp F_zones.bd pass0 (pa_cons (pv 4) pa_nil)) (pe_tup (pa_cons (pe_tup (pa_cons (pe_ix ix_tup (pv 1) pe_int (fun _ _ => rfl)) pa_nil)) (pa_cons (pe_slice sl_tup (pv 1) (po_some pe_int) (po_some pe_int)) pa_nil))) (nomark _)))))
       (pss_one (ps_ret pe_bl))
       pss_nil)
      (pss_cons (ps_set (i := 5) sc_others_right.nd rfl (.inl rfl) (pe_lst (pa_cons (pe_tup (pa_cons pe_str (pa_cons (pe_slice (sl_tupK (K := K)) (pv 1) po_none (po_some pe_int)) pa_nil))) (pa_cons (pe_tup (pa_cons pe_str (pa_cons (pe_slice sl_tup (pv 1) (po_some pe_int) (po_some pe_int)) pa_nil))) (pa_cons (pe_tup (pa_cons pe_str (pa_cons (pe_tup (pa_cons (pe_ix ix_tup (pv 1) pe_int (fun _ _ => rfl)) (pa_cons (pe_ix ix_tup (pv 1) pe_int (fun _ _ => rfl)) pa_nil))) pa_nil))) pa_nil)))))
      (pss_cons (ps_set (i := 6) sc_others_right.nd rfl (.inl rfl) (pe_lst (pa_cons (pe_tup (pa_cons pe_str (pa_cons (pe_tup (pa_cons (pe_ix ix_tup (pv 1) pe_int (fun _ _ => rfl)) (pa_cons (pe_ix ix_tup (pv 1) pe_int (fun _ _ => rfl)) pa_nil))) pa_nil))) (pa_cons (pe_tup (pa_cons pe_str (pa_cons (pe_tup (pa_cons (pe_ix ix_tup (pv 1) pe_int (fun _ _ => rfl)) (pa_cons (pe_ix ix_tup (pv 1) pe_int (fun _ _ => rfl)) pa_nil))) pa_nil))) (pa_cons (pe_tup (pa_cons pe_str (pa_cons (pe_tup (pa_cons (pe_ix ix_tup (pv 1) pe_int (fun _ _ => rfl)) (pa_cons (pe_ix ix_tup (pv 1) pe_int (fun _ _ => rfl)) pa_nil))) pa_nil))) (pa_cons (pe_tup (pa_cons pe_str (pa_cons (pe_tup (pa_cons (pe_ix ix_tup (pv 1) pe_int (fun _ _ => rfl)) (pa_cons (pe_ix ix_tup (pv 1) pe_int (fun _ _ => rfl)) pa_nil))) pa_nil))) pa_nil))))))
      (pss_cons (ps_set (i := 7) sc_others_right.nd rfl (.inl rfl) (pe_tup (pa_cons (pv 1) (pa_cons (pe_callTy call_tuple_of (by rfl) B.tuple (by decide +kernel) (pa_cons (pe_lc (own := [("_law_name", 10), ("_law_inside", 11)]) (by rfl) sc_others_right.nd (pi_list (pe_op op_cat (pv 5) (pv 6))) (blkOk_by (own := [("_law_name", 10), ("_law_inside", 11)]) (N := ["_law_hand_here", "_law_ten", "_law_star", "_law_both", "_law_three", "_law_first", "_law_second", "_law_eight", "_law_shared", "_law_letter", "_law_name", "_law_inside"]) (sc := defScope st_others_right) (by decide +kernel)) (fun _ _ _ _ _ => (pg_tupK (K := K) (n := 2) rfl (pgs_cons (pg_name (i := 10) sc_others_right.nd rfl (.inl rfl)) (pgs_cons (pg_name (i := 11) sc_others_right.nd rfl (.inl rfl)) pgs_nil)))) (fun _ _ _ _ _ => pts_nil) (fun _ _ _ _ _ => (pe_tup (pa_cons (pv 10) (pa_cons (pv 11) (pa_cons (pe_ifExp (pt_cmpR op_eq (pv 10) pe_str (nomark _)) pe_str pe_str) pa_nil)))))) pa_nil)) pa_nil))))
      (pss_cons (ps_if (pt_cmpR op_ne (pe_callG hgd F_told.G (hr.mono (by decide)) (by rfl) F_told.g F_told.kp F_told.bd pass0 (pa_cons (pv 7) pa_nil)) (pe_callB (call_repr hgd hr.units) (by rfl) B.repr (by decide +kernel) (pa_cons (pe_lst (pa_cons pe_int (pa_cons (pe_tup pa_nil) (pa_cons (pe_tup (pa_cons pe_str pa_nil)) pa_nil)))) pa_nil)) (nomark _))
       (pss_one (ps_ret pe_bl))
       pss_nil)
      (pss_cons (ps_set (i := 8) sc_others_right.nd rfl (.inl rfl) (pe_tup (pa_cons (pe_slice sl_tup (pv 1) po_none (po_some pe_int)) (pa_cons (pe_tup (pa_cons (pe_tup (pa_cons pe_str (pa_cons (pe_slice sl_tup (pv 1) po_none (po_some pe_int)) (pa_cons pe_str pa_nil)))) (pa_cons (pe_tup (pa_cons pe_str (pa_cons (pe_slice (sl_tupK (K := K)) (pv 1) po_none (po_some pe_int)) (pa_cons pe_str pa_nil)))) (pa_cons (pe_tup (pa_cons pe_str (pa_cons (pe_slice sl_tup (pv 1) (po_some pe_int) (po_some pe_int)) (pa_cons pe_str pa_nil)))) pa_nil)))) pa_nil))))
      (pss_one (ps_ret (pe_cmpR op_eq (pe_callG hgd F_told.G (hr.mono (by decide)) (by rfl) F_told.g F_told.kp F_told.bd pass0 (pa_cons (pv 8) pa_nil)) (pe_callB (call_repr hgd hr.units) (by rfl) B.repr (by decide +kernel) (pa_cons (pe_lst (pa_cons pe_int (pa_cons (pe_tup pa_nil) (pa_cons (pe_tup (pa_cons pe_str (pa_cons pe_str pa_nil))) pa_nil)))) pa_nil)) (nomark _))))))))))))))))), ?_⟩
    refine ⟨_, rfl, a, b, 10, rfl, ha, by omega, by decide, fun H1 tn ten b1 p1 htn nall => ?_⟩
    have done : ∀ H', Same H1 H' → Q (.bl true) H' := fun H' s' => q H' (b1.trans (.of s')) ((p1.same s').more (by omega))
    have asc := names_asc nall
    have okt := nall.nm
    obtain ⟨n0, n1, n2, n3, n4, n5, n6, n7, n8, n9, rfl⟩ := ten_of nall.length
    clear q b1 ha
    have b01 : Bef n0 n1 := asc.at (i := 0) (j := 1) rfl rfl (by decide)
    have b12 : Bef n1 n2 := asc.at (i := 1) (j := 2) rfl rfl (by decide)
    have b23 : Bef n2 n3 := asc.at (i := 2) (j := 3) rfl rfl (by decide)
    have c02 : cutV ([n0, n1, n2, n3, n4, n5, n6, n7, n8, n9].map V.str) none (some 2) = [n0, n1].map V.str := rfl
    have c03 : cutV ([n0, n1, n2, n3, n4, n5, n6, n7, n8, n9].map V.str) none (some 3) = [n0, n1, n2].map V.str := rfl
    have c04 : cutV ([n0, n1, n2, n3, n4, n5, n6, n7, n8, n9].map V.str) none (some 4) = [n0, n1, n2, n3].map V.str := rfl
    have c13 : cutV ([n0, n1, n2, n3, n4, n5, n6, n7, n8, n9].map V.str) (some 1) (some 3) = [n1, n2].map V.str := rfl
    have c24 : cutV ([n0, n1, n2, n3, n4, n5, n6, n7, n8, n9].map V.str) (some 2) (some 4) = [n2, n3].map V.str := rfl
    -- star
    refine ⟨_, rfl, _, rfl, (by show 3 ≤ sizeLine; decide), fun t1 nt1 => ?_⟩
    have z1 := same_new nt1 (o := .tup [.str "hub", .ref tn, .str "wrap"])
    refine ⟨(by show 1 ≤ sizeLine; decide), fun t2 nt2 => ?_⟩
    have z2 := same_new nt2 (o := .tup [.ref t1])
    refine ⟨(by show 2 ≤ sizeLine; decide), fun t3 nt3 => ?_⟩
    have z3 := same_new nt3 (o := .tup [.ref tn, .ref t2])
    have hw : WorldAt (upd (upd (upd H1 t1 (.tup [.str "hub", .ref tn, .str "wrap"])) t2 (.tup [.ref t1])) t3 (.tup [.ref tn, .ref t2])) t3 tn t2 [t1] [n0, n1, n2, n3, n4, n5, n6, n7, n8, n9] [("hub", [n0, n1, n2, n3, n4, n5, n6, n7, n8, n9], "wrap")] :=
      ⟨upd_same, z3 _ _ (z2 _ _ (z1 _ _ htn)), z3 _ _ upd_same, .cons ⟨tn, z3 _ _ (z2 _ _ upd_same), z3 _ _ (z2 _ _ (z1 _ _ htn))⟩ .nil⟩
    have s3 := z1.trans (z2.trans z3)
    generalize upd (upd (upd H1 t1 (.tup [.str "hub", .ref tn, .str "wrap"])) t2 (.tup [.ref t1])) t3 (.tup [.ref tn, .ref t2]) = H3 at hw s3 ⊢
    clear z1 z2 z3
    refine ⟨_, rfl, t3, tn, t2, [t1], _, _, rfl, hw, star_fine nmw (Nat.le_refl 10) okt, fun H4 s4 => ?_⟩
    rw [told_star]
    have s14 := s3.trans s4
    clear s3 hw
    refine ⟨(by show 1 ≤ sizeLine; decide), fun u1 nu1 => ⟨(by show 0 ≤ sizeLine; decide), fun u2 nu2 => ⟨(by show 3 ≤ sizeLine; decide), fun u3 nu3 => ?_⟩⟩⟩
    have y1 := same_new nu1 (o := .tup [.str "hub"])
    have y2 := same_new nu2 (o := .tup [])
    have y3 := same_new nu3 (o := .lst [.non, .ref u1, .ref u2])
    have ft := fitH (o := none) (a := ["hub"]) (b := []) (fun n e => by cases e) (nmA (nm_of (by decide +kernel) (by decide +kernel))) nm0
    refine ⟨_, toldD none ["hub"] [], rfl, dt3 upd_same .non (y3 _ _ (y2 _ _ upd_same)) (y3 _ _ upd_same), ft.sh, ft.de, ft.ln, rfl, _, rfl, ifF (by simp) ?_⟩
    have s15 := s14.trans (y1.trans (y2.trans y3))
    generalize upd (upd (upd H4 u1 (.tup [.str "hub"])) u2 (.tup [])) u3 (.lst [.non, .ref u1, .ref u2]) = H5 at s15 ⊢
    clear y1 y2 y3 ft s14 s4
    -- no gateways
    refine ⟨_, rfl, (by show 0 ≤ sizeLine; decide), fun g1 ng1 => ⟨(by show 2 ≤ sizeLine; decide), fun w1 nw1 => ?_⟩⟩
    have z1 := same_new ng1 (o := .tup [])
    have z2 := same_new nw1 (o := .tup [.ref tn, .ref g1])
    have hw : WorldAt (upd (upd H5 g1 (.tup [])) w1 (.tup [.ref tn, .ref g1])) w1 tn g1 [] [n0, n1, n2, n3, n4, n5, n6, n7, n8, n9] [] := ⟨upd_same, z2 _ _ (z1 _ _ (s15 _ _ htn)), z2 _ _ upd_same, .nil⟩
    have s2 := s15.trans (z1.trans z2)
    generalize upd (upd H5 g1 (.tup [])) w1 (.tup [.ref tn, .ref g1]) = H6 at hw s2 ⊢
    refine ⟨w1, tn, g1, [], _, _, rfl, hw, empty_fine (Nat.le_refl 10) okt, fun H7 s7 => ?_⟩
    rw [told_nil]
    have s17 := s2.trans s7
    clear z1 z2 hw s15 s2 s7
    refine ⟨(by show 0 ≤ sizeLine; decide), fun u1 nu1 => ⟨(by show 0 ≤ sizeLine; decide), fun u2 nu2 => ⟨(by show 3 ≤ sizeLine; decide), fun u3 nu3 => ?_⟩⟩⟩
    have y1 := same_new nu1 (o := .tup [])
    have y2 := same_new nu2 (o := .tup [])
    have y3 := same_new nu3 (o := .lst [.non, .ref u1, .ref u2])
    have ft := fitH (o := none) (a := []) (b := []) (fun n e => by cases e) nm0 nm0
    refine ⟨_, toldD none [] [], rfl, dt3 upd_same .non (y3 _ _ (y2 _ _ upd_same)) (y3 _ _ upd_same), ft.sh, ft.de, ft.ln, rfl, _, rfl, ifF (by simp) ?_⟩
    have s18 := s17.trans (y1.trans (y2.trans y3))
    generalize upd (upd (upd H7 u1 (.tup [])) u2 (.tup [])) u3 (.lst [.non, .ref u1, .ref u2]) = H8 at s18 ⊢
    clear y1 y2 y3 ft s17
    -- zones((ten, (("hub", ten, "open"),)))
    refine ⟨_, rfl, _, rfl, (by show 3 ≤ sizeLine; decide), fun t1 nt1 => ?_⟩
    have z1 := same_new nt1 (o := .tup [.str "hub", .ref tn, .str "open"])
    refine ⟨(by show 1 ≤ sizeLine; decide), fun t2 nt2 => ?_⟩
    have z2 := same_new nt2 (o := .tup [.ref t1])
    refine ⟨(by show 2 ≤ sizeLine; decide), fun t3 nt3 => ?_⟩
    have z3 := same_new nt3 (o := .tup [.ref tn, .ref t2])
    have hn8 := s18 _ _ htn
    have hw : WorldAt (upd (upd (upd H8 t1 (.tup [.str "hub", .ref tn, .str "open"])) t2 (.tup [.ref t1])) t3 (.tup [.ref tn, .ref t2])) t3 tn t2 [t1] [n0, n1, n2, n3, n4, n5, n6, n7, n8, n9] [("hub", [n0, n1, n2, n3, n4, n5, n6, n7, n8, n9], "open")] :=
      ⟨upd_same, z3 _ _ (z2 _ _ (z1 _ _ hn8)), z3 _ _ upd_same, .cons ⟨tn, z3 _ _ (z2 _ _ upd_same), z3 _ _ (z2 _ _ (z1 _ _ hn8))⟩ .nil⟩
    have s3 := s18.trans (z1.trans (z2.trans z3))
    generalize upd (upd (upd H8 t1 (.tup [.str "hub", .ref tn, .str "open"])) t2 (.tup [.ref t1])) t3 (.tup [.ref tn, .ref t2]) = H3 at hw s3 ⊢
    refine ⟨t3, tn, t2, [t1], _, _, rfl, hw, win_of (star_fine nmo (Nat.le_refl 10) okt), asc, fun H9 p9 ts s9 hp9 hts => ?_⟩
    rw [zones_star asc (by simp)] at hts
    have s19 := s3.trans s9
    clear z1 z2 z3 hw s18 s3 s9 hn8
    refine ⟨_, rfl, (by show 1 ≤ sizeLine; decide), fun u nu => ?_⟩
    have y1 := same_new nu (o := .tup [.ref tn])
    have nt : H9 tn = some (.tup ([n0, n1, n2, n3, n4, n5, n6, n7, n8, n9].map V.str)) := s19 _ _ htn
    have shZ := shaped_tupsT (ls := [[n0, n1, n2, n3, n4, n5, n6, n7, n8, n9]]) fun l hl s hs => by
      rw [List.mem_singleton.mp hl] at hs
      exact (okt s hs).ok
    refine ⟨_, _, .tup (SqT.of (y1 _ _ hp9)) (dp_tupsT (tups_at_same hts fun t xs e => y1 _ _ e)), .tup (SqT.of upd_same) (dp_tupsT (ts := [tn]) (.cons (y1 _ _ nt) .nil)), shZ, shZ, _, rfl, ifF (by rw [SeqAt.eqv_refl _ (SeqAt.canLay_of_shaped shZ)]; rfl) ?_⟩
    have s20 := s19.trans y1
    generalize upd H9 u (.tup [.ref tn]) = H10 at s20 ⊢
    clear y1 nt hts hp9 s19
    have ht10 := s20 _ _ htn
    -- both
    refine ⟨_, rfl, 2, rfl, tn, _, rfl, SqT.of ht10, (by show ¬(HT.sIx 10 0 none = 0 ∧ HT.sIx 10 10 (some 2) = 10); decide), fun r1 nr1 => ?_⟩
    rw [c02]
    have z1 : Same H10 (upd H10 r1 (.tup ([n0, n1].map V.str))) := same_new nr1
    have hr1 : upd H10 r1 (.tup ([n0, n1].map V.str)) r1 = some (.tup ([n0, n1].map V.str)) := upd_same
    have z1H : ∀ c xs, H10 c = some (.tup xs) → upd H10 r1 (.tup ([n0, n1].map V.str)) c = some (.tup xs) := fun c xs e => z1 _ _ e
    refine ⟨_, rfl, fun D nD => lc_newG walk_str (bothG [n0, n1]) (by rfl) (by show 10 ≤ 40001; decide) nD (fun _ _ => trivial) (fun i x g0 H2 H3 k e hg0 s2 hY hk => ?_) fun H11 as s11 hD hps => ?_⟩
    · obtain ⟨rfl, c, hc, rfl⟩ := hY
      have hl := letter_at hc
      have eg : g0 = (sign c, [n0, n1], if sign c = ("j" : Str) then ("wrap" : Str) else "open") := by
        unfold bothG at hg0
        rw [List.getElem?_map, hl] at hg0
        exact (Option.some.inj hg0).symm
      refine ⟨rfl, _, rfl, _, rfl, 2, rfl, tn, _, rfl, SqT.of (s2 _ _ (z1H _ _ ht10)), (by show ¬(HT.sIx 10 0 none = 0 ∧ HT.sIx 10 10 (some 2) = 10); decide), fun m1 nm1 => ?_⟩
      rw [c02]
      have zm := same_new nm1 (o := .tup ([n0, n1].map V.str))
      refine ⟨_, rfl, rfl, _, rfl, ?_⟩
      by_cases cj : sign c = ("j" : Str)
      · refine ifT (decide_eq_true (congrArg V.str cj)) ⟨(by show 3 ≤ sizeLine; decide), fun t nt => ?_⟩
        have zt := same_new nt (o := .tup [.str (sign c), .ref m1, .str "wrap"])
        refine hk t _ (zm.trans zt) ?_
        rw [eg, if_pos cj]
        exact ⟨m1, upd_same, zt _ _ upd_same⟩
      · refine ifF (decide_eq_false fun z => cj (V.str.inj z)) ⟨(by show 3 ≤ sizeLine; decide), fun t nt => ?_⟩
        have zt := same_new nt (o := .tup [.str (sign c), .ref m1, .str "open"])
        refine hk t _ (zm.trans zt) ?_
        rw [eg, if_neg cj]
        exact ⟨m1, upd_same, zt _ _ upd_same⟩
    have hr11 := s11 _ _ hr1
    have s31 := s20.trans (z1.trans s11)
    clear z1 z1H hr1 s20 ht10 s11
    refine ⟨D, _, rfl, .inl ⟨SqL.of hD, fun gt ngt => ⟨(by show 2 ≤ sizeLine; decide), fun wt nwt => ?_⟩⟩⟩
    have z1 := same_new ngt (o := .tup (as.map V.ref))
    have z2 := same_new nwt (o := .tup [.ref r1, .ref gt])
    have hw : WorldAt (upd (upd H11 gt (.tup (as.map V.ref))) wt (.tup [.ref r1, .ref gt])) wt r1 gt as [n0, n1] (bothG [n0, n1]) := ⟨upd_same, z2 _ _ (z1 _ _ hr11), z2 _ _ upd_same, Paired.mapP hps fun _ _ h => h.same (z1.trans z2)⟩
    have s2 := s31.trans (z1.trans z2)
    generalize upd (upd H11 gt (.tup (as.map V.ref))) wt (.tup [.ref r1, .ref gt]) = H12 at hw s2 ⊢
    clear z1 z2 hps hD hr11 s31
    have ok2 : ∀ s ∈ [n0, n1], NmOk s := fun s hs => okt s (List.mem_of_mem_take (i := 2) hs)
    have bf := both_fine (by show [n0, n1].length ≤ 10; exact (by decide : 2 ≤ 10)) ok2
    refine ⟨_, rfl, wt, r1, gt, as, _, _, rfl, hw, bf, fun H13 s13 => ?_⟩
    rw [both_told b01.ne]
    have s33 := s2.trans s13
    have hw13 := hw.same s13
    clear s2 s13 hw
    refine ⟨(by show 0 ≤ sizeLine; decide), fun u1 nu1 => ⟨(by show 1 ≤ sizeLine; decide), fun u2 nu2 => ⟨(by show 3 ≤ sizeLine; decide), fun u3 nu3 => ?_⟩⟩⟩
    have y1 := same_new nu1 (o := .tup [])
    have y2 := same_new nu2 (o := .tup [.str "j"])
    have y3 := same_new nu3 (o := .lst [.int 2, .ref u1, .ref u2])
    have ft := fitH (o := some 2) (a := []) (b := ["j"]) (fun n e => by cases e; decide) nm0 (nmA (nm_of (by decide +kernel) (by decide +kernel)))
    refine ⟨_, toldD (some 2) [] ["j"], rfl, dt3 upd_same (.int _) (y3 _ _ (y2 _ _ upd_same)) (y3 _ _ upd_same), ft.sh, ft.de, ft.ln, rfl, _, rfl, ifF (by simp) ?_⟩
    have yy := y1.trans (y2.trans y3)
    have s34 := s33.trans yy
    have hw14 := hw13.same yy
    generalize upd (upd (upd H13 u1 (.tup [])) u2 (.tup [.str "j"])) u3 (.lst [.int 2, .ref u1, .ref u2]) = H14 at s34 hw14 ⊢
    clear y1 y2 y3 yy ft s33 hw13
    refine ⟨_, rfl, wt, r1, gt, as, _, _, rfl, hw14, win_of bf, (asc.sublist (show [n0, n1].Sublist [n0, n1, n2, n3, n4, n5, n6, n7, n8, n9] from List.take_sublist 2 [n0, n1, n2, n3, n4, n5, n6, n7, n8, n9])), fun H15 p15 ts s15 hp15 hts => ?_⟩
    rw [both_zones b01] at hts
    have s35 := s34.trans s15
    clear s34 hw14 s15 bf
    have ht15 := s35 _ _ htn
    refine ⟨_, rfl, 2, rfl, tn, _, rfl, SqT.of ht15, (by show ¬(HT.sIx 10 0 none = 0 ∧ HT.sIx 10 10 (some 2) = 10); decide), fun m1 nm1 => ?_⟩
    rw [c02]
    refine ⟨(by show 1 ≤ sizeLine; decide), fun u nu => ?_⟩
    have y0 : Same H15 (upd H15 m1 (.tup ([n0, n1].map V.str))) := same_new nm1
    have hm1 : upd H15 m1 (.tup ([n0, n1].map V.str)) m1 = some (.tup ([n0, n1].map V.str)) := upd_same
    have y1 : Same (upd H15 m1 (.tup ([n0, n1].map V.str))) (upd (upd H15 m1 (.tup ([n0, n1].map V.str))) u (.tup [.ref m1])) := same_new nu
    have shZ := shaped_tupsT (ls := [[n0, n1]]) fun l hl s hs => by
      rw [List.mem_singleton.mp hl] at hs
      exact (ok2 s hs).ok
    refine ⟨_, _, .tup (SqT.of (y1 _ _ (y0 _ _ hp15))) (dp_tupsT (tups_at_same hts fun t xs e => y1 _ _ (y0 _ _ e))), .tup (SqT.of upd_same) (dp_tupsT (ts := [m1]) (.cons (y1 _ _ hm1) .nil)), shZ, shZ, _, rfl, ifF (by rw [SeqAt.eqv_refl _ (SeqAt.canLay_of_shaped shZ)]; rfl) ?_⟩
    have s36 := s35.trans (y0.trans y1)
    generalize upd (upd H15 m1 (.tup ([n0, n1].map V.str))) u (.tup [.ref m1]) = H16 at s36 ⊢
    clear y0 y1 hm1 hts hp15 s35 ht15 shZ ok2
    have ht := s36 _ _ htn
    -- three
    refine ⟨_, rfl, 3, rfl, tn, _, rfl, SqT.of ht, (by show ¬(HT.sIx 10 0 none = 0 ∧ HT.sIx 10 10 (some 3) = 10); decide), fun r1 nr1 => ?_⟩
    rw [c03]
    have z1 : Same H16 (upd H16 r1 (.tup ([n0, n1, n2].map V.str))) := same_new nr1
    have hr1 : upd H16 r1 (.tup ([n0, n1, n2].map V.str)) r1 = some (.tup ([n0, n1, n2].map V.str)) := upd_same
    refine ⟨_, rfl, 3, rfl, tn, _, rfl, SqT.of (z1 _ _ ht), (by show ¬(HT.sIx 10 0 none = 0 ∧ HT.sIx 10 10 (some 3) = 10); decide), fun m1 nm1 => ?_⟩
    rw [c03]
    have z2 := same_new nm1 (o := .tup ([n0, n1, n2].map V.str))
    have hm1 : upd (upd H16 r1 (.tup ([n0, n1, n2].map V.str))) m1 (.tup ([n0, n1, n2].map V.str)) m1 = _ := upd_same
    have hr2 := z2 _ _ hr1
    have ht2 := z2 _ _ (z1 _ _ ht)
    have s37 := s36.trans (z1.trans z2)
    generalize upd (upd H16 r1 (.tup ([n0, n1, n2].map V.str))) m1 (.tup ([n0, n1, n2].map V.str)) = H17 at hm1 hr2 ht2 s37 ⊢
    clear z1 z2 hr1 s36 ht
    refine ⟨(by show 3 ≤ sizeLine; decide), fun t1 nt1 => ?_⟩
    have z1 := same_new nt1 (o := .tup [.str "p", .ref m1, .str "wrap"])
    have h1 : upd H17 t1 (.tup [.str "p", .ref m1, .str "wrap"]) t1 = _ := upd_same
    refine ⟨_, rfl, 1, rfl, 3, rfl, tn, _, rfl, SqT.of (z1 _ _ ht2), (by show ¬(HT.sIx 10 0 (some 1) = 0 ∧ HT.sIx 10 10 (some 3) = 10); decide), fun m2 nm2 => ?_⟩
    rw [c13]
    have z2 := same_new nm2 (o := .tup ([n1, n2].map V.str))
    have h2 : upd (upd H17 t1 (.tup [.str "p", .ref m1, .str "wrap"])) m2 (.tup ([n1, n2].map V.str)) m2 = _ := upd_same
    refine ⟨(by show 3 ≤ sizeLine; decide), fun t2 nt2 => ?_⟩
    have z3 := same_new nt2 (o := .tup [.str "q", .ref m2, .str "open"])
    refine ⟨(by show 2 ≤ sizeLine; decide), fun gt ngt => ?_⟩
    have z4 := same_new ngt (o := .tup [.ref t1, .ref t2])
    refine ⟨(by show 2 ≤ sizeLine; decide), fun wt nwt => ?_⟩
    have z5 := same_new nwt (o := .tup [.ref r1, .ref gt])
    have z35 := z3.trans (z4.trans z5)
    have z15 := z1.trans (z2.trans z35)
    have hw : WorldAt (upd (upd (upd (upd (upd H17 t1 (.tup [.str "p", .ref m1, .str "wrap"])) m2 (.tup ([n1, n2].map V.str))) t2 (.tup [.str "q", .ref m2, .str "open"])) gt (.tup [.ref t1, .ref t2])) wt (.tup [.ref r1, .ref gt])) wt r1 gt [t1, t2] [n0, n1, n2] (threeG n0 n1 n2) :=
      ⟨upd_same, z15 _ _ hr2, z5 _ _ upd_same, .cons ⟨m1, z35 _ _ (z2 _ _ h1), z15 _ _ hm1⟩ (.cons ⟨m2, z5 _ _ (z4 _ _ upd_same), z35 _ _ h2⟩ .nil)⟩
    have s38 := s37.trans z15
    generalize upd (upd (upd (upd (upd H17 t1 (.tup [.str "p", .ref m1, .str "wrap"])) m2 (.tup ([n1, n2].map V.str))) t2 (.tup [.str "q", .ref m2, .str "open"])) gt (.tup [.ref t1, .ref t2])) wt (.tup [.ref r1, .ref gt]) = H18 at hw s38 ⊢
    clear z1 z2 z3 z4 z5 z35 z15 h1 h2 hm1 hr2 ht2 s37
    have ok3 : ∀ s ∈ [n0, n1, n2], NmOk s := fun s hs => okt s (List.mem_of_mem_take (i := 3) hs)
    have tf := three_fine ok3
    refine ⟨_, rfl, wt, r1, gt, _, _, _, rfl, hw, tf, fun H19 s19 => ?_⟩
    rw [three_told b12.ne]
    have s39 := s38.trans s19
    have hw19 := hw.same s19
    clear s38 s19 hw
    refine ⟨(by show 0 ≤ sizeLine; decide), fun u1 nu1 => ⟨(by show 1 ≤ sizeLine; decide), fun u2 nu2 => ⟨(by show 3 ≤ sizeLine; decide), fun u3 nu3 => ?_⟩⟩⟩
    have y1 := same_new nu1 (o := .tup [])
    have y2 := same_new nu2 (o := .tup [.str "p"])
    have y3 := same_new nu3 (o := .lst [.int 2, .ref u1, .ref u2])
    have ft := fitH (o := some 2) (a := []) (b := ["p"]) (fun n e => by cases e; decide) nm0 (nmA (nm_of (by decide +kernel) (by decide +kernel)))
    refine ⟨_, toldD (some 2) [] ["p"], rfl, dt3 upd_same (.int _) (y3 _ _ (y2 _ _ upd_same)) (y3 _ _ upd_same), ft.sh, ft.de, ft.ln, rfl, _, rfl, ifF (by simp) ?_⟩
    have yy := y1.trans (y2.trans y3)
    have s40 := s39.trans yy
    have hw20 := hw19.same yy
    generalize upd (upd (upd H19 u1 (.tup [])) u2 (.tup [.str "p"])) u3 (.lst [.int 2, .ref u1, .ref u2]) = H20 at s40 hw20 ⊢
    clear y1 y2 y3 yy ft s39 hw19
    refine ⟨_, rfl, wt, r1, gt, _, _, _, rfl, hw20, win_of tf, (asc.sublist (show [n0, n1, n2].Sublist [n0, n1, n2, n3, n4, n5, n6, n7, n8, n9] from List.take_sublist 3 [n0, n1, n2, n3, n4, n5, n6, n7, n8, n9])), fun H21 p21 ts s21 hp21 hts => ?_⟩
    rw [three_zones b01 b12] at hts
    have s41 := s40.trans s21
    clear s40 hw20 s21 tf
    have ht21 := s41 _ _ htn
    refine ⟨_, rfl, tn, _, 0, _, rfl, rfl, SqT.of ht21, atI_nat (j := 0) rfl, (by show 1 ≤ sizeLine; decide), fun k1 nk1 => ?_⟩
    have y1 : Same H21 (upd H21 k1 (.tup ([n0].map V.str))) := same_new nk1
    have hk1 : upd H21 k1 (.tup ([n0].map V.str)) k1 = some (.tup ([n0].map V.str)) := upd_same
    have ht22 := y1 _ _ ht21
    refine ⟨_, rfl, 1, rfl, 3, rfl, tn, _, rfl, SqT.of ht22, (by show ¬(HT.sIx 10 0 (some 1) = 0 ∧ HT.sIx 10 10 (some 3) = 10); decide), fun k2 nk2 => ?_⟩
    rw [c13]
    have y2 : Same (upd H21 k1 (.tup ([n0].map V.str))) (upd (upd H21 k1 (.tup ([n0].map V.str))) k2 (.tup ([n1, n2].map V.str))) := same_new nk2
    have hk2 : upd (upd H21 k1 (.tup ([n0].map V.str))) k2 (.tup ([n1, n2].map V.str)) k2 = some (.tup ([n1, n2].map V.str)) := upd_same
    refine ⟨(by show 2 ≤ sizeLine; decide), fun u nu => ?_⟩
    have y3 : Same (upd (upd H21 k1 (.tup ([n0].map V.str))) k2 (.tup ([n1, n2].map V.str))) (upd (upd (upd H21 k1 (.tup ([n0].map V.str))) k2 (.tup ([n1, n2].map V.str))) u (.tup [.ref k1, .ref k2])) := same_new nu
    have shZ := shaped_tupsT (ls := [[n0], [n1, n2]]) fun l hl s hs => by
      simp only [List.mem_cons, List.not_mem_nil, or_false] at hl
      rcases hl with rfl | rfl
      · exact (ok3 s (by rw [List.mem_singleton.mp hs]; simp)).ok
      · exact (ok3 s (List.mem_cons_of_mem _ hs)).ok
    have yy := y1.trans (y2.trans y3)
    refine ⟨_, _, .tup (SqT.of (yy _ _ hp21)) (dp_tupsT (tups_at_same hts fun t xs e => yy _ _ e)), .tup (SqT.of upd_same) (dp_tupsT (ts := [k1, k2]) (.cons (y3 _ _ (y2 _ _ hk1)) (.cons (y3 _ _ hk2) .nil))), shZ, shZ, _, rfl, ifF (by rw [SeqAt.eqv_refl _ (SeqAt.canLay_of_shaped shZ)]; rfl) ?_⟩
    have s42 : Same H1 (upd (upd (upd H21 k1 (.tup [.str n0])) k2 (.tup ([n1, n2].map V.str))) u (.tup [.ref k1, .ref k2])) := s41.trans yy
    generalize upd (upd (upd H21 k1 (.tup [.str n0])) k2 (.tup ([n1, n2].map V.str))) u (.tup [.ref k1, .ref k2]) = G0 at s42 ⊢
    clear y1 y2 y3 yy hk1 hk2 hts hp21 s41 ht21 ht22 shZ ok3
    have g0 := s42
    have ht0 := g0 _ _ htn
    refine ⟨_, rfl, 2, rfl, tn, _, rfl, SqT.of ht0, (by show ¬(HT.sIx 10 0 none = 0 ∧ HT.sIx 10 10 (some 2) = 10); decide), fun i1 ni1 => ?_⟩
    rw [c02]
    refine ⟨(by show 2 ≤ sizeLine; decide), fun t1 nt1 => ?_⟩
    obtain ⟨p1, w1⟩ := PrAt.new (n := "a") (ms := [n0, n1]) ni1 nt1
    change PrAt (upd (upd G0 i1 (.tup ([n0, n1].map V.str))) t1 (.tup [.str "a", .ref i1])) t1 _ at p1
    change Same G0 (upd (upd G0 i1 (.tup ([n0, n1].map V.str))) t1 (.tup [.str "a", .ref i1])) at w1
    have g1 := g0.trans w1
    have ht1 := g1 _ _ htn
    generalize hG1 : upd (upd G0 i1 (.tup ([n0, n1].map V.str))) t1 (.tup [.str "a", .ref i1]) = G1 at *
    refine ⟨_, rfl, 1, rfl, 3, rfl, tn, _, rfl, SqT.of ht1, (by show ¬(HT.sIx 10 0 (some 1) = 0 ∧ HT.sIx 10 10 (some 3) = 10); decide), fun i2 ni2 => ?_⟩
    rw [c13]
    refine ⟨(by show 2 ≤ sizeLine; decide), fun t2 nt2 => ?_⟩
    obtain ⟨p2, w2⟩ := PrAt.new (n := "b") (ms := [n1, n2]) ni2 nt2
    change PrAt (upd (upd G1 i2 (.tup ([n1, n2].map V.str))) t2 (.tup [.str "b", .ref i2])) t2 _ at p2
    change Same G1 (upd (upd G1 i2 (.tup ([n1, n2].map V.str))) t2 (.tup [.str "b", .ref i2])) at w2
    have g2 := g1.trans w2
    have ht2 := g2 _ _ htn
    have p1 := p1.same w2
    generalize hG2 : upd (upd G1 i2 (.tup ([n1, n2].map V.str))) t2 (.tup [.str "b", .ref i2]) = G2 at *
    refine ⟨_, rfl, tn, _, 0, _, rfl, rfl, SqT.of ht2, atI_nat (j := 0) rfl, _, rfl, tn, _, 2, _, rfl, rfl, SqT.of ht2, atI_nat (j := 2) rfl, (by show 2 ≤ sizeLine; decide), fun i3 ni3 => ⟨(by show 2 ≤ sizeLine; decide), fun t3 nt3 => ?_⟩⟩
    obtain ⟨p3, w3⟩ := PrAt.new (n := "c") (ms := [n0, n2]) ni3 nt3
    change PrAt (upd (upd G2 i3 (.tup [.str n0, .str n2])) t3 (.tup [.str "c", .ref i3])) t3 _ at p3
    change Same G2 (upd (upd G2 i3 (.tup [.str n0, .str n2])) t3 (.tup [.str "c", .ref i3])) at w3
    have g3 := g2.trans w3
    have ht3 := g3 _ _ htn
    have p1 := p1.same w3
    have p2 := p2.same w3
    generalize hG3 : upd (upd G2 i3 (.tup [.str n0, .str n2])) t3 (.tup [.str "c", .ref i3]) = G3 at *
    refine ⟨(by show 3 ≤ sizeLine; decide), fun l3 nl3 => ?_⟩
    have wl3 := same_new nl3 (o := .lst [.ref t1, .ref t2, .ref t3])
    have hl3 : upd G3 l3 (.lst [.ref t1, .ref t2, .ref t3]) l3 = some (.lst [.ref t1, .ref t2, .ref t3]) := upd_same
    have g3 := g3.trans wl3
    have ht3 := g3 _ _ htn
    have p1 := p1.same wl3
    have p2 := p2.same wl3
    have p3 := p3.same wl3
    generalize hGl3 : upd G3 l3 (.lst [.ref t1, .ref t2, .ref t3]) = GL3 at *
    clear wl3 hGl3
    refine ⟨_, rfl, tn, _, 2, _, rfl, rfl, SqT.of ht3, atI_nat (j := 2) rfl, _, rfl, tn, _, 3, _, rfl, rfl, SqT.of ht3, atI_nat (j := 3) rfl, (by show 2 ≤ sizeLine; decide), fun i4 ni4 => ⟨(by show 2 ≤ sizeLine; decide), fun t4 nt4 => ?_⟩⟩
    obtain ⟨p4, w4⟩ := PrAt.new (n := "d") (ms := [n2, n3]) ni4 nt4
    change PrAt (upd (upd GL3 i4 (.tup [.str n2, .str n3])) t4 (.tup [.str "d", .ref i4])) t4 _ at p4
    change Same GL3 (upd (upd GL3 i4 (.tup [.str n2, .str n3])) t4 (.tup [.str "d", .ref i4])) at w4
    have g4 := g3.trans w4
    have hl3 := w4 _ _ hl3
    have ht4 := g4 _ _ htn
    have p1 := p1.same w4
    have p2 := p2.same w4
    have p3 := p3.same w4
    generalize hG4 : upd (upd GL3 i4 (.tup [.str n2, .str n3])) t4 (.tup [.str "d", .ref i4]) = G4 at *
    refine ⟨_, rfl, tn, _, 3, _, rfl, rfl, SqT.of ht4, atI_nat (j := 3) rfl, _, rfl, tn, _, 4, _, rfl, rfl, SqT.of ht4, atI_nat (j := 4) rfl, (by show 2 ≤ sizeLine; decide), fun i5 ni5 => ⟨(by show 2 ≤ sizeLine; decide), fun t5 nt5 => ?_⟩⟩
    obtain ⟨p5, w5⟩ := PrAt.new (n := "e") (ms := [n3, n4]) ni5 nt5
    change PrAt (upd (upd G4 i5 (.tup [.str n3, .str n4])) t5 (.tup [.str "e", .ref i5])) t5 _ at p5
    change Same G4 (upd (upd G4 i5 (.tup [.str n3, .str n4])) t5 (.tup [.str "e", .ref i5])) at w5
    have g5 := g4.trans w5
    have hl3 := w5 _ _ hl3
    have ht5 := g5 _ _ htn
    have p1 := p1.same w5
    have p2 := p2.same w5
    have p3 := p3.same w5
    have p4 := p4.same w5
    generalize hG5 : upd (upd G4 i5 (.tup [.str n3, .str n4])) t5 (.tup [.str "e", .ref i5]) = G5 at *
    refine ⟨_, rfl, tn, _, 4, _, rfl, rfl, SqT.of ht5, atI_nat (j := 4) rfl, _, rfl, tn, _, 5, _, rfl, rfl, SqT.of ht5, atI_nat (j := 5) rfl, (by show 2 ≤ sizeLine; decide), fun i6 ni6 => ⟨(by show 2 ≤ sizeLine; decide), fun t6 nt6 => ?_⟩⟩
    obtain ⟨p6, w6⟩ := PrAt.new (n := "f") (ms := [n4, n5]) ni6 nt6
    change PrAt (upd (upd G5 i6 (.tup [.str n4, .str n5])) t6 (.tup [.str "f", .ref i6])) t6 _ at p6
    change Same G5 (upd (upd G5 i6 (.tup [.str n4, .str n5])) t6 (.tup [.str "f", .ref i6])) at w6
    have g6 := g5.trans w6
    have hl3 := w6 _ _ hl3
    have ht6 := g6 _ _ htn
    have p1 := p1.same w6
    have p2 := p2.same w6
    have p3 := p3.same w6
    have p4 := p4.same w6
    have p5 := p5.same w6
    generalize hG6 : upd (upd G5 i6 (.tup [.str n4, .str n5])) t6 (.tup [.str "f", .ref i6]) = G6 at *
    refine ⟨_, rfl, tn, _, 2, _, rfl, rfl, SqT.of ht6, atI_nat (j := 2) rfl, _, rfl, tn, _, 5, _, rfl, rfl, SqT.of ht6, atI_nat (j := 5) rfl, (by show 2 ≤ sizeLine; decide), fun i7 ni7 => ⟨(by show 2 ≤ sizeLine; decide), fun t7 nt7 => ?_⟩⟩
    obtain ⟨p7, w7⟩ := PrAt.new (n := "g") (ms := [n2, n5]) ni7 nt7
    change PrAt (upd (upd G6 i7 (.tup [.str n2, .str n5])) t7 (.tup [.str "g", .ref i7])) t7 _ at p7
    change Same G6 (upd (upd G6 i7 (.tup [.str n2, .str n5])) t7 (.tup [.str "g", .ref i7])) at w7
    have g7 := g6.trans w7
    have hl3 := w7 _ _ hl3
    have ht7 := g7 _ _ htn
    have p1 := p1.same w7
    have p2 := p2.same w7
    have p3 := p3.same w7
    have p4 := p4.same w7
    have p5 := p5.same w7
    have p6 := p6.same w7
    generalize hG7 : upd (upd G6 i7 (.tup [.str n2, .str n5])) t7 (.tup [.str "g", .ref i7]) = G7 at *
    refine ⟨(by show 4 ≤ sizeLine; decide), fun l7 nl7 => ?_⟩
    have wl7 := same_new nl7 (o := .lst [.ref t4, .ref t5, .ref t6, .ref t7])
    have hl7 : upd G7 l7 (.lst [.ref t4, .ref t5, .ref t6, .ref t7]) l7 = some (.lst [.ref t4, .ref t5, .ref t6, .ref t7]) := upd_same
    have g7 := g7.trans wl7
    have ht7 := g7 _ _ htn
    have p1 := p1.same wl7
    have p2 := p2.same wl7
    have p3 := p3.same wl7
    have p4 := p4.same wl7
    have p5 := p5.same wl7
    have p6 := p6.same wl7
    have p7 := p7.same wl7
    have hl3 := wl7 _ _ hl3
    generalize hGl7 : upd G7 l7 (.lst [.ref t4, .ref t5, .ref t6, .ref t7]) = GL7 at *
    have ps : Paired (PrAt GL7) [t1, t2, t3, t4, t5, t6, t7] [("a", [n0, n1]), ("b", [n1, n2]), ("c", [n0, n2]), ("d", [n2, n3]), ("e", [n3, n4]), ("f", [n4, n5]), ("g", [n2, n5])] :=
      .cons p1 (.cons p2 (.cons p3 (.cons p4 (.cons p5 (.cons p6 (.cons p7 .nil))))))
    have eE : eightG n0 n1 n2 n3 n4 n5 = [(("a", [n0, n1]) : Str × List Str), ("b", [n1, n2]), ("c", [n0, n2]), ("d", [n2, n3]), ("e", [n3, n4]), ("f", [n4, n5]), ("g", [n2, n5])].map kE := rfl
    clear p1 p2 p3 p4 p5 p6 p7 w1 w2 w3 w4 w5 w6 w7 hG1 hG2 hG3 hG4 hG5 hG6 hG7 g0 g1 g2 g3 g4 g5 g6 ht0 ht1 ht2 ht3 ht4 ht5 ht6 wl7 hGl7
    -- eight
    refine ⟨_, rfl, _, rfl, _, rfl, l3, l7, _, _, rfl, rfl, hl3, hl7, (by show 7 ≤ sizeLine; decide), fun lc nlc => ?_⟩
    have zc := same_new nlc (o := .lst ([.ref t1, .ref t2, .ref t3] ++ [.ref t4, .ref t5, .ref t6, .ref t7]))
    have hlc : upd GL7 lc (.lst ([.ref t1, .ref t2, .ref t3] ++ [.ref t4, .ref t5, .ref t6, .ref t7])) lc = some (.lst ([t1, t2, t3, t4, t5, t6, t7].map V.ref)) := upd_same
    have ps := Paired.mapP ps fun _ _ h => PrAt.same h zc
    have g8 := g7.trans zc
    generalize upd GL7 lc (.lst ([.ref t1, .ref t2, .ref t3] ++ [.ref t4, .ref t5, .ref t6, .ref t7])) = G8 at hlc ps g8 ⊢
    clear zc hl3 hl7 g7 ht7
    refine ⟨lc, rfl, ⟨_, SqL.of hlc⟩, fun D nD => lc_newG (walk_list (xs := [t1, t2, t3, t4, t5, t6, t7].map V.ref)) (eightG n0 n1 n2 n3 n4 n5) (by rfl) (by show 7 ≤ 40001; decide) nD (fun _ s' => SqL.of (s' _ _ hlc)) (fun i x q0 H2 H3 k e hg0 s2 hY hk => ?_) fun H11 as s11 hD hps => ?_⟩
    · obtain ⟨rfl, hv⟩ := hY
      rw [List.getElem?_map] at hv
      obtain ⟨t, ht, rfl⟩ := Option.map_eq_some_iff.mp hv
      obtain ⟨pr, hpr, ii, e1, e2⟩ := pair_at ps ht
      have eg : q0 = kE pr := by
        rw [eE, List.getElem?_map, hpr] at hg0
        exact (Option.some.inj hg0).symm
      refine ⟨t, [.str pr.1, .ref ii], rfl, SqT.of (s2 _ _ e1), rfl, .str pr.1, _, rfl, .ref ii, [], rfl, rfl, rfl, _, rfl, _, rfl, _, rfl, rfl, _, rfl, ?_⟩
      by_cases cj : pr.1 = ("e" : Str)
      · refine ifT (decide_eq_true (congrArg V.str cj)) ⟨(by show 3 ≤ sizeLine; decide), fun t nt => ?_⟩
        have zt := same_new nt (o := .tup [.str pr.1, .ref ii, .str "wrap"])
        refine hk t _ zt ?_
        rw [eg]
        unfold kE
        rw [if_pos cj]
        exact ⟨ii, upd_same, zt _ _ (s2 _ _ e2)⟩
      · refine ifF (decide_eq_false fun z => cj (V.str.inj z)) ⟨(by show 3 ≤ sizeLine; decide), fun t nt => ?_⟩
        have zt := same_new nt (o := .tup [.str pr.1, .ref ii, .str "open"])
        refine hk t _ zt ?_
        rw [eg]
        unfold kE
        rw [if_neg cj]
        exact ⟨ii, upd_same, zt _ _ (s2 _ _ e2)⟩
    have g9 := g8.trans s11
    clear g8 s11 hlc ps eE
    refine ⟨D, _, rfl, .inl ⟨SqL.of hD, fun gt ngt => ⟨(by show 2 ≤ sizeLine; decide), fun wt nwt => ?_⟩⟩⟩
    have z1 := same_new ngt (o := .tup (as.map V.ref))
    have z2 := same_new nwt (o := .tup [.ref tn, .ref gt])
    have hw : WorldAt (upd (upd H11 gt (.tup (as.map V.ref))) wt (.tup [.ref tn, .ref gt])) wt tn gt as [n0, n1, n2, n3, n4, n5, n6, n7, n8, n9] (eightG n0 n1 n2 n3 n4 n5) := ⟨upd_same, z2 _ _ (z1 _ _ (g9 _ _ htn)), z2 _ _ upd_same, Paired.mapP hps fun _ _ h => h.same (z1.trans z2)⟩
    have s2 := g9.trans (z1.trans z2)
    generalize upd (upd H11 gt (.tup (as.map V.ref))) wt (.tup [.ref tn, .ref gt]) = H12 at hw s2 ⊢
    clear z1 z2 hps hD g9
    have sub6 : ∀ x ∈ [n0, n1, n2, n3, n4, n5], x ∈ [n0, n1, n2, n3, n4, n5, n6, n7, n8, n9] := fun x hx => List.mem_of_mem_take (i := 6) hx
    have nd6 : [n0, n1, n2, n3, n4, n5].Nodup := (asc.imp fun h => h.ne).sublist (show [n0, n1, n2, n3, n4, n5].Sublist [n0, n1, n2, n3, n4, n5, n6, n7, n8, n9] from List.take_sublist 6 [n0, n1, n2, n3, n4, n5, n6, n7, n8, n9])
    refine ⟨_, rfl, wt, tn, gt, as, _, _, rfl, hw, eight_fine (Nat.le_refl 10) okt sub6, fun H13 s13 => ?_⟩
    rw [eight_told nd6 sub6]
    have s33 := s2.trans s13
    clear s2 s13 hw sub6 nd6
    refine ⟨(by show 0 ≤ sizeLine; decide), fun u1 nu1 => ⟨(by show 1 ≤ sizeLine; decide), fun u2 nu2 => ⟨(by show 3 ≤ sizeLine; decide), fun u3 nu3 => ?_⟩⟩⟩
    have y1 := same_new nu1 (o := .tup [])
    have y2 := same_new nu2 (o := .tup [.str "e"])
    have y3 := same_new nu3 (o := .lst [.int 4, .ref u1, .ref u2])
    have ft := fitH (o := some 4) (a := []) (b := ["e"]) (fun n e => by cases e; decide) nm0 (nmA (nm_of (by decide +kernel) (by decide +kernel)))
    refine ⟨_, toldD (some 4) [] ["e"], rfl, dt3 upd_same (.int _) (y3 _ _ (y2 _ _ upd_same)) (y3 _ _ upd_same), ft.sh, ft.de, ft.ln, rfl, _, rfl, ifF (by simp) ?_⟩
    have yy := y1.trans (y2.trans y3)
    have s34 := s33.trans yy
    generalize upd (upd (upd H13 u1 (.tup [])) u2 (.tup [.str "e"])) u3 (.lst [.int 4, .ref u1, .ref u2]) = G0 at s34 ⊢
    clear y1 y2 y3 yy ft s33
    have ht0 := s34 _ _ htn
    -- shared
    refine ⟨_, rfl, 4, rfl, tn, _, rfl, SqT.of ht0, (by show ¬(HT.sIx 10 0 none = 0 ∧ HT.sIx 10 10 (some 4) = 10); decide), fun r1 nr1 => ?_⟩
    rw [c04]
    have z1 := same_new nr1 (o := .tup ([n0, n1, n2, n3].map V.str))
    have hr1 : upd G0 r1 (.tup ([n0, n1, n2, n3].map V.str)) r1 = some (.tup ([n0, n1, n2, n3].map V.str)) := upd_same
    have s35 := s34.trans z1
    generalize upd G0 r1 (.tup ([n0, n1, n2, n3].map V.str)) = G1 at hr1 s35 ⊢
    have ht1 := s35 _ _ htn
    refine ⟨_, rfl, 4, rfl, tn, _, rfl, SqT.of ht1, (by show ¬(HT.sIx 10 0 none = 0 ∧ HT.sIx 10 10 (some 4) = 10); decide), fun m1 nm1 => ?_⟩
    rw [c04]
    refine ⟨(by show 3 ≤ sizeLine; decide), fun t1 nt1 => ?_⟩
    have z2 := same_new nm1 (o := .tup ([n0, n1, n2, n3].map V.str))
    have z3 := same_new nt1 (o := .tup [.str "m", .ref m1, .str "wrap"])
    have q1 : GateAt (upd (upd G1 m1 (.tup ([n0, n1, n2, n3].map V.str))) t1 (.tup [.str "m", .ref m1, .str "wrap"])) t1 ("m", [n0, n1, n2, n3], "wrap") := ⟨m1, upd_same, z3 _ _ upd_same⟩
    have z23 := z2.trans z3
    generalize upd (upd G1 m1 (.tup ([n0, n1, n2, n3].map V.str))) t1 (.tup [.str "m", .ref m1, .str "wrap"]) = G2 at q1 z23 ⊢
    have hr1 := z23 _ _ hr1
    have s36 := s35.trans z23
    clear z1 z2 z3 z23 ht0 ht1 s34 s35
    have ht2 := s36 _ _ htn
    refine ⟨_, rfl, 2, rfl, tn, _, rfl, SqT.of ht2, (by show ¬(HT.sIx 10 0 none = 0 ∧ HT.sIx 10 10 (some 2) = 10); decide), fun m2 nm2 => ?_⟩
    rw [c02]
    refine ⟨(by show 3 ≤ sizeLine; decide), fun t2 nt2 => ?_⟩
    have z2 := same_new nm2 (o := .tup ([n0, n1].map V.str))
    have z3 := same_new nt2 (o := .tup [.str "n", .ref m2, .str "open"])
    have q2 : GateAt (upd (upd G2 m2 (.tup ([n0, n1].map V.str))) t2 (.tup [.str "n", .ref m2, .str "open"])) t2 ("n", [n0, n1], "open") := ⟨m2, upd_same, z3 _ _ upd_same⟩
    have z23 := z2.trans z3
    generalize upd (upd G2 m2 (.tup ([n0, n1].map V.str))) t2 (.tup [.str "n", .ref m2, .str "open"]) = G3 at q2 z23 ⊢
    have hr1 := z23 _ _ hr1
    have q1 := q1.same z23
    have s37 := s36.trans z23
    clear z2 z3 z23 ht2 s36
    have ht3 := s37 _ _ htn
    refine ⟨_, rfl, 2, rfl, 4, rfl, tn, _, rfl, SqT.of ht3, (by show ¬(HT.sIx 10 0 (some 2) = 0 ∧ HT.sIx 10 10 (some 4) = 10); decide), fun m3 nm3 => ?_⟩
    rw [c24]
    refine ⟨(by show 3 ≤ sizeLine; decide), fun t3 nt3 => ?_⟩
    have z2 := same_new nm3 (o := .tup ([n2, n3].map V.str))
    have z3 := same_new nt3 (o := .tup [.str "o", .ref m3, .str "wrap"])
    have q3 : GateAt (upd (upd G3 m3 (.tup ([n2, n3].map V.str))) t3 (.tup [.str "o", .ref m3, .str "wrap"])) t3 ("o", [n2, n3], "wrap") := ⟨m3, upd_same, z3 _ _ upd_same⟩
    have z23 := z2.trans z3
    generalize upd (upd G3 m3 (.tup ([n2, n3].map V.str))) t3 (.tup [.str "o", .ref m3, .str "wrap"]) = G4 at q3 z23 ⊢
    have hr1 := z23 _ _ hr1
    have q1 := q1.same z23
    have q2 := q2.same z23
    have s38 := s37.trans z23
    clear z2 z3 z23 ht3 s37
    refine ⟨(by show 3 ≤ sizeLine; decide), fun gt ngt => ⟨(by show 2 ≤ sizeLine; decide), fun wt nwt => ?_⟩⟩
    have z1 := same_new ngt (o := .tup [.ref t1, .ref t2, .ref t3])
    have z2 := same_new nwt (o := .tup [.ref r1, .ref gt])
    have z12 := z1.trans z2
    have hw : WorldAt (upd (upd G4 gt (.tup [.ref t1, .ref t2, .ref t3])) wt (.tup [.ref r1, .ref gt])) wt r1 gt [t1, t2, t3] [n0, n1, n2, n3] (sharedG n0 n1 n2 n3) := ⟨upd_same, z12 _ _ hr1, z2 _ _ upd_same, .cons (q1.same z12) (.cons (q2.same z12) (.cons (q3.same z12) .nil))⟩
    have s39 := s38.trans z12
    generalize upd (upd G4 gt (.tup [.ref t1, .ref t2, .ref t3])) wt (.tup [.ref r1, .ref gt]) = G5 at hw s39 ⊢
    have ok4 : ∀ s ∈ [n0, n1, n2, n3], NmOk s := fun s hs => okt s (List.mem_of_mem_take (i := 4) hs)
    refine ⟨_, rfl, wt, r1, gt, _, _, _, rfl, hw, shared_fine ok4, fun H13 s13 => ?_⟩
    rw [shared_told b01.ne b23.ne]
    have s40 := s39.trans s13
    refine ⟨(by show 0 ≤ sizeLine; decide), fun u1 nu1 => ⟨(by show 2 ≤ sizeLine; decide), fun u2 nu2 => ⟨(by show 3 ≤ sizeLine; decide), fun u3 nu3 => ?_⟩⟩⟩
    have y1 := same_new nu1 (o := .tup [])
    have y2 := same_new nu2 (o := .tup [.str "m", .str "o"])
    have y3 := same_new nu3 (o := .lst [.int 2, .ref u1, .ref u2])
    have ft := fitH (o := some 2) (a := []) (b := ["m", "o"]) (fun n e => by cases e; decide) nm0 ⟨by decide, fun s hs => by
      simp only [List.mem_cons, List.not_mem_nil, or_false] at hs
      rcases hs with rfl | rfl <;> exact nm_of (by decide +kernel) (by decide +kernel)⟩
    refine ⟨_, toldD (some 2) [] ["m", "o"], rfl, dt3 upd_same (.int _) (y3 _ _ (y2 _ _ upd_same)) (y3 _ _ upd_same), ft.sh, ft.de, ft.ln, rfl, ?_⟩
    rw [decide_eq_true rfl]
    exact done _ (s40.trans (y1.trans (y2.trans y3)))
end
end K14

set_option Elab.async false
set_option linter.all false
set_option maxRecDepth 100000
set_option maxHeartbeats 4000000
namespace K14
open PySem PySem.Spec PyProof.Rows L2 WT
abbrev st_law : Stmt := top 28
theorem sc_law : FnScope ["_law_script", "_law_k", "_law_hand_here", "_law_turn"] ["_law_script"] (defScope st_law) := ⟨rfl, rfl, rfl, by decide +kernel, rfl, by decide +kernel, by decide +kernel⟩
section
variable {P : Program} {w : World} {K : PySem.W.Frag} {mg : Str → Option Value} {base : Heap} {f fR fO fH : Addr} {fd fdR fdO fdH : FuncData}
def spLaw (K : PySem.W.Frag) : Sp := fun vs H Q _ => ∃ (a : Addr) (ns : List Int), vs = [.ref a] ∧ SqL K H a (ns.map V.int) ∧ ns.length ≤ 63 ∧ ∀ H', Q (.bl true) H'
theorem all_true : ∀ n : Nat, (List.replicate n true).all id = true
  | 0 => rfl
  | n + 1 => by
    rw [List.replicate_succ, List.all_cons, all_true n]
    rfl
theorem ok_law (F : Fun K "law" "law" st_law f fd) (B : Blt mg) (F_rings_right : Df P w K mg base "_law_rings_right" 7 fR fdR ["_law_hand_here"] spRings)
    (F_others_right : Df P w K mg base "_law_others_right" 7 fO fdO ["_law_hand_here"] spRings) (F_hand : Df P w K mg base "_law_hand" 1 fH fdH ["_law_script", "_law_k"] (spHand K)) :
    FnG P w K mg base CX0 8 f fd ["_law_script"] (spLaw K) := by
  refine okG F sc_law (fun vs H Q E h => ?_) (fun cdv A outer s H vs Q E hgd hr h => ?_)
  · obtain ⟨_, _, rfl, _⟩ := h
    rfl
  · obtain ⟨a, ns, rfl, hs, hl, q⟩ := h
    refine ⟨_, (pss_cons (ps_for PassesOwn.never rfl (pi_range1 (by rfl) B.range (pa_cons (pe_callB (call_max2 rfl) (by rfl) B.max (by decide +kernel) (pa_cons pe_int (pa_cons (pe_callB (call_min2 rfl) (by rfl) B.min (by decide +kernel) (pa_cons pe_int (pa_cons (pe_callB call_len (by rfl) B.len (by decide +kernel) (pa_cons (pv 0) pa_nil)) pa_nil))) pa_nil))) pa_nil)) (pg_name (i := 1) sc_law.nd rfl (.inl rfl))
       (pss_cons (ps_set (i := 2) sc_law.nd rfl (.inr rfl) (pe_callG hgd F_hand.G (hr.mono (by decide)) (by rfl) F_hand.g F_hand.kp F_hand.bd pass0 (pa_cons (pv 0) (pa_cons (pv 1) pa_nil))))
       (pss_one (ps_if (PW.pt (pw_or (pt_not (pt_val (pe_callB (cr_all rfl) (by rfl) B.all (by decide +kernel) (pa_cons (pe_lc (own := [("_law_turn", 3)]) (by rfl) sc_law.nd (pi_range1 (by rfl) B.range (pa_cons pe_int pa_nil)) (blkOk_by (own := [("_law_turn", 3)]) (N := ["_law_script", "_law_k", "_law_hand_here", "_law_turn"]) (sc := defScope st_law) (by decide +kernel)) (fun _ _ _ _ _ => (pg_name (i := 3) sc_law.nd rfl (.inl rfl))) (fun _ _ _ _ _ => pts_nil) (fun _ _ _ _ _ => (pe_callG hgd F_rings_right.G (hr.mono (by decide)) (by rfl) F_rings_right.g F_rings_right.kp F_rings_right.bd pass0 (pa_cons (pv 2) pa_nil)))) pa_nil)))) (pw_or1 (pt_not (pt_val (pe_callG hgd F_others_right.G (hr.mono (by decide)) (by rfl) F_others_right.g F_others_right.kp F_others_right.bd pass0 (pa_cons (pv 2) pa_nil)))))))
        (pss_one (ps_ret pe_bl))
        pss_nil))))
      (pss_one (ps_ret pe_bl))), ?_⟩
    refine ⟨_, rfl, _, ns.length, rfl, .inl ⟨_, hs, (List.length_map ..).symm⟩, 3, (ns.length : Int), rfl, 1, _, rfl, ?_⟩
    obtain ⟨n, hn, hn1, hn2⟩ : ∃ n : Int, (if (if (ns.length : Int) < 3 then (ns.length : Int) else 3) > 1 then (if (ns.length : Int) < 3 then (ns.length : Int) else 3) else 1) = n ∧ 1 ≤ n ∧ n ≤ 3 := by
      refine ⟨_, rfl, ?_, ?_⟩ <;> (split <;> split <;> omega)
    rw [hn]
    refine ⟨n, rfl, by omega, by omega, for_it (walk_range (lo := 0) (n := n.toNat)) (fun j σ H' => ∃ v1 v2 : Option V, σ = [some (.ref a), v1, v2, none] ∧ Same H H') ⟨none, none, rfl, fun _ _ e => e⟩ (fun _ _ _ _ _ => trivial) (fun j v σ H2 H3 hj hP hY => ?_) (fun σ H2 hP => ?_)⟩
    · obtain ⟨v1, v2, rfl, sj⟩ := hP
      obtain ⟨rfl, rfl⟩ := hY
      refine ⟨_, rfl, _, rfl, a, ns, j, by simp, sj.seq hs, hl, by omega, fun H4 p s4 np hp => ?_⟩
      refine ⟨3, rfl, by omega, by omega, fun D nD => ?_⟩
      have nDp : D ≠ p := Ne.symm (hp.ne_new nD)
      refine lc_range (lo := 0) (n := 3) (fun i H' => But p H4 H' ∧ PotAt H' p (60 * i) ∧ H' D = some (.lst ((List.replicate i true).map V.bl))) ⟨.of (same_new nD), hp.same (same_new nD), upd_same⟩ (fun i H5 hi hP => ?_) fun H5 hP => ?_
      · obtain ⟨b5, p5, d5⟩ := hP
        refine ⟨rfl, _, rfl, p, 60 * i, rfl, p5, by omega, fun H7 b7 p7 => ?_⟩
        refine ⟨_, b7 _ _ nDp d5, ?_, fun c o nc ec => ?_, ?_, ?_⟩
        · rw [List.length_map, List.length_replicate]
          exact Nat.lt_of_lt_of_le (show i < 5 by omega) (by decide)
        · rw [upd_ne (ne_of_none ec nD)]
          exact b7 _ _ nc (b5 _ _ nc ec)
        · exact (pot_upd p7 (Ne.symm nDp)).more (by omega)
        · rw [upd_same, List.replicate_succ', List.map_append]
          rfl
      · obtain ⟨b5, p5, d5⟩ := hP
        refine ⟨D, List.replicate 3 true, rfl, SqL.of d5, ?_⟩
        rw [all_true]
        refine ⟨_, rfl, ifF rfl ⟨_, rfl, p, _, rfl, p5, by omega, fun H7 b7 p7 => ⟨_, rfl, ifF rfl ⟨_, _, rfl, fun c o ec => ?_⟩⟩⟩⟩
        have nc := ne_of_none (sj _ _ ec) np
        exact b7 _ _ nc (b5 _ _ nc (s4 _ _ (sj _ _ ec)))
    · exact q _
end
end K14

set_option Elab.async false
set_option linter.all false
set_option maxRecDepth 100000
set_option maxHeartbeats 4000000
/-! The law's own call, from a promise that holds where no repr is under way. -/
namespace WT
open PySem PySem.Spec PyProof.Rows L2
section
variable {P : Program} {w : World} {K : PySem.W.Frag} {mg mb : Str → Option Value} {k : Nat} {fa a : Addr} {fd : FuncData} {x : Str} {sp : Sp} {s1 : Shared} {us : List Value} {ns : List Int}
/-- from an abstract heap that tracks the script alone, or nothing -/
theorem lawG_core {H : Hp} (kin : K.In s1.heap) (hg : s1.heap.Ns mainGlobals mg) (hb : s1.heap.Ns builtinsNs mb) (hbb : ∀ y : Str, y ≠ "__name__" → mb y = bootBuiltins y) (hlim : s1.heap.NoLimit) (hgn : s1.gens = #[])
    (ha : s1.heap.get? a = some { cls := .type "list", data := .seq us.toArray }) (hr : Room k callerA) (F : ∀ base : Heap, K.In base → base.Ns mainGlobals mg → FnG P w K mg base CX0 k fa fd [x] sp)
    (hbind : ∀ (s : Shared) (u : Value), BindsTo s fd ⟨[u], []⟩ [(x, u)]) (hO : Only H) (hok : HOk P w H s1.heap) (hA : ∀ b, H b ≠ none → b = a) (hK : H a ≠ none → K.lookup a = none)
    (hsp : sp [.ref a] H (fun v _ => v = .bl true) fun _ _ _ => False) :
    codeAny (model P w) callerA (.call (.ref fa) ⟨[.ref a], []⟩) (fun r s' => r = .ok (.ret (.bool true)) ∧ OldK s1.heap s'.heap ∧ s'.os = s1.os ∧ AllBare s'.gens) s1 := by
  have nodict : ∀ {b : Addr} {o : Obj} {es : Array DictEntry} {ep : Nat}, s1.heap.get? b = some o → o.data = .dict es ep → H b = none := by
    intro b o es ep e d
    cases q : H b with
    | none => rfl
    | some u =>
      obtain rfl := hA b (by rw [q]; exact fun z => nomatch z)
      rw [ha] at e
      cases e
      cases d
  have ns : ∀ {b : Addr} {m : Str → Option Value}, s1.heap.Ns b m → (hidT s1.heap H).Ns b m := by
    intro b m hn
    obtain ⟨o, es, ep, e, d, r⟩ := hn
    exact ⟨o, es, ep, hidT_get e (nodict e d), d, r⟩
  have kin' : K.In (hidT s1.heap H) := by
    intro b o e
    refine hidT_get (kin b o e) ?_
    cases q : H b with
    | none => rfl
    | some u =>
      have eb := hA b (by rw [q]; exact fun z => nomatch z)
      rw [eb] at e q
      rw [hK (by rw [q]; exact fun z => nomatch z)] at e
      cases e
  obtain ⟨mc, l1, l2⟩ := hlim
  have md : Mod K mg (hidT s1.heap H) := ⟨kin', ns hg, ⟨mb, ns hb, hbb⟩, ⟨mc, ns l1, l2⟩⟩
  have e0 : Env0 P w K mg (hidT s1.heap H) callerA [] s1 H :=
    { frames := rfl, mod := md, bs := fun b o e => of_hidT e, bsz := Nat.le_of_eq (hidT_size _ _), funs := trivial, frf := fun b z => absurd (show b ∈ ([] : List Addr) from z) (by simp), hok := hok, bare := .of_eq hgn }
  refine codeAny_mono ((F _ kin' (ns hg)).run callerA [] s1 H ⟨[.ref a], []⟩ [.ref a] [.ref a] _ _ rfl hr e0 (hbind s1 (.ref a)) (.cons rfl .nil) hsp) fun r s' h => ?_
  match r, h with
  | .error e, h => exact h.elim
  | .ok .next, h => exact h.elim
  | .ok .brk, h => exact h.elim
  | .ok .cont, h => exact h.elim
  | .ok (.ret u), h =>
    obtain ⟨v, H', os, bare, un, hok', rv, q⟩ := h
    have q' : v = .bl true := q
    subst q'
    obtain rfl : u = Value.bool true := rv
    refine ⟨rfl, OldK.of_keep fun b o e => ?_, os, bare⟩
    rcases hO b with z | ⟨ob, xs, z⟩
    · exact un.keep b o e z (fun y => absurd (show b ∈ ([] : List Addr) from y) (by simp)) (by simp)
    · have e1 := (hok b _ z).1
      have e2 := (hok' b _ (un.frzs b ob _ z)).1
      rw [e] at e1
      cases e1
      exact e2
theorem lawG_call (kin : K.In s1.heap) (hg : s1.heap.Ns mainGlobals mg) (hb : s1.heap.Ns builtinsNs mb) (hbb : ∀ y : Str, y ≠ "__name__" → mb y = bootBuiltins y) (hlim : s1.heap.NoLimit) (hgn : s1.gens = #[])
    (ha : s1.heap.get? a = some { cls := .type "list", data := .seq us.toArray }) (hi : IntsAre us ns) (hl : ns.length ≤ sizeLine) (hr : Room k callerA)
    (F : ∀ base : Heap, K.In base → base.Ns mainGlobals mg → FnG P w K mg base CX0 k fa fd [x] sp) (hbind : ∀ (s : Shared) (u : Value), BindsTo s fd ⟨[u], []⟩ [(x, u)])
    (hsp : ∀ H : Hp, Only H → SqL K H a (ns.map V.int) → sp [.ref a] H (fun v _ => v = .bl true) fun _ _ _ => False) :
    codeAny (model P w) callerA (.call (.ref fa) ⟨[.ref a], []⟩) (fun r s' => r = .ok (.ret (.bool true)) ∧ OldK s1.heap s'.heap ∧ s'.os = s1.os ∧ AllBare s'.gens) s1 := by
  have rv := vals_ints hi
  cases hk : K.lookup a with
  | some o =>
    have e := kin a o hk
    rw [ha] at e
    cases e
    have no : ∀ b : Addr, (fun _ : Addr => (none : Option HO)) b = none := fun _ => rfl
    refine lawG_core (H := fun _ => none) kin hg hb hbb hlim hgn ha hr F hbind (fun b => .inl rfl) (fun b u z => nomatch z) (fun b z => absurd (no b) z) (fun z => absurd (no a) z) (hsp _ (fun b => .inl rfl) ?_)
    exact .inr ⟨_, us.toArray, _, hk, rfl, rfl, rfl, by rw [List.size_toArray, hi.length]; exact hl, by simpa using rv⟩
  | none =>
    obtain ⟨H, hH⟩ : ∃ H : Hp, ∀ b, H b = if b = a then some (.frz { cls := .type "list", data := .seq us.toArray } (.lst (ns.map V.int))) else none := ⟨_, fun _ => rfl⟩
    have at_ : H a = some (.frz { cls := .type "list", data := .seq us.toArray } (.lst (ns.map V.int))) := by rw [hH a, if_pos rfl]
    have off : ∀ b, b ≠ a → H b = none := fun b z => by rw [hH b, if_neg z]
    have only : Only H := fun b => by
      by_cases z : b = a
      · rw [z]
        exact .inr ⟨_, _, at_⟩
      · exact .inl (off b z)
    refine lawG_core (H := H) kin hg hb hbb hlim hgn ha hr F hbind only (fun b u z => ?_) (fun b z => ?_) (fun _ => hk) (hsp H only (.inl (.inr ⟨_, at_⟩)))
    · by_cases e : b = a
      · subst e
        rw [at_] at z
        cases z
        exact ⟨ha, by rw [List.length_map]; exact hl, us, _, rv, ha⟩
      · rw [off b e] at z
        cases z
    · by_cases e : b = a
      · exact e
      · exact absurd (off b e) z
end
/-- the goal that the head leaves, from the law's promise -/
theorem walkG {l : PySem.W.OpenLaw} {n k : Nat} {q : Program} {loose : List Str} {XP : (Str → Option Value) → Heap → Prop} {YP : World → Heap → Prop} {d : DefRec} {K : Params → PySem.W.Frag} {sp : World → Sp} {x : Str}
    (hn : l.most = some n) (hn2 : n ≤ sizeLine) (hdf : d.params.defaults = []) (hr : Room k callerA) (hY : ∀ (w : World) (h : Heap), YP w h → (K w.params).In h)
    (F : ∀ (w : World) (mg : Str → Option Value) (fa : Addr) (h : Heap), (K w.params).In h → h.Ns mainGlobals mg → mg d.name = some (.ref fa) →
      ∃ fd : FuncData, (∀ (s : Shared) (u : Value), BindsTo s fd ⟨[u], []⟩ [(x, u)]) ∧ ∀ base : Heap, (K w.params).In base → base.Ns mainGlobals mg → FnG l.prog w (K w.params) mg base CX0 k fa fd [x] (sp w))
    (hsp : ∀ (w : World) (H : Hp) (a : Addr) (ns : List Int), ns.length ≤ n → Only H → SqL (K w.params) H a (ns.map V.int) → sp w [.ref a] H (fun v _ => v = .bl true) fun _ _ _ => False) :
    PySem.W.WalkO q loose XP YP l.row.toRowW d [] (fun f vs => PySem.call f vs) := by
  refine Att.attach_call hn hdf fun w s0 s1 mg mb fa o pm cd doc a vs ns G Y ho hd hcd hmg hobj hints hlen hgn => ?_
  have kin := hY w _ Y
  obtain ⟨fd, hb, hF⟩ := F w mg fa _ kin G.T.g hmg
  exact lawG_call kin G.T.g G.T.b G.T.builtins G.T.nolimit hgn hobj hints (Nat.le_trans hlen hn2) hr hF hb fun H hO hS => hsp w H a ns hlen hO hS
end WT

set_option Elab.async false
set_option linter.all false
set_option maxRecDepth 100000
set_option maxHeartbeats 4000000
namespace K14
open PySem PySem.Spec PyProof.Rows L2 WT
theorem all_mk {l : PySem.W.OpenLaw} {w : World} {K : PySem.W.Frag} {h : Heap} {mg : Str → Option Value} {fa : Addr} {f_gateway_names f_wrapping_names f_members f_exits f_shortest_path f_connected f_zone_of f_zones f_cycle_through f_quiet f_noticed f_shortest_cycle f_girth f_hand f_take f_of f_mixed f_names f_told f_ring f_rings_right f_others_right f_law : Addr} (X : K.In h) (G : h.Ns mainGlobals mg) (hfa : mg "law" = some (.ref fa))
    {od_gateway_names an_gateway_names : Option Addr} {sl_gateway_names : Array (Option Value)} {oc_gateway_names kV_gateway_names dc_gateway_names pm_gateway_names cd_gateway_names ct_gateway_names : Value}
    {od_wrapping_names an_wrapping_names : Option Addr} {sl_wrapping_names : Array (Option Value)} {oc_wrapping_names kV_wrapping_names dc_wrapping_names pm_wrapping_names cd_wrapping_names ct_wrapping_names : Value}
    {od_members an_members : Option Addr} {sl_members : Array (Option Value)} {oc_members kV_members dc_members pm_members cd_members ct_members : Value}
    {od_exits an_exits : Option Addr} {sl_exits : Array (Option Value)} {oc_exits kV_exits dc_exits pm_exits cd_exits ct_exits : Value}
    {od_shortest_path an_shortest_path : Option Addr} {sl_shortest_path : Array (Option Value)} {oc_shortest_path kV_shortest_path dc_shortest_path pm_shortest_path cd_shortest_path ct_shortest_path : Value}
    {od_connected an_connected : Option Addr} {sl_connected : Array (Option Value)} {oc_connected dc_connected pm_connected cd_connected ct_connected : Value}
    {D_connected T_connected : Addr} {odt_connected : Option Addr} {slt_connected : Array (Option Value)} {nt_connected : Nat}
    {od_zone_of an_zone_of : Option Addr} {sl_zone_of : Array (Option Value)} {oc_zone_of kV_zone_of dc_zone_of pm_zone_of cd_zone_of ct_zone_of : Value}
    {od_zones an_zones : Option Addr} {sl_zones : Array (Option Value)} {oc_zones kV_zones dc_zones pm_zones cd_zones ct_zones : Value}
    {od_cycle_through an_cycle_through : Option Addr} {sl_cycle_through : Array (Option Value)} {oc_cycle_through kV_cycle_through dc_cycle_through pm_cycle_through cd_cycle_through ct_cycle_through : Value}
    {od_quiet an_quiet : Option Addr} {sl_quiet : Array (Option Value)} {oc_quiet kV_quiet dc_quiet pm_quiet cd_quiet ct_quiet : Value}
    {od_noticed an_noticed : Option Addr} {sl_noticed : Array (Option Value)} {oc_noticed kV_noticed dc_noticed pm_noticed cd_noticed ct_noticed : Value}
    {od_shortest_cycle an_shortest_cycle : Option Addr} {sl_shortest_cycle : Array (Option Value)} {oc_shortest_cycle kV_shortest_cycle dc_shortest_cycle pm_shortest_cycle cd_shortest_cycle ct_shortest_cycle : Value}
    {od_girth an_girth : Option Addr} {sl_girth : Array (Option Value)} {oc_girth kV_girth dc_girth pm_girth cd_girth ct_girth : Value}
    {od_hand an_hand : Option Addr} {sl_hand : Array (Option Value)} {oc_hand kV_hand dc_hand pm_hand cd_hand ct_hand : Value}
    {od_take an_take : Option Addr} {sl_take : Array (Option Value)} {oc_take kV_take dc_take pm_take cd_take ct_take : Value}
    {od_of an_of : Option Addr} {sl_of : Array (Option Value)} {oc_of kV_of dc_of pm_of cd_of ct_of : Value}
    {od_mixed an_mixed : Option Addr} {sl_mixed : Array (Option Value)} {oc_mixed kV_mixed dc_mixed pm_mixed cd_mixed ct_mixed : Value}
    {od_names an_names : Option Addr} {sl_names : Array (Option Value)} {oc_names kV_names dc_names pm_names cd_names ct_names : Value}
    {od_told an_told : Option Addr} {sl_told : Array (Option Value)} {oc_told kV_told dc_told pm_told cd_told ct_told : Value}
    {od_ring an_ring : Option Addr} {sl_ring : Array (Option Value)} {oc_ring kV_ring dc_ring pm_ring cd_ring ct_ring : Value}
    {od_rings_right an_rings_right : Option Addr} {sl_rings_right : Array (Option Value)} {oc_rings_right kV_rings_right dc_rings_right pm_rings_right cd_rings_right ct_rings_right : Value}
    {od_others_right an_others_right : Option Addr} {sl_others_right : Array (Option Value)} {oc_others_right kV_others_right dc_others_right pm_others_right cd_others_right ct_others_right : Value}
    {od_law an_law : Option Addr} {sl_law : Array (Option Value)} {oc_law kV_law dc_law pm_law cd_law ct_law : Value}
    (a_gateway_names : PySem.W.nsIn K mainGlobals "gateway_names" = some (some (.ref f_gateway_names)))
    (l_gateway_names : K.lookup f_gateway_names = some ⟨oc_gateway_names, od_gateway_names, .func (PySem.W.fnOf "gateway_names" "gateway_names" (defArgs st_gateway_names) (defBody st_gateway_names) (defScope st_gateway_names) .none kV_gateway_names dc_gateway_names pm_gateway_names an_gateway_names cd_gateway_names ct_gateway_names), sl_gateway_names⟩)
    (c_gateway_names : PySem.W.codeIn K cd_gateway_names "gateway_names" = true)
    (k_gateway_names : PySem.W.keepIn K (.ref f_gateway_names) = true)
    (a_wrapping_names : PySem.W.nsIn K mainGlobals "wrapping_names" = some (some (.ref f_wrapping_names)))
    (l_wrapping_names : K.lookup f_wrapping_names = some ⟨oc_wrapping_names, od_wrapping_names, .func (PySem.W.fnOf "wrapping_names" "wrapping_names" (defArgs st_wrapping_names) (defBody st_wrapping_names) (defScope st_wrapping_names) .none kV_wrapping_names dc_wrapping_names pm_wrapping_names an_wrapping_names cd_wrapping_names ct_wrapping_names), sl_wrapping_names⟩)
    (c_wrapping_names : PySem.W.codeIn K cd_wrapping_names "wrapping_names" = true)
    (k_wrapping_names : PySem.W.keepIn K (.ref f_wrapping_names) = true)
    (a_members : PySem.W.nsIn K mainGlobals "members" = some (some (.ref f_members)))
    (l_members : K.lookup f_members = some ⟨oc_members, od_members, .func (PySem.W.fnOf "members" "members" (defArgs st_members) (defBody st_members) (defScope st_members) .none kV_members dc_members pm_members an_members cd_members ct_members), sl_members⟩)
    (c_members : PySem.W.codeIn K cd_members "members" = true)
    (k_members : PySem.W.keepIn K (.ref f_members) = true)
    (a_exits : PySem.W.nsIn K mainGlobals "exits" = some (some (.ref f_exits)))
    (l_exits : K.lookup f_exits = some ⟨oc_exits, od_exits, .func (PySem.W.fnOf "exits" "exits" (defArgs st_exits) (defBody st_exits) (defScope st_exits) .none kV_exits dc_exits pm_exits an_exits cd_exits ct_exits), sl_exits⟩)
    (c_exits : PySem.W.codeIn K cd_exits "exits" = true)
    (k_exits : PySem.W.keepIn K (.ref f_exits) = true)
    (a_shortest_path : PySem.W.nsIn K mainGlobals "shortest_path" = some (some (.ref f_shortest_path)))
    (l_shortest_path : K.lookup f_shortest_path = some ⟨oc_shortest_path, od_shortest_path, .func (PySem.W.fnOf "shortest_path" "shortest_path" (defArgs st_shortest_path) (defBody st_shortest_path) (defScope st_shortest_path) .none kV_shortest_path dc_shortest_path pm_shortest_path an_shortest_path cd_shortest_path ct_shortest_path), sl_shortest_path⟩)
    (c_shortest_path : PySem.W.codeIn K cd_shortest_path "shortest_path" = true)
    (k_shortest_path : PySem.W.keepIn K (.ref f_shortest_path) = true)
    (a_connected : PySem.W.nsIn K mainGlobals "connected" = some (some (.ref f_connected)))
    (l_connected : K.lookup f_connected = some ⟨oc_connected, od_connected, .func (PySem.W.fnOf "connected" "connected" (defArgs st_connected) (defBody st_connected) (defScope st_connected) .none (.ref D_connected) dc_connected pm_connected an_connected cd_connected ct_connected), sl_connected⟩)
    (c_connected : PySem.W.codeIn K cd_connected "connected" = true)
    (k_connected : PySem.W.keepIn K (.ref f_connected) = true)
    (n_connected : PySem.W.nsIn K D_connected "without" = some (some (.ref T_connected)))
    (t_connected : K.lookup T_connected = some ⟨.type "tuple", odt_connected, .seq #[] nt_connected, slt_connected⟩)
    (a_zone_of : PySem.W.nsIn K mainGlobals "zone_of" = some (some (.ref f_zone_of)))
    (l_zone_of : K.lookup f_zone_of = some ⟨oc_zone_of, od_zone_of, .func (PySem.W.fnOf "zone_of" "zone_of" (defArgs st_zone_of) (defBody st_zone_of) (defScope st_zone_of) .none kV_zone_of dc_zone_of pm_zone_of an_zone_of cd_zone_of ct_zone_of), sl_zone_of⟩)
    (c_zone_of : PySem.W.codeIn K cd_zone_of "zone_of" = true)
    (k_zone_of : PySem.W.keepIn K (.ref f_zone_of) = true)
    (a_zones : PySem.W.nsIn K mainGlobals "zones" = some (some (.ref f_zones)))
    (l_zones : K.lookup f_zones = some ⟨oc_zones, od_zones, .func (PySem.W.fnOf "zones" "zones" (defArgs st_zones) (defBody st_zones) (defScope st_zones) .none kV_zones dc_zones pm_zones an_zones cd_zones ct_zones), sl_zones⟩)
    (c_zones : PySem.W.codeIn K cd_zones "zones" = true)
    (k_zones : PySem.W.keepIn K (.ref f_zones) = true)
    (a_cycle_through : PySem.W.nsIn K mainGlobals "cycle_through" = some (some (.ref f_cycle_through)))
    (l_cycle_through : K.lookup f_cycle_through = some ⟨oc_cycle_through, od_cycle_through, .func (PySem.W.fnOf "cycle_through" "cycle_through" (defArgs st_cycle_through) (defBody st_cycle_through) (defScope st_cycle_through) .none kV_cycle_through dc_cycle_through pm_cycle_through an_cycle_through cd_cycle_through ct_cycle_through), sl_cycle_through⟩)
    (c_cycle_through : PySem.W.codeIn K cd_cycle_through "cycle_through" = true)
    (k_cycle_through : PySem.W.keepIn K (.ref f_cycle_through) = true)
    (a_quiet : PySem.W.nsIn K mainGlobals "quiet" = some (some (.ref f_quiet)))
    (l_quiet : K.lookup f_quiet = some ⟨oc_quiet, od_quiet, .func (PySem.W.fnOf "quiet" "quiet" (defArgs st_quiet) (defBody st_quiet) (defScope st_quiet) .none kV_quiet dc_quiet pm_quiet an_quiet cd_quiet ct_quiet), sl_quiet⟩)
    (c_quiet : PySem.W.codeIn K cd_quiet "quiet" = true)
    (k_quiet : PySem.W.keepIn K (.ref f_quiet) = true)
    (a_noticed : PySem.W.nsIn K mainGlobals "noticed" = some (some (.ref f_noticed)))
    (l_noticed : K.lookup f_noticed = some ⟨oc_noticed, od_noticed, .func (PySem.W.fnOf "noticed" "noticed" (defArgs st_noticed) (defBody st_noticed) (defScope st_noticed) .none kV_noticed dc_noticed pm_noticed an_noticed cd_noticed ct_noticed), sl_noticed⟩)
    (c_noticed : PySem.W.codeIn K cd_noticed "noticed" = true)
    (k_noticed : PySem.W.keepIn K (.ref f_noticed) = true)
    (a_shortest_cycle : PySem.W.nsIn K mainGlobals "shortest_cycle" = some (some (.ref f_shortest_cycle)))
    (l_shortest_cycle : K.lookup f_shortest_cycle = some ⟨oc_shortest_cycle, od_shortest_cycle, .func (PySem.W.fnOf "shortest_cycle" "shortest_cycle" (defArgs st_shortest_cycle) (defBody st_shortest_cycle) (defScope st_shortest_cycle) .none kV_shortest_cycle dc_shortest_cycle pm_shortest_cycle an_shortest_cycle cd_shortest_cycle ct_shortest_cycle), sl_shortest_cycle⟩)
    (c_shortest_cycle : PySem.W.codeIn K cd_shortest_cycle "shortest_cycle" = true)
    (k_shortest_cycle : PySem.W.keepIn K (.ref f_shortest_cycle) = true)
    (a_girth : PySem.W.nsIn K mainGlobals "girth" = some (some (.ref f_girth)))
    (l_girth : K.lookup f_girth = some ⟨oc_girth, od_girth, .func (PySem.W.fnOf "girth" "girth" (defArgs st_girth) (defBody st_girth) (defScope st_girth) .none kV_girth dc_girth pm_girth an_girth cd_girth ct_girth), sl_girth⟩)
    (c_girth : PySem.W.codeIn K cd_girth "girth" = true)
    (k_girth : PySem.W.keepIn K (.ref f_girth) = true)
    (a_hand : PySem.W.nsIn K mainGlobals "_law_hand" = some (some (.ref f_hand)))
    (l_hand : K.lookup f_hand = some ⟨oc_hand, od_hand, .func (PySem.W.fnOf "_law_hand" "_law_hand" (defArgs st_hand) (defBody st_hand) (defScope st_hand) .none kV_hand dc_hand pm_hand an_hand cd_hand ct_hand), sl_hand⟩)
    (c_hand : PySem.W.codeIn K cd_hand "_law_hand" = true)
    (k_hand : PySem.W.keepIn K (.ref f_hand) = true)
    (a_take : PySem.W.nsIn K mainGlobals "_law_take" = some (some (.ref f_take)))
    (l_take : K.lookup f_take = some ⟨oc_take, od_take, .func (PySem.W.fnOf "_law_take" "_law_take" (defArgs st_take) (defBody st_take) (defScope st_take) .none kV_take dc_take pm_take an_take cd_take ct_take), sl_take⟩)
    (c_take : PySem.W.codeIn K cd_take "_law_take" = true)
    (k_take : PySem.W.keepIn K (.ref f_take) = true)
    (a_of : PySem.W.nsIn K mainGlobals "_law_of" = some (some (.ref f_of)))
    (l_of : K.lookup f_of = some ⟨oc_of, od_of, .func (PySem.W.fnOf "_law_of" "_law_of" (defArgs st_of) (defBody st_of) (defScope st_of) .none kV_of dc_of pm_of an_of cd_of ct_of), sl_of⟩)
    (c_of : PySem.W.codeIn K cd_of "_law_of" = true)
    (k_of : PySem.W.keepIn K (.ref f_of) = true)
    (a_mixed : PySem.W.nsIn K mainGlobals "_law_mixed" = some (some (.ref f_mixed)))
    (l_mixed : K.lookup f_mixed = some ⟨oc_mixed, od_mixed, .func (PySem.W.fnOf "_law_mixed" "_law_mixed" (defArgs st_mixed) (defBody st_mixed) (defScope st_mixed) .none kV_mixed dc_mixed pm_mixed an_mixed cd_mixed ct_mixed), sl_mixed⟩)
    (c_mixed : PySem.W.codeIn K cd_mixed "_law_mixed" = true)
    (k_mixed : PySem.W.keepIn K (.ref f_mixed) = true)
    (a_names : PySem.W.nsIn K mainGlobals "_law_names" = some (some (.ref f_names)))
    (l_names : K.lookup f_names = some ⟨oc_names, od_names, .func (PySem.W.fnOf "_law_names" "_law_names" (defArgs st_names) (defBody st_names) (defScope st_names) .none kV_names dc_names pm_names an_names cd_names ct_names), sl_names⟩)
    (c_names : PySem.W.codeIn K cd_names "_law_names" = true)
    (k_names : PySem.W.keepIn K (.ref f_names) = true)
    (a_told : PySem.W.nsIn K mainGlobals "_law_told" = some (some (.ref f_told)))
    (l_told : K.lookup f_told = some ⟨oc_told, od_told, .func (PySem.W.fnOf "_law_told" "_law_told" (defArgs st_told) (defBody st_told) (defScope st_told) .none kV_told dc_told pm_told an_told cd_told ct_told), sl_told⟩)
    (c_told : PySem.W.codeIn K cd_told "_law_told" = true)
    (k_told : PySem.W.keepIn K (.ref f_told) = true)
    (a_ring : PySem.W.nsIn K mainGlobals "_law_ring" = some (some (.ref f_ring)))
    (l_ring : K.lookup f_ring = some ⟨oc_ring, od_ring, .func (PySem.W.fnOf "_law_ring" "_law_ring" (defArgs st_ring) (defBody st_ring) (defScope st_ring) .none kV_ring dc_ring pm_ring an_ring cd_ring ct_ring), sl_ring⟩)
    (c_ring : PySem.W.codeIn K cd_ring "_law_ring" = true)
    (k_ring : PySem.W.keepIn K (.ref f_ring) = true)
    (a_rings_right : PySem.W.nsIn K mainGlobals "_law_rings_right" = some (some (.ref f_rings_right)))
    (l_rings_right : K.lookup f_rings_right = some ⟨oc_rings_right, od_rings_right, .func (PySem.W.fnOf "_law_rings_right" "_law_rings_right" (defArgs st_rings_right) (defBody st_rings_right) (defScope st_rings_right) .none kV_rings_right dc_rings_right pm_rings_right an_rings_right cd_rings_right ct_rings_right), sl_rings_right⟩)
    (c_rings_right : PySem.W.codeIn K cd_rings_right "_law_rings_right" = true)
    (k_rings_right : PySem.W.keepIn K (.ref f_rings_right) = true)
    (a_others_right : PySem.W.nsIn K mainGlobals "_law_others_right" = some (some (.ref f_others_right)))
    (l_others_right : K.lookup f_others_right = some ⟨oc_others_right, od_others_right, .func (PySem.W.fnOf "_law_others_right" "_law_others_right" (defArgs st_others_right) (defBody st_others_right) (defScope st_others_right) .none kV_others_right dc_others_right pm_others_right an_others_right cd_others_right ct_others_right), sl_others_right⟩)
    (c_others_right : PySem.W.codeIn K cd_others_right "_law_others_right" = true)
    (k_others_right : PySem.W.keepIn K (.ref f_others_right) = true)
    (a_law : PySem.W.nsIn K mainGlobals "law" = some (some (.ref f_law)))
    (l_law : K.lookup f_law = some ⟨oc_law, od_law, .func (PySem.W.fnOf "law" "law" (defArgs st_law) (defBody st_law) (defScope st_law) .none kV_law dc_law pm_law an_law cd_law ct_law), sl_law⟩)
    (c_law : PySem.W.codeIn K cd_law "law" = true)
    (k_law : PySem.W.keepIn K (.ref f_law) = true)
    (z_len : PySem.W.nsIn K mainGlobals "len" = some none)
    (z_abs : PySem.W.nsIn K mainGlobals "abs" = some none)
    (z_int : PySem.W.nsIn K mainGlobals "int" = some none)
    (z_range : PySem.W.nsIn K mainGlobals "range" = some none)
    (z_list : PySem.W.nsIn K mainGlobals "list" = some none)
    (z_tuple : PySem.W.nsIn K mainGlobals "tuple" = some none)
    (z_sorted : PySem.W.nsIn K mainGlobals "sorted" = some none)
    (z_min : PySem.W.nsIn K mainGlobals "min" = some none)
    (z_max : PySem.W.nsIn K mainGlobals "max" = some none)
    (z_all : PySem.W.nsIn K mainGlobals "all" = some none)
    (z_repr : PySem.W.nsIn K mainGlobals "repr" = some none)
    (z_dict : PySem.W.nsIn K mainGlobals "dict" = some none)
    (z_enumerate : PySem.W.nsIn K mainGlobals "enumerate" = some none)
    (z_zip : PySem.W.nsIn K mainGlobals "zip" = some none) :
    ∃ fd : FuncData, (∀ (s : Shared) (v : Value), BindsTo s fd ⟨[v], []⟩ [("_law_script", v)]) ∧ ∀ base : Heap, K.In base → base.Ns mainGlobals mg → FnG l.prog w K mg base CX0 8 fa fd ["_law_script"] (spLaw K) := by
  have e := hfa.symm.trans (PySem.W.mg_of X G a_law)
  cases e
  have Fgateway_names := fun_mk (x := "gateway_names") (st := st_gateway_names) l_gateway_names c_gateway_names k_gateway_names
  have bgateway_names := Fgateway_names.binds (ps := ["world"]) fun _ _ _ _ _ _ us hl => match us, hl with | [_], _ => rfl
  have Fwrapping_names := fun_mk (x := "wrapping_names") (st := st_wrapping_names) l_wrapping_names c_wrapping_names k_wrapping_names
  have bwrapping_names := Fwrapping_names.binds (ps := ["world"]) fun _ _ _ _ _ _ us hl => match us, hl with | [_], _ => rfl
  have Fmembers := fun_mk (x := "members") (st := st_members) l_members c_members k_members
  have bmembers := Fmembers.binds (ps := ["world", "name"]) fun _ _ _ _ _ _ us hl => match us, hl with | [_, _], _ => rfl
  have Fexits := fun_mk (x := "exits") (st := st_exits) l_exits c_exits k_exits
  have bexits := Fexits.binds (ps := ["world", "region", "without"]) fun _ _ _ _ _ _ us hl => match us, hl with | [_, _, _], _ => rfl
  have Fshortest_path := fun_mk (x := "shortest_path") (st := st_shortest_path) l_shortest_path c_shortest_path k_shortest_path
  have bshortest_path := Fshortest_path.binds (ps := ["world", "one", "other", "without"]) fun _ _ _ _ _ _ us hl => match us, hl with | [_, _, _, _], _ => rfl
  have Fconnected := fun_mk (x := "connected") (st := st_connected) l_connected c_connected k_connected
  have Fzone_of := fun_mk (x := "zone_of") (st := st_zone_of) l_zone_of c_zone_of k_zone_of
  have bzone_of := Fzone_of.binds (ps := ["world", "region"]) fun _ _ _ _ _ _ us hl => match us, hl with | [_, _], _ => rfl
  have Fzones := fun_mk (x := "zones") (st := st_zones) l_zones c_zones k_zones
  have bzones := Fzones.binds (ps := ["world"]) fun _ _ _ _ _ _ us hl => match us, hl with | [_], _ => rfl
  have Fcycle_through := fun_mk (x := "cycle_through") (st := st_cycle_through) l_cycle_through c_cycle_through k_cycle_through
  have bcycle_through := Fcycle_through.binds (ps := ["world", "name"]) fun _ _ _ _ _ _ us hl => match us, hl with | [_, _], _ => rfl
  have Fquiet := fun_mk (x := "quiet") (st := st_quiet) l_quiet c_quiet k_quiet
  have bquiet := Fquiet.binds (ps := ["world"]) fun _ _ _ _ _ _ us hl => match us, hl with | [_], _ => rfl
  have Fnoticed := fun_mk (x := "noticed") (st := st_noticed) l_noticed c_noticed k_noticed
  have bnoticed := Fnoticed.binds (ps := ["world"]) fun _ _ _ _ _ _ us hl => match us, hl with | [_], _ => rfl
  have Fshortest_cycle := fun_mk (x := "shortest_cycle") (st := st_shortest_cycle) l_shortest_cycle c_shortest_cycle k_shortest_cycle
  have bshortest_cycle := Fshortest_cycle.binds (ps := ["world"]) fun _ _ _ _ _ _ us hl => match us, hl with | [_], _ => rfl
  have Fgirth := fun_mk (x := "girth") (st := st_girth) l_girth c_girth k_girth
  have bgirth := Fgirth.binds (ps := ["world"]) fun _ _ _ _ _ _ us hl => match us, hl with | [_], _ => rfl
  have Fhand := fun_mk (x := "_law_hand") (st := st_hand) l_hand c_hand k_hand
  have bhand := Fhand.binds (ps := ["_law_script", "_law_k"]) fun _ _ _ _ _ _ us hl => match us, hl with | [_, _], _ => rfl
  have Ftake := fun_mk (x := "_law_take") (st := st_take) l_take c_take k_take
  have btake := Ftake.binds (ps := ["_law_hand_here", "_law_many"]) fun _ _ _ _ _ _ us hl => match us, hl with | [_, _], _ => rfl
  have Fof := fun_mk (x := "_law_of") (st := st_of) l_of c_of k_of
  have bof := Fof.binds (ps := ["_law_hand_here", "_law_some"]) fun _ _ _ _ _ _ us hl => match us, hl with | [_, _], _ => rfl
  have Fmixed := fun_mk (x := "_law_mixed") (st := st_mixed) l_mixed c_mixed k_mixed
  have bmixed := Fmixed.binds (ps := ["_law_hand_here", "_law_some"]) fun _ _ _ _ _ _ us hl => match us, hl with | [_, _], _ => rfl
  have Fnames := fun_mk (x := "_law_names") (st := st_names) l_names c_names k_names
  have bnames := Fnames.binds (ps := ["_law_hand_here", "_law_count"]) fun _ _ _ _ _ _ us hl => match us, hl with | [_, _], _ => rfl
  have Ftold := fun_mk (x := "_law_told") (st := st_told) l_told c_told k_told
  have btold := Ftold.binds (ps := ["_law_world"]) fun _ _ _ _ _ _ us hl => match us, hl with | [_], _ => rfl
  have Fring := fun_mk (x := "_law_ring") (st := st_ring) l_ring c_ring k_ring
  have bring := Fring.binds (ps := ["_law_regions", "_law_names_here", "_law_wrapping"]) fun _ _ _ _ _ _ us hl => match us, hl with | [_, _, _], _ => rfl
  have Frings_right := fun_mk (x := "_law_rings_right") (st := st_rings_right) l_rings_right c_rings_right k_rings_right
  have brings_right := Frings_right.binds (ps := ["_law_hand_here"]) fun _ _ _ _ _ _ us hl => match us, hl with | [_], _ => rfl
  have Fothers_right := fun_mk (x := "_law_others_right") (st := st_others_right) l_others_right c_others_right k_others_right
  have bothers_right := Fothers_right.binds (ps := ["_law_hand_here"]) fun _ _ _ _ _ _ us hl => match us, hl with | [_], _ => rfl
  have Flaw := fun_mk (x := "law") (st := st_law) l_law c_law k_law
  have blaw := Flaw.binds (ps := ["_law_script"]) fun _ _ _ _ _ _ us hl => match us, hl with | [_], _ => rfl
  have B : Blt mg := ⟨PySem.W.mg_none_of X G z_len, PySem.W.mg_none_of X G z_abs, PySem.W.mg_none_of X G z_int, PySem.W.mg_none_of X G z_range, PySem.W.mg_none_of X G z_list, PySem.W.mg_none_of X G z_tuple, PySem.W.mg_none_of X G z_sorted, PySem.W.mg_none_of X G z_min, PySem.W.mg_none_of X G z_max, PySem.W.mg_none_of X G z_all, PySem.W.mg_none_of X G z_repr, PySem.W.mg_none_of X G z_dict, PySem.W.mg_none_of X G z_enumerate⟩
  have hzip : mg "zip" = none := PySem.W.mg_none_of X G z_zip
  have hint : mg "int" = none := PySem.W.mg_none_of X G z_int
  refine ⟨PySem.W.fnOf "law" "law" (defArgs st_law) (defBody st_law) (defScope st_law) .none kV_law dc_law pm_law an_law cd_law ct_law, fun s v => .of_eq rfl, fun base _ _ => ?_⟩
  · have Dexits : DfO l.prog w K mg base "exits" 1 f_exits _ _ _ := ⟨PySem.W.mg_of X G a_exits, k_exits, bexits, ok_exits Fexits⟩
    have Dshortest_path : DfO l.prog w K mg base "shortest_path" 2 f_shortest_path _ _ _ := ⟨PySem.W.mg_of X G a_shortest_path, k_shortest_path, bshortest_path, ok_shortest_path Fshortest_path Dexits⟩
    have Dconnected := dk_connected (T := T_connected) (mg := mg) (base := base) (P := l.prog) (w := w) rfl l_connected c_connected k_connected n_connected (PySem.W.mg_of X G a_connected) (ok_connected Fconnected Dshortest_path)
    have Dwrapping_names : DfO l.prog w K mg base "wrapping_names" 1 f_wrapping_names _ _ _ := ⟨PySem.W.mg_of X G a_wrapping_names, k_wrapping_names, bwrapping_names, ok_wrapping_names Fwrapping_names B⟩
    have Dzone_of : DfO l.prog w K mg base "zone_of" 4 f_zone_of _ _ _ := ⟨PySem.W.mg_of X G a_zone_of, k_zone_of, bzone_of, ok_zone_of Fzone_of B Dwrapping_names Dconnected⟩
    have Dzones : DfO l.prog w K mg base "zones" 5 f_zones _ _ _ := ⟨PySem.W.mg_of X G a_zones, k_zones, bzones, ok_zones Fzones B Dzone_of⟩
    have Dgateway_names : DfO l.prog w K mg base "gateway_names" 1 f_gateway_names _ _ _ := ⟨PySem.W.mg_of X G a_gateway_names, k_gateway_names, bgateway_names, ok_gateway_names Fgateway_names B⟩
    have Dmembers : DfO l.prog w K mg base "members" 1 f_members _ _ _ := ⟨PySem.W.mg_of X G a_members, k_members, bmembers, ok_members Fmembers⟩
    have Dcycle_through : DfO l.prog w K mg base "cycle_through" 3 f_cycle_through _ _ _ := ⟨PySem.W.mg_of X G a_cycle_through, k_cycle_through, bcycle_through, ok_cycle_through Fcycle_through B hzip Dmembers Dshortest_path⟩
    have Dquiet : DfO l.prog w K mg base "quiet" 4 f_quiet _ _ _ := ⟨PySem.W.mg_of X G a_quiet, k_quiet, bquiet, ok_quiet Fquiet B Dgateway_names Dcycle_through⟩
    have Dnoticed : DfO l.prog w K mg base "noticed" 4 f_noticed _ _ _ := ⟨PySem.W.mg_of X G a_noticed, k_noticed, bnoticed, ok_noticed Fnoticed B Dwrapping_names Dcycle_through⟩
    have Dshortest_cycle : DfO l.prog w K mg base "shortest_cycle" 4 f_shortest_cycle _ _ _ := ⟨PySem.W.mg_of X G a_shortest_cycle, k_shortest_cycle, bshortest_cycle, ok_shortest_cycle Fshortest_cycle B Dwrapping_names Dcycle_through⟩
    have Dgirth : DfO l.prog w K mg base "girth" 5 f_girth _ _ _ := ⟨PySem.W.mg_of X G a_girth, k_girth, bgirth, ok_girth Fgirth B Dshortest_cycle⟩
    have Dtake : Df l.prog w K mg base "_law_take" 1 f_take _ _ _ := ⟨PySem.W.mg_of X G a_take, k_take, btake, ok_take Ftake⟩
    have Dhand : Df l.prog w K mg base "_law_hand" 1 f_hand _ _ _ := ⟨PySem.W.mg_of X G a_hand, k_hand, bhand, ok_hand Fhand B⟩
    have Dof : Df l.prog w K mg base "_law_of" 2 f_of _ _ _ := ⟨PySem.W.mg_of X G a_of, k_of, bof, ok_of Fof B Dtake⟩
    have Dmixed : Df l.prog w K mg base "_law_mixed" 2 f_mixed _ _ _ := ⟨PySem.W.mg_of X G a_mixed, k_mixed, bmixed, ok_mixed Fmixed B Dtake⟩
    have Dnames : Df l.prog w K mg base "_law_names" 3 f_names _ _ _ := ⟨PySem.W.mg_of X G a_names, k_names, bnames, ok_names Fnames B Dtake Dof⟩
    have Dtold : Df l.prog w K mg base "_law_told" 6 f_told _ _ _ := ⟨PySem.W.mg_of X G a_told, k_told, btold, ok_told Ftold B Dgirth.df Dquiet.df Dnoticed.df⟩
    have Dring : Df l.prog w K mg base "_law_ring" 1 f_ring _ _ _ := ⟨PySem.W.mg_of X G a_ring, k_ring, bring, ok_ring Fring B⟩
    have Drings_right : Df l.prog w K mg base "_law_rings_right" 7 f_rings_right _ _ _ := ⟨PySem.W.mg_of X G a_rings_right, k_rings_right, brings_right, ok_rings Frings_right B Dtake Dmixed Dnames Dring Dtold Dzones.df⟩
    have Dothers_right : Df l.prog w K mg base "_law_others_right" 7 f_others_right _ _ _ := ⟨PySem.W.mg_of X G a_others_right, k_others_right, bothers_right, ok_others Fothers_right B Dnames Dtold Dzones.df⟩
    exact ok_law Flaw B Drings_right Dothers_right Dhand
end K14

set_option Elab.async false
set_option linter.all false
open PySem PySem.W PyProof.Rows
set_option maxRecDepth 100000 in
set_option maxHeartbeats 0 in
theorem PySem.Challenge.cw_wraptrails_k14_worlds_known_by_hand_holds : PySem.Challenge.rw_wraptrails_k14_worlds_known_by_hand.Holds := by
  w_on; o_law; k_head; (case hw => w_witness2)
  k_fill
  refine WT.walkG (l := PySem.Challenge.rw_wraptrails_k14_worlds_known_by_hand) (n := 63) (k := 8) (x := "_law_script") (sp := fun w => K14.spLaw _) rfl (by decide) rfl ⟨rfl, by decide, by decide⟩ (fun w h Y => PySem.W.kIn_of Y) ?F (fun _ _ a ns hl _ hS => ⟨a, ns, rfl, hS, hl, fun _ => rfl⟩)
  case F =>
    intro w mg fa h KX G hmg
    refine' K14.all_mk KX G hmg ?a_gateway_names ?l_gateway_names ?c_gateway_names ?k_gateway_names ?a_wrapping_names ?l_wrapping_names ?c_wrapping_names ?k_wrapping_names ?a_members ?l_members ?c_members ?k_members ?a_exits ?l_exits ?c_exits ?k_exits ?a_shortest_path ?l_shortest_path ?c_shortest_path ?k_shortest_path ?a_connected ?l_connected ?c_connected ?k_connected ?n_connected ?t_connected ?a_zone_of ?l_zone_of ?c_zone_of ?k_zone_of ?a_zones ?l_zones ?c_zones ?k_zones ?a_cycle_through ?l_cycle_through ?c_cycle_through ?k_cycle_through ?a_quiet ?l_quiet ?c_quiet ?k_quiet ?a_noticed ?l_noticed ?c_noticed ?k_noticed ?a_shortest_cycle ?l_shortest_cycle ?c_shortest_cycle ?k_shortest_cycle ?a_girth ?l_girth ?c_girth ?k_girth ?a_hand ?l_hand ?c_hand ?k_hand ?a_take ?l_take ?c_take ?k_take ?a_of ?l_of ?c_of ?k_of ?a_mixed ?l_mixed ?c_mixed ?k_mixed ?a_names ?l_names ?c_names ?k_names ?a_told ?l_told ?c_told ?k_told ?a_ring ?l_ring ?c_ring ?k_ring ?a_rings_right ?l_rings_right ?c_rings_right ?k_rings_right ?a_others_right ?l_others_right ?c_others_right ?k_others_right ?a_law ?l_law ?c_law ?k_law ?z_len ?z_abs ?z_int ?z_range ?z_list ?z_tuple ?z_sorted ?z_min ?z_max ?z_all ?z_repr ?z_dict ?z_enumerate ?z_zip
    (case a_gateway_names => k_is)
    (case l_gateway_names => k_is)
    (case c_gateway_names => k_is)
    (case k_gateway_names => k_is)
    (case a_wrapping_names => k_is)
    (case l_wrapping_names => k_is)
    (case c_wrapping_names => k_is)
    (case k_wrapping_names => k_is)
    (case a_members => k_is)
    (case l_members => k_is)
    (case c_members => k_is)
    (case k_members => k_is)
    (case a_exits => k_is)
    (case l_exits => k_is)
    (case c_exits => k_is)
    (case k_exits => k_is)
    (case a_shortest_path => k_is)
    (case l_shortest_path => k_is)
    (case c_shortest_path => k_is)
    (case k_shortest_path => k_is)
    (case a_connected => k_is)
    (case l_connected => k_is)
    (case c_connected => k_is)
    (case k_connected => k_is)
    (case n_connected => k_is)
    (case t_connected => k_is)
    (case a_zone_of => k_is)
    (case l_zone_of => k_is)
    (case c_zone_of => k_is)
    (case k_zone_of => k_is)
    (case a_zones => k_is)
    (case l_zones => k_is)
    (case c_zones => k_is)
    (case k_zones => k_is)
    (case a_cycle_through => k_is)
    (case l_cycle_through => k_is)
    (case c_cycle_through => k_is)
    (case k_cycle_through => k_is)
    (case a_quiet => k_is)
    (case l_quiet => k_is)
    (case c_quiet => k_is)
    (case k_quiet => k_is)
    (case a_noticed => k_is)
    (case l_noticed => k_is)
    (case c_noticed => k_is)
    (case k_noticed => k_is)
    (case a_shortest_cycle => k_is)
    (case l_shortest_cycle => k_is)
    (case c_shortest_cycle => k_is)
    (case k_shortest_cycle => k_is)
    (case a_girth => k_is)
    (case l_girth => k_is)
    (case c_girth => k_is)
    (case k_girth => k_is)
    (case a_hand => k_is)
    (case l_hand => k_is)
    (case c_hand => k_is)
    (case k_hand => k_is)
    (case a_take => k_is)
    (case l_take => k_is)
    (case c_take => k_is)
    (case k_take => k_is)
    (case a_of => k_is)
    (case l_of => k_is)
    (case c_of => k_is)
    (case k_of => k_is)
    (case a_mixed => k_is)
    (case l_mixed => k_is)
    (case c_mixed => k_is)
    (case k_mixed => k_is)
    (case a_names => k_is)
    (case l_names => k_is)
    (case c_names => k_is)
    (case k_names => k_is)
    (case a_told => k_is)
    (case l_told => k_is)
    (case c_told => k_is)
    (case k_told => k_is)
    (case a_ring => k_is)
    (case l_ring => k_is)
    (case c_ring => k_is)
    (case k_ring => k_is)
    (case a_rings_right => k_is)
    (case l_rings_right => k_is)
    (case c_rings_right => k_is)
    (case k_rings_right => k_is)
    (case a_others_right => k_is)
    (case l_others_right => k_is)
    (case c_others_right => k_is)
    (case k_others_right => k_is)
    (case a_law => k_is)
    (case l_law => k_is)
    (case c_law => k_is)
    (case k_law => k_is)
    (case z_len => k_is)
    (case z_abs => k_is)
    (case z_int => k_is)
    (case z_range => k_is)
    (case z_list => k_is)
    (case z_tuple => k_is)
    (case z_sorted => k_is)
    (case z_min => k_is)
    (case z_max => k_is)
    (case z_all => k_is)
    (case z_repr => k_is)
    (case z_dict => k_is)
    (case z_enumerate => k_is)
    (case z_zip => k_is)
