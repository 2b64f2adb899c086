import PyProof.Rows.All
import Wide.All
import OpenK.AllK
import Wide.FinOn
import HandS.Base
import HandS.Call
import HandS.List
import HandS.Dict
import HandS.Words
import PyProof.Rows.ReprR
import HandS.Ends
import HandS.Exc
import HandS.ExcInit
import HandS.ExcIs
import KE.KExcIs
import HandS.ExcValue
import PyProof.ListStr
import HandS.ForMost
import HandS.Conv
import HandS.Walk
import HandS.Style
import KE.SortData
import PyProof.ReprLen
import HandS.Defaults
import KE.DataMinKey
import KE.DataMinMax
import PyProof.Rows.RuleIs
import HandS.IsInst
import PyProof.EqKinds
import PyProof.FactsAll.dict_1
import HandS.Lambda
import HandS.Strs
import KE.GoesMore
import KE.GoesZip
import HandS.Iter
import HandS.TupAny
import HandS.Codes
import PyProof.NeKinds
import HandS.Text
import KE.GoesEnum
import HandS.Zip
import HandS.Steps
import HandS.TupSets
import HandS.SetBool
import KE.KeyNested
import KE.KDictKeyed
import HandS.Comp
import KE.KDictZip
import PyProof.CollectIter
import PyProof.TupleOfGen
import HandS.Keys
import HandS.SetFor
import KE.KDictSum
import PyProof.TupleOfSeq
import HandS.TryOnly
import PySem.Challenge.RW_wraptrails_k13_great_worlds
set_option Elab.async false
set_option linter.all false
set_option maxRecDepth 100000
set_option maxHeartbeats 4000000
/-! repr of data: lists, tuples and dicts within one another. -/
namespace WT
open PySem
mutual
/-- the value v of the heap h is the data d; no dict of it is the one of all modules -/
inductive Sh (h : Heap) : Value → PyData → Prop
  | none : Sh h .none .none
  | bool (b) : Sh h (.bool b) (.bool b)
  | int (i t) : Sh h (.int i t) (.int i)
  | str (x t) : Sh h (.str x t) (.str x)
  | list {a o vs n xs} : h.get? a = some o → o.cls = .type "list" → o.data = .seq vs n → ShAll h vs.toList xs → Sh h (.ref a) (.list xs)
  | tuple {a o vs n xs} : h.get? a = some o → o.cls = .type "tuple" → o.data = .seq vs n → ShAll h vs.toList xs → Sh h (.ref a) (.tuple xs)
  | dict {a o es n ks vs} : h.get? a = some o → o.cls = .type "dict" → o.data = .dict es n → (a == sysModules) = false → ks.length = vs.length → ShAll h (es.toList.map (·.key)) ks → ShAll h (es.toList.map (·.val)) vs → Sh h (.ref a) (.dict (ks.zip vs))
inductive ShAll (h : Heap) : List Value → List PyData → Prop
  | nil : ShAll h [] []
  | cons {v vs d ds} : Sh h v d → ShAll h vs ds → ShAll h (v :: vs) (d :: ds)
end
theorem zip1 {α β : Type} : ∀ (ks : List α) (vs : List β), ks.length = vs.length → (ks.zip vs).map (·.1) = ks
  | [], _, _ => rfl
  | k :: ks, [], h => by cases h
  | k :: ks, v :: vs, h => by
    show k :: (ks.zip vs).map (·.1) = k :: ks
    rw [zip1 ks vs (Nat.succ.inj h)]
theorem zip2 {α β : Type} : ∀ (ks : List α) (vs : List β), ks.length = vs.length → (ks.zip vs).map (·.2) = vs
  | [], [], _ => rfl
  | [], v :: vs, h => by cases h
  | k :: ks, [], h => by cases h
  | k :: ks, v :: vs, h => by
    show v :: (ks.zip vs).map (·.2) = v :: vs
    rw [zip2 ks vs (Nat.succ.inj h)]
mutual
theorem Sh.reads {h : Heap} : ∀ {v : Value} {d : PyData}, Sh h v d → ∃ as, Reads h v d as
  | _, _, .none => ⟨_, .none⟩
  | _, _, .bool b => ⟨_, .bool b⟩
  | _, _, .int i t => ⟨_, .int i t⟩
  | _, _, .str x t => ⟨_, .str x t⟩
  | _, _, .list h1 h2 h3 h4 => let ⟨_, q⟩ := ShAll.reads h4; ⟨_, .list h1 h2 h3 q⟩
  | _, _, .tuple h1 h2 h3 h4 => let ⟨_, q⟩ := ShAll.reads h4; ⟨_, .tuple h1 h2 h3 q⟩
  | _, _, .dict (ks := ks) (vs := vs) h1 h2 h3 _ hl h4 h5 => by
    obtain ⟨_, q4⟩ := ShAll.reads h4
    obtain ⟨_, q5⟩ := ShAll.reads h5
    exact ⟨_, .dict h1 h2 h3 (by rw [zip1 ks vs hl]; exact q4) (by rw [zip2 ks vs hl]; exact q5)⟩
theorem ShAll.reads {h : Heap} : ∀ {vs : List Value} {ds : List PyData}, ShAll h vs ds → ∃ as, ReadsAll h vs ds as
  | _, _, .nil => ⟨_, .nil⟩
  | _, _, .cons r rs => let ⟨_, q⟩ := Sh.reads r; let ⟨_, q2⟩ := ShAll.reads rs; ⟨_, .cons q q2⟩
end
section
variable {prog : Program} {w : World} {h₀ : Heap}
mutual
theorem Sh.rk : ∀ {v : Value} {d : PyData}, Sh h₀ v d → d.showable = true → d.shown.length ≤ sizeLine → ∃ bs, ReadAtMost h₀ d.depth bs ∧ ReprK prog w bs h₀ d.depth v d.shown
  | _, _, .none, _, _ => ⟨[], fun _ z => (nomatch z), by rw [PyData.shown]; exact .of_is ReprIs.none _ _ _⟩
  | _, _, .bool b, _, _ => ⟨[], fun _ z => (nomatch z), by rw [PyData.shown]; exact .of_is (ReprIs.bool b) _ _ _⟩
  | _, _, .int i t, hs, _ => ⟨[], fun _ z => (nomatch z), by rw [PyData.shown]; exact .of_is (ReprIs.int t (by simpa [PyData.showable] using hs)) _ _ _⟩
  | _, _, .str x t, _, hz => ⟨[], fun _ z => (nomatch z), by rw [PyData.shown] at hz ⊢; exact .of_is (ReprIs.str x t hz) _ _ _⟩
  | _, _, .list (a := a) (vs := vs) (xs := xs) h1 h2 h3 h4, hs, hz => by
    rw [PyData.shown] at hz
    rw [PyData.showable] at hs
    obtain ⟨as, q4⟩ := ShAll.reads h4
    obtain ⟨bs, hb, hk⟩ := ShAll.rk h4 hs fun t ht => Nat.le_trans (listText_mem_le ht) hz
    have r : Reads h₀ (.ref a) (.list xs) (a :: as) := .list h1 h2 h3 q4
    have hna : a ∉ bs := not_mem_of_deeper r (by rw [PyData.depth]; omega) hb
    refine ⟨a :: bs, ReadAtMost.cons r (by rw [PyData.depth]; omega) hb, ?_⟩
    rw [PyData.depth, PyData.shown]
    obtain ⟨l⟩ := vs
    match l, h4, hk, h3 with
    | [], h4, _, h3 =>
      have h4' : ShAll h₀ [] xs := h4
      cases h4'
      rw [PyData.shownAll, listText_nil]
      exact ReprK.listEmpty h1 h2 h3
    | x :: l, _, hk, h3 => exact ReprK.list h1 h2 h3 hna (by simpa using hk.length_eq) fun i y e => hk.item i y (by simpa using e)
  | _, _, .tuple (a := a) (xs := xs) h1 h2 h3 h4, hs, hz => by
    rw [PyData.shown] at hz
    rw [PyData.showable] at hs
    obtain ⟨as, q4⟩ := ShAll.reads h4
    obtain ⟨bs, hb, hk⟩ := ShAll.rk h4 hs fun t ht => Nat.le_trans (tupleText_mem_le ht) hz
    have r : Reads h₀ (.ref a) (.tuple xs) as := .tuple h1 h2 h3 q4
    have hna : a ∉ bs := not_mem_of_deeper r (by rw [PyData.depth]; omega) hb
    refine ⟨a :: bs, ReadAtMost.cons r (by rw [PyData.depth]; omega) hb, ?_⟩
    rw [PyData.depth, PyData.shown]
    exact ReprK.tuple h1 h2 h3 hna hk
  | _, _, .dict (a := a) (es := es) (ks := ks) (vs := vs) h1 h2 h3 hsys hl h4 h5, hs, hz => by
    rw [PyData.shown] at hz
    rw [PyData.showable] at hs
    obtain ⟨as, q4⟩ := ShAll.reads h4
    obtain ⟨cs, q5⟩ := ShAll.reads h5
    have e1 := zip1 ks vs hl
    have e2 := zip2 ks vs hl
    obtain ⟨hs1, hs2⟩ := PyData.showableKv_split (ks.zip vs) hs
    rw [e1] at hs1
    rw [e2] at hs2
    obtain ⟨b1, hb1, k1⟩ := ShAll.rk h4 hs1 fun t ht => by
      obtain ⟨p, hp, hle⟩ := PyData.shownKv_key_le (ks.zip vs) t (by rw [e1]; exact ht)
      exact Nat.le_trans hle (Nat.le_trans (dictText_mem_le hp) hz)
    obtain ⟨b2, hb2, k2⟩ := ShAll.rk h5 hs2 fun t ht => by
      obtain ⟨p, hp, hle⟩ := PyData.shownKv_val_le (ks.zip vs) t (by rw [e2]; exact ht)
      exact Nat.le_trans hle (Nat.le_trans (dictText_mem_le hp) hz)
    have d1 := PyData.depthAll_keys_le (ks.zip vs)
    have d2 := PyData.depthAll_vals_le (ks.zip vs)
    rw [e1] at d1
    rw [e2] at d2
    have r : Reads h₀ (.ref a) (.dict (ks.zip vs)) (a :: as ++ cs) := .dict h1 h2 h3 (by rw [e1]; exact q4) (by rw [e2]; exact q5)
    have hb : ReadAtMost h₀ (PyData.depthKv (ks.zip vs)) (b1 ++ b2) := (hb1.mono d1).append (hb2.mono d2)
    have hna : a ∉ b1 ++ b2 := not_mem_of_deeper r (by rw [PyData.depth]; omega) hb
    refine ⟨a :: (b1 ++ b2), ReadAtMost.cons r (by rw [PyData.depth]; omega) hb, ?_⟩
    rw [PyData.depth, PyData.shown, PyData.shownKv_eq, e1, e2]
    exact ReprK.dict h1 h2 h3 hsys hna (ReprEntriesK.of_two es.toList _ _
      (k1.more_le (fun b hb => List.mem_append_left _ hb) d1) (k2.more_le (fun b hb => List.mem_append_right _ hb) d2))
theorem ShAll.rk : ∀ {vs : List Value} {ds : List PyData}, ShAll h₀ vs ds → PyData.showableAll ds = true → (∀ t ∈ PyData.shownAll ds, t.length ≤ sizeLine) →
    ∃ bs, ReadAtMost h₀ (PyData.depthAll ds) bs ∧ ReprAllK prog w bs h₀ (PyData.depthAll ds) vs (PyData.shownAll ds)
  | _, _, .nil, _, _ => ⟨[], fun _ z => (nomatch z), by rw [PyData.shownAll]; exact .nil⟩
  | _, _, .cons (d := d) (ds := ds) r rs, hs, hz => by
    rw [PyData.showableAll, Bool.and_eq_true] at hs
    rw [PyData.shownAll] at hz
    obtain ⟨b1, hb1, k1⟩ := Sh.rk r hs.1 (hz _ List.mem_cons_self)
    obtain ⟨b2, hb2, k2⟩ := ShAll.rk rs hs.2 fun t ht => hz t (List.mem_cons_of_mem _ ht)
    rw [PyData.depthAll, PyData.shownAll]
    exact ⟨b1 ++ b2, (hb1.mono (Nat.le_max_left _ _)).append (hb2.mono (Nat.le_max_right _ _)),
      .cons ((k1.more fun b hb => List.mem_append_left _ hb).level_le (Nat.le_max_left _ _)) (k2.more_le (fun b hb => List.mem_append_right _ hb) (Nat.le_max_right _ _))⟩
end
variable {A : Around} {E : Value → Shared → Prop} {s : Shared} {Q : Value → Shared → Prop}
theorem Sh.repr {v : Value} {d : PyData} (r : Sh s.heap v d) (hs : d.showable = true) (hz : d.shown.length ≤ sizeLine) (hg : A.guards = some []) (hu : A.units + (d.depth + 1) < cLine)
    (hQ : ∀ h' u tk, (∀ b o, s.heap.get? b = some o → h'.get? b = some o) → Q (.str d.shown u) { s with heap := h', toks := tk }) : wpAny (model prog w) A (call (.builtin "repr") [v]) Q E s := by
  have hid : ∀ b o, s.heap.get? b = some o → s.heap.get? b = some o := fun _ _ z => z
  cases r with
  | none =>
    rw [PyData.shown] at hQ
    exact PySem.P.repr_of_none (hQ s.heap _ _ hid)
  | bool b =>
    rw [PyData.shown] at hQ
    exact PySem.P.repr_of_bool (hQ s.heap _ _ hid)
  | int i t =>
    rw [PyData.shown] at hQ
    exact PySem.P.repr_of_int (by simpa [PyData.showable] using hs) (hQ s.heap _ _ hid)
  | str x t =>
    rw [PyData.shown] at hQ hz
    exact PySem.P.repr_of_str (hQ s.heap _ _ hid) hz
  | list h1 h2 h3 h4 =>
    rename_i a o vs n xs
    rw [PyData.shown] at hz hQ
    rw [PyData.showable] at hs
    rw [PyData.depth] at hu
    obtain ⟨as, q4⟩ := ShAll.reads h4
    obtain ⟨bs, hb, hk⟩ := ShAll.rk (prog := prog) (w := w) h4 hs fun t ht => Nat.le_trans (listText_mem_le ht) hz
    have hna : a ∉ bs := not_mem_of_deeper (.list h1 h2 h3 q4) (by rw [PyData.depth]; omega) hb
    refine call_repr_slot (by omega) ⟨o, h1, h2⟩ F.slot_list_repr.toG ?_
    obtain ⟨l⟩ := vs
    match l, h4, hk, h3 with
    | [], h4, _, h3 =>
      have h4' : ShAll s.heap [] xs := h4
      cases h4'
      rw [PyData.shownAll, listText_nil] at hQ
      exact call_list_repr_empty ⟨o, h1, h2⟩ h1 h3 ⟨_, _, rfl, hQ s.heap _ _ hid⟩
    | x :: l, _, hk, h3 =>
      exact call_list_reprK h1 h2 h3 hna (by simpa using hk.length_eq) (fun i y e => hk.item i y (by simpa using e)) hg (fun b _ => Clear.nil b) (by show A.units + 1 + _ < cLine; omega) hid (fun h' u tk hk => ⟨_, _, rfl, hQ h' u tk hk⟩) hz
  | tuple h1 h2 h3 h4 =>
    rename_i a o vs n xs
    rw [PyData.shown] at hz hQ
    rw [PyData.showable] at hs
    rw [PyData.depth] at hu
    obtain ⟨as, q4⟩ := ShAll.reads h4
    obtain ⟨bs, hb, hk⟩ := ShAll.rk (prog := prog) (w := w) h4 hs fun t ht => Nat.le_trans (tupleText_mem_le ht) hz
    have hna : a ∉ bs := not_mem_of_deeper (.tuple h1 h2 h3 q4) (by rw [PyData.depth]; omega) hb
    refine call_repr_slot (by omega) ⟨o, h1, h2⟩ F.slot_tuple_repr ?_
    exact call_tuple_reprK h1 h2 h3 hna hk hg (fun b _ => Clear.nil b) (by show A.units + 1 + _ < cLine; omega) hid (fun h' u tk hk => ⟨_, _, rfl, hQ h' u tk hk⟩) hz
  | dict h1 h2 h3 hsys hl h4 h5 =>
    rename_i a o es n ks vs
    rw [PyData.shown] at hz hQ
    rw [PyData.showable] at hs
    rw [PyData.depth] at hu
    obtain ⟨as, q4⟩ := ShAll.reads h4
    obtain ⟨cs, q5⟩ := ShAll.reads h5
    have e1 := zip1 ks vs hl
    have e2 := zip2 ks vs hl
    obtain ⟨hs1, hs2⟩ := PyData.showableKv_split (ks.zip vs) hs
    rw [e1] at hs1
    rw [e2] at hs2
    obtain ⟨b1, hb1, k1⟩ := ShAll.rk (prog := prog) (w := w) h4 hs1 fun t ht => by
      obtain ⟨p, hp, hle⟩ := PyData.shownKv_key_le (ks.zip vs) t (by rw [e1]; exact ht)
      exact Nat.le_trans hle (Nat.le_trans (dictText_mem_le hp) hz)
    obtain ⟨b2, hb2, k2⟩ := ShAll.rk (prog := prog) (w := w) h5 hs2 fun t ht => by
      obtain ⟨p, hp, hle⟩ := PyData.shownKv_val_le (ks.zip vs) t (by rw [e2]; exact ht)
      exact Nat.le_trans hle (Nat.le_trans (dictText_mem_le hp) hz)
    have d1 := PyData.depthAll_keys_le (ks.zip vs)
    have d2 := PyData.depthAll_vals_le (ks.zip vs)
    rw [e1] at d1
    rw [e2] at d2
    have hb : ReadAtMost s.heap (PyData.depthKv (ks.zip vs)) (b1 ++ b2) := (hb1.mono d1).append (hb2.mono d2)
    have hna : a ∉ b1 ++ b2 := not_mem_of_deeper (.dict h1 h2 h3 (by rw [e1]; exact q4) (by rw [e2]; exact q5)) (by rw [PyData.depth]; omega) hb
    rw [PyData.shownKv_eq, e1, e2] at hQ hz
    refine call_repr_slot (by omega) ⟨o, h1, h2⟩ F.slot_dict_repr ?_
    exact call_dict_reprK h1 h2 h3 hsys hna (ReprEntriesK.of_two es.toList _ _ (k1.more_le (fun b hb => List.mem_append_left _ hb) d1) (k2.more_le (fun b hb => List.mem_append_right _ hb) d2)) hg (fun b _ => Clear.nil b)
      (by show A.units + 1 + _ < cLine; omega) hid (fun h' u tk hk => ⟨_, _, rfl, hQ h' u tk hk⟩) hz
end
end WT

set_option Elab.async false
set_option linter.all false
set_option maxRecDepth 100000
set_option maxHeartbeats 4000000
/-! Defs that may ask repr of lists: called where no repr is under way (the guards are told to be empty). -/
namespace WT
open PySem PySem.Spec PyProof.Rows L2
structure FnG (P : Program) (w : World) (K : PySem.W.Frag) (mg : Str → Option Value) (base : Heap) (cx : CXT) (k : Nat) (f : Addr) (fd : FuncData) (ps : List Str) (sp : Sp) : Prop where
  len : ∀ vs H Q E, sp vs H Q E → vs.length = ps.length
  run : ∀ (A : Around) (outer : List Env) (s : Shared) (H : Hp) (args : Args) (us : List Value) (vs : List V) (Q : VK) (E : XK), A.guards = some [] → Room k A → Env0 P w K mg base A outer s H →
    BindsTo s fd args (ps.zip us) → Vals vs us → sp vs H Q E → codeAny (model P w) A (.call (.ref f) args) (CR cx outer P w H s Q E) s
section
variable {P : Program} {w : World} {K : PySem.W.Frag} {mg : Str → Option Value} {base : Heap} {cx : CXT} {j k : Nat} {f : Addr} {fd : FuncData} {ps : List Str} {sp sp' : Sp}
theorem FnG.of (G : FnOk P w K mg base cx k f fd ps sp) : FnG P w K mg base cx k f fd ps sp := ⟨G.len, fun A o s H a us vs Q E _ => G.run A o s H a us vs Q E⟩
theorem FnG.mono (G : FnG P w K mg base cx j f fd ps sp) (h : j ≤ k) : FnG P w K mg base cx k f fd ps sp :=
  ⟨G.len, fun A o s H a us vs Q E g hr => G.run A o s H a us vs Q E g (hr.mono h)⟩
theorem FnG.imp (G : FnG P w K mg base cx k f fd ps sp) (h : ∀ vs H Q E, sp' vs H Q E → sp vs H Q E) : FnG P w K mg base cx k f fd ps sp' :=
  ⟨fun vs H Q E q => G.len vs H Q E (h _ _ _ _ q), fun A o s H a us vs Q E g hr e hb hv hs => G.run A o s H a us vs Q E g hr e hb hv (h _ _ _ _ hs)⟩
/-- a def by its body -/
theorem fnG_of {name qual : Str} {params : Arguments} {body : List Stmt} {scope : Scope} {dV kV doc pm cdv ct oc : Value} {an od : Option Addr} {osl : Array (Option Value)} {N : List Str}
    (lk : K.lookup f = some ⟨oc, od, .func (PySem.W.fnOf name qual params body scope dV kV doc pm an cdv ct), osl⟩) (hcd : PySem.W.codeIn K cdv qual = true) (S : FnScope N ps scope)
    (hlen : ∀ vs H Q E, sp vs H Q E → vs.length = ps.length)
    (hbody : ∀ (A : Around) (outer : List Env) (s : Shared) (H : Hp) (vs : List V) (Q : VK) (E : XK), A.guards = some [] → Room k (A.deeper (envOfC qual scope s.heap.objs.size f cdv)) → sp vs H Q E →
      ∃ t, PSs (cxOf cx P w K mg base N qual scope f cdv A outer s H E) body t ∧ t { nx := fun _ H' => Q .non H', rt := Q } (start N vs) H) :
    FnG P w K mg base cx (k + 1) f (PySem.W.fnOf name qual params body scope dV kV doc pm an cdv ct) ps sp := by
  refine ⟨hlen, fun A outer s H args us vs Q E hgd hr e0 hb r hsp => ?_⟩
  have up : ∀ b o, base.get? b = some o → s.heap.get? b = some o := fun b o z => (e0.bs b o z).1
  have kin : K.In s.heap := e0.mod.kin.keeps up
  have lim : s.heap.NoLimit := e0.mod.nolimit.keeps up
  have kinds : ∀ y ∈ ps.zip us, scope.names.lookup y.1 = some .local ∨ (scope.names.lookup y.1 = some .cell ∧ ((cellsFrom (s.heap.objs.size + 1) scope.names []).lookup y.1).isSome = true) := by
    intro y hy
    obtain ⟨n, v⟩ := y
    exact (S.par n (List.of_mem_zip hy).1).imp id fun q => ⟨q, PySem.W.cellsFrom_some _ _ _ (.inl q)⟩
  refine codeAny_call_function hr.depth (kin _ _ lk) rfl S.co S.gen rfl (PySem.W.codeRec_of kin hcd) (hb _ _ _ _ ?_)
  refine wpAny_newFunctionEnv_cells S.kind kinds fun env he s1 y => ?_
  subst he
  refine ⟨lim.keeps y.toInCall.keep, codeAny_func ?_⟩
  obtain ⟨t, ht, hq⟩ := hbody A outer s H vs Q E hgd (hr.deeper _) hsp
  have J : Inv (cxOf cx P w K mg base N qual scope f cdv A outer s H E) [] (start N vs) H s1 := inv_start S hr.hd e0 (hlen _ _ _ _ hsp) r y
  refine wpAny_mono (ht.run [] s1 (start N vs) H _ J hq) (fun fl s' hs => ?_) fun e s' hs => hs
  cases fl with
  | ret u =>
    obtain ⟨v, σ', H', J', rv, q⟩ := hs
    exact ⟨v, H', J'.os, J'.bare, J'.base, J'.hok, rv, q⟩
  | next =>
    obtain ⟨σ', H', J', q⟩ := hs
    exact ⟨V.non, H', J'.os, J'.bare, J'.base, J'.hok, rfl, q⟩
  | brk =>
    obtain ⟨_, _, _, q⟩ := hs
    exact q.elim
  | cont =>
    obtain ⟨_, _, _, q⟩ := hs
    exact q.elim
/-- the body's rule for a def that lets nothing out -/
theorem okG {x qual : Str} {st : Stmt} {N : List Str} (F : Fun K x qual st f fd) (S : FnScope N ps (defScope st)) (hlen : ∀ vs H Q E, sp vs H Q E → vs.length = ps.length)
    (hbody : ∀ (cdv : Value) (A : Around) (outer : List Env) (s : Shared) (H : Hp) (vs : List V) (Q : VK) (E : XK), A.guards = some [] → Room k (A.deeper (envOfC qual (defScope st) s.heap.objs.size f cdv)) → sp vs H Q E →
      ∃ t, PSs (cxOf CX0 P w K mg base N qual (defScope st) f cdv A outer s H E).nox (defBody st) t ∧ t { nx := fun _ H' => Q .non H', rt := Q } (start N vs) H) : FnG P w K mg base CX0 (k + 1) f fd ps sp := by
  obtain ⟨oc, od, kV, doc, pm, an, cdv, ct, osl, rfl, lk, hcd⟩ := F.ex
  refine fnG_of lk hcd S hlen fun A outer s H vs Q E hgd hr hsp => ?_
  obtain ⟨t, h, q⟩ := hbody cdv A outer s H vs Q E hgd hr hsp
  exact ⟨t, h.nox, q⟩
/-- .. for one that may raise -/
theorem okGX {x qual : Str} {st : Stmt} {N : List Str} (F : Fun K x qual st f fd) (S : FnScope N ps (defScope st)) (hlen : ∀ vs H Q E, sp vs H Q E → vs.length = ps.length)
    (hbody : ∀ (cdv : Value) (A : Around) (outer : List Env) (s : Shared) (H : Hp) (vs : List V) (Q : VK) (E : XK), A.guards = some [] → Room k (A.deeper (envOfC qual (defScope st) s.heap.objs.size f cdv)) → sp vs H Q E →
      ∃ t, PSs (cxOf (L2.CX P w) P w K mg base N qual (defScope st) f cdv A outer s H E) (defBody st) t ∧ t { nx := fun _ H' => Q .non H', rt := Q } (start N vs) H) : FnG P w K mg base (L2.CX P w) (k + 1) f fd ps sp := by
  obtain ⟨oc, od, kV, doc, pm, an, cdv, ct, osl, rfl, lk, hcd⟩ := F.ex
  exact fnG_of lk hcd S hlen fun A outer s H vs Q E hgd hr hsp => hbody cdv A outer s H vs Q E hgd hr hsp
end
section
variable {X : Cx} {cx : CXT} {k : Nat} {f : Addr} {fd : FuncData} {ps : List Str} {sp : Sp} {E : XK} {x : Str} {p pos : Pos} {e : Expr} {es : List Expr} {t : TA}
theorem run_fnG {pins : List (Addr × Obj)} {σ : L2.St} {H : Hp} {s : Shared} {Q : VK} {us : List Value} {vs : List V} (hgd : X.A.guards = some []) (G : FnG X.prog X.w X.K X.mg X.base cx k f fd ps sp) (hr : Room k X.A) (hb : Binds X.K fd ps [])
    (hx : Passes cx X E) (I : Inv X pins σ H s) (r : Vals vs us) (h : sp vs H Q E) : wpAny (model X.prog X.w) X.A (call (.ref f) us) (EP X pins σ Q) X.xe s := by
  have hl : us.length = ps.length := (Vals.length r).symm.trans (G.len _ _ _ _ h)
  have hb' := hb s us I.kIn (by rw [List.append_nil]; exact hl)
  rw [List.append_nil] at hb'
  refine wpAny_call (codeAny_mono (G.run X.A X.stack s H ⟨us, []⟩ us vs Q E hgd hr I.env0 hb' r h) fun r s' hq => ?_)
  cases r with
  | error e => exact hx pins σ H s e s' I hq
  | ok fl =>
    cases fl with
    | ret u => exact I.after hq
    | next => exact hq.elim
    | brk => exact hq.elim
    | cont => exact hq.elim
/-- f(e, ..) -/
def tCallG (sp : Sp) (E : XK) (t : TA) : TE := fun σ H Q => t σ H fun vs H1 => sp vs H1 Q E
theorem pe_callG (hgd : X.A.guards = some []) (G : FnG X.prog X.w X.K X.mg X.base cx k f fd ps sp) (hr : Room k X.A) (hg : Gl X x) (hm : X.mg x = some (.ref f)) (hk : PySem.W.keepIn X.K (.ref f) = true) (hb : Binds X.K fd ps [])
    (hx : Passes cx X E) (ha : PA X (e :: es) t) (hdb : (x == ("__debug__" : Str)) = false := by decide) (he : starEach (e :: es) X.env = (false, eval e X.env) :: starEach es X.env := by rfl)
    (hpl : (backTo pos (starEach es X.env)).any (·.1) = false := by rfl) : PE X (.Call (.Name x p) (e :: es) [] pos) (tCallG sp E t) := by
  refine ⟨fun pins s σ H Q I h => ?_⟩
  refine wpAny_Call_Name_kw (ld_glob I hg hm ?_ hdb)
  exact PySem.W.callWith_K (h₀ := X.base) I.ok.mod.kin hk (thn (ha.run pos pins s σ H _ I h) fun us s1 ⟨vs, H1, I1, r, q⟩ => ⟨I1.kIn, run_fnG hgd G hr hb hx I1 r q⟩) he hpl
end
end WT

set_option Elab.async false
set_option linter.all false
set_option maxRecDepth 100000
set_option maxHeartbeats 4000000
namespace WT
open PySem PySem.Spec PyProof.Rows L2
def kD : Key → PyData
  | .inl i => .int i
  | .inr x => .str x
mutual
/-- data over the abstract heap, dicts among it -/
inductive Dt (K : PySem.W.Frag) (H : Hp) : V → PyData → Prop
  | non : Dt K H .non .none
  | bl (b : Bool) : Dt K H (.bl b) (.bool b)
  | int (i : Int) : Dt K H (.int i) (.int i)
  | str (x : Str) : Dt K H (.str x) (.str x)
  | lst {a : Addr} {xs : List V} {ds : List PyData} : SqL K H a xs → DtAll K H xs ds → Dt K H (.ref a) (.list ds)
  | tup {a : Addr} {xs : List V} {ds : List PyData} : SqT K H a xs → DtAll K H xs ds → Dt K H (.ref a) (.tuple ds)
  | dic {a : Addr} {kvs : List (Key × V)} {ds : List PyData} : Rd H a (.dK kvs) → DtAll K H (kvs.map (·.2)) ds → Dt K H (.ref a) (.dict ((kvs.map fun p => kD p.1).zip ds))
inductive DtAll (K : PySem.W.Frag) (H : Hp) : List V → List PyData → Prop
  | nil : DtAll K H [] []
  | cons {v : V} {vs : List V} {d : PyData} {ds : List PyData} : Dt K H v d → DtAll K H vs ds → DtAll K H (v :: vs) (d :: ds)
end
theorem DtAll.length {K : PySem.W.Frag} {H : Hp} : ∀ {vs : List V} {ds : List PyData}, DtAll K H vs ds → vs.length = ds.length
  | _, _, .nil => rfl
  | _, _, .cons _ t => congrArg Nat.succ (DtAll.length t)
theorem sameT {K : PySem.W.Frag} {H H' : Hp} {a : Addr} {xs : List V} (e : Same H H') (h : SqT K H a xs) : SqT K H' a xs := by
  rcases h with (h | ⟨o, h⟩) | h
  · exact .inl (.inl (e _ _ h))
  · exact .inl (.inr ⟨o, e _ _ h⟩)
  · exact .inr h
theorem sameR {H H' : Hp} {a : Addr} {u : HO} (e : Same H H') (h : Rd H a u) : Rd H' a u := by
  rcases h with h | ⟨o, h⟩
  · exact .inl (e _ _ h)
  · exact .inr ⟨o, e _ _ h⟩
mutual
theorem Dt.same {K : PySem.W.Frag} {H H' : Hp} (s : Same H H') : ∀ {v : V} {d : PyData}, Dt K H v d → Dt K H' v d
  | _, _, .non => .non
  | _, _, .bl b => .bl b
  | _, _, .int i => .int i
  | _, _, .str x => .str x
  | _, _, .lst h t => .lst (s.seq h) (DtAll.same s t)
  | _, _, .tup h t => .tup (sameT s h) (DtAll.same s t)
  | _, _, .dic h t => .dic (sameR s h) (DtAll.same s t)
theorem DtAll.same {K : PySem.W.Frag} {H H' : Hp} (s : Same H H') : ∀ {vs : List V} {ds : List PyData}, DtAll K H vs ds → DtAll K H' vs ds
  | _, _, .nil => .nil
  | _, _, .cons h t => .cons (Dt.same s h) (DtAll.same s t)
end
section
variable {X : Cx} {pins : List (Addr × Obj)} {σ : L2.St} {H : Hp} {s : Shared}
theorem pairs_sh {P : Program} {w : World} {h : Heap} : ∀ {es : List DictEntry} {kvs : List (Key × V)} {us : List (Key × Value)}, KV kvs us → Pairs (mixKind P w) es us → ShAll h (es.map (·.key)) (kvs.map fun p => kD p.1)
  | _, _, _, .nil, .nil => .nil
  | _, _, _, .cons r rs, .cons h1 _ hs => by
    refine .cons ?_ (pairs_sh rs hs)
    rcases keyIs_shape h1 with ⟨i, t, e1, e2⟩ | ⟨x, t, e1, e2⟩
    · dsimp only
      rw [e2, r.1, e1]
      exact .int i t
    · dsimp only
      rw [e2, r.1, e1]
      exact .str x t
theorem pairs_vals {P : Program} {w : World} : ∀ {es : List DictEntry} {kvs : List (Key × V)} {us : List (Key × Value)}, KV kvs us → Pairs (mixKind P w) es us → Vals (kvs.map (·.2)) (es.map (·.val))
  | _, _, _, .nil, .nil => .nil
  | _, _, _, .cons r rs, .cons _ h2 hs => .cons (by dsimp only; rw [h2]; exact r.2) (pairs_vals rs hs)
mutual
theorem Dt.sh (I : Inv X pins σ H s) : ∀ {v : V} {d : PyData} {u : Value}, Dt X.K H v d → RelV v u → Sh s.heap u d
  | _, _, _, .non, r => by
    cases r
    exact .none
  | _, _, _, .bl b, r => by
    cases r
    exact .bool b
  | _, _, _, .int i, r => by
    obtain ⟨t, rfl⟩ := r
    exact .int i t
  | _, _, _, .str x, r => by
    obtain ⟨t, rfl⟩ := r
    exact .str x t
  | _, _, _, .lst h t, r => by
    cases r
    obtain ⟨its, rv, ⟨o, n, ho, hc, _, hd⟩, _⟩ := I.list h
    exact .list ho hc hd (DtAll.sh I t rv)
  | _, _, _, .tup h t, r => by
    cases r
    obtain ⟨its, rv, ⟨o, ho, hc, n, hd⟩, _⟩ := I.tuple h
    exact .tuple ho hc hd (DtAll.sh I t rv)
  | _, _, _, .dic (kvs := kvs) (ds := ds) h t, r => by
    cases r
    obtain ⟨_, hsys, us, rel, o, es, ep, ho, hx, hd, _, hp, _⟩ := dk_rd I.hok h
    refine .dict ho hx.1 hd hsys ?_ (pairs_sh rel hp) (DtAll.sh I t (pairs_vals rel hp))
    rw [List.length_map, ← DtAll.length t, List.length_map]
theorem DtAll.sh (I : Inv X pins σ H s) : ∀ {vs : List V} {ds : List PyData} {us : List Value}, DtAll X.K H vs ds → Vals vs us → ShAll s.heap us ds
  | _, _, _, .nil, r => by
    cases r
    exact .nil
  | _, _, _, .cons h t, .cons r rs => .cons (Dt.sh I h r) (DtAll.sh I t rs)
end
/-- repr(x) -/
def rRepr (K : PySem.W.Frag) : List V → Hp → VK → Prop := fun xs H Q => ∃ (x : V) (d : PyData), xs = [x] ∧ Dt K H x d ∧ d.showable = true ∧ d.depth ≤ 60 ∧ d.shown.length ≤ sizeLine ∧ Q (.str d.shown) H
theorem call_repr (hgd : X.A.guards = some []) (hu : X.A.units + 64 < cLine) : CallR X (.builtin "repr") (rRepr X.K) := by
  intro pins s σ H xs us Q I r h
  obtain ⟨x, d, rfl, hd, hs, hde, hz, q⟩ := h
  obtain ⟨u, rfl, ru⟩ := vals1 r
  refine Sh.repr (hd.sh I ru) hs hz hgd (by omega) fun h' t tk kp => ?_
  exact ⟨.str d.shown, H, I.kept (t' := tk) kp, ⟨t, rfl⟩, q⟩
end
end WT

set_option Elab.async false
set_option linter.all false
set_option maxRecDepth 100000
set_option maxHeartbeats 4000000
namespace WT
open PySem PySem.Spec PyProof.Rows L2
section
variable {X : Cx}
/-- a power of any size that fits -/
def CPowW (i j : Int) : Prop := 0 ≤ j ∧ (Builtin.Int.intBits i : Int) * j ≤ 2 ^ 27
theorem op_powW : OpR X (binaryOp .Pow) (rI CPowW fun i j => .int (i ^ j.toNat)) := opI fun _ _ _ _ _ _ _ hc q => pow_int hc.1 hc.2 q
theorem big_pow : CPowW ((10 : Int) ^ (60 : Int).toNat) 5 := ⟨by decide, by decide +kernel⟩
end
end WT

set_option Elab.async false
set_option linter.all false
set_option maxRecDepth 100000
set_option maxHeartbeats 4000000
/-! Errors of the program held as values: made (by place, by name), asked for their class, their fields read. -/
namespace WT
open PySem PySem.W PySem.Calls PyProof.Rows PySem.HandSPX
section
variable {prog : Program} {w : World} {A : Around} {E : Value → Shared → Prop} {R : Result → Shared → Prop} {hp : Heap} {gs : Array GenState} {dr : Drawn} {tn : Nat} {os : OsState}
variable {nm q : Str} {C N : Addr} {bs bm : List Value} {hdct : Bool} {sn : List Str} {sub : List Value} {ab : Bool} {col : Option Bool} {dd : Option Addr} {k0 k1 k2 k3 k5 : Option Value}
abbrev VEo (nm q : Str) (C N : Addr) (bs bm : List Value) (hdct : Bool) (sn : List Str) (sub : List Value) (ab : Bool) (col : Option Bool) (dd : Option Addr) (k0 k1 k2 k3 k5 : Option Value) : Obj :=
  excClassObj nm q C N bs bm hdct sn sub ab col dd k0 k1 k2 k3 k5 "ValueError.__new__"
theorem vt_has (hb : refsVE bm = true) (T : String) : (Value.ref C :: bm).contains (.type T) = veTail.contains (.type T) := by
  rw [List.contains_cons, refsVE_contains T bm hb]
  rfl
theorem ck_newK (hb : refsVE bm = true) {us : List Value} {kw : List (Str × Value)} {Q : Unit → Shared → Prop} (hC : hp.get? C = some (VEo nm q C N bs bm hdct sn sub ab col dd k0 k1 k2 k3 k5)) (hq : Q () ⟨hp, gs, dr, tn, os⟩) :
    wpAny (model prog w) A (checkBuiltinCall "ValueError.__new__" ⟨.ref C :: us, kw⟩) Q E ⟨hp, gs, dr, tn, os⟩ := by
  have F := F.excBase_ValueError
  have c1 : (Value.ref C :: bm).contains (.type "ValueError") = true := (vt_has hb _).trans (by decide +kernel)
  have c2 := F.noStar
  simp only [checkBuiltinCall, F.newKind, F.newSplit, F.newRow]
  repeat (first
    | refine wpAny_loadPart_at hC ?_
    | (refine wpAny_isSubtype_exc hC ?_; rw [c1])
    | refine wpAny_staticBase_exc hC ?_
    | refine wpAny_madeBy_exc hC ?_
    | simp only [bne_self_eq_false, Bool.false_eq_true, if_false]
    | wp_step)
  exact hq
theorem newK (hb : refsVE bm = true) {us : List Value} {kw : List (Str × Value)} (hC : hp.get? C = some (VEo nm q C N bs bm hdct sn sub ab col dd k0 k1 k2 k3 k5)) (hus : us.length ≤ sizeLine)
    (hq : R (.ok (.ret (.ref (hp.objs.size + 1)))) ⟨(hp.push (kdv_tup us)).push (excO C hp.objs.size), gs, dr, tn, os⟩) :
    codeAny (model prog w) A (.builtin "ValueError.__new__" ⟨.ref C :: us, kw⟩) R ⟨hp, gs, dr, tn, os⟩ := by
  have F := F.excBase_ValueError
  have c0 := F.ends
  have c1 : (Value.ref C :: bm).contains (.type "ValueError") = true := (vt_has hb _).trans (by decide +kernel)
  have c2 : (Value.ref C :: bm).contains (.type "AttributeError") = false := (vt_has hb _).trans (by decide +kernel)
  have c3 : (Value.ref C :: bm).contains (.type "NameError") = false := (vt_has hb _).trans (by decide +kernel)
  refine codeAny_builtinAt F.entry ?_
  unfold Builtin.«BaseException.__new__»
  refine PySem.wpAt_bind ?_
  show PySem.wpAt _ _ _ (stack >>= _) _ _ _
  refine PySem.wpAt_bind (PySem.wpAt_stack fun pp bl => PySem.wpAt_of_wpAny ?_)
  wp_walk
  refine PySem.wpAt_of_wpAny ?_
  rw [F.owner]
  repeat (first
    | with_reducible refine wpAny_madeHere_exc F.canon hC ?_
    | with_reducible refine wpAny_loadPart_at hC ?_
    | (with_reducible refine wpAny_isSubtype_exc hC ?_; first | rw [c1] | rw [c2] | rw [c3])
    | wp_step)
  show R _ _
  rw [Heap.size_push]
  exact hq
theorem tcallK (hb : refsVE bm = true) {us : List Value} {kw : List (Str × Value)} {fI : Addr} {Q : PySem.Fin → Shared → Prop} (hC : hp.get? C = some (VEo nm q C N bs bm hdct sn sub ab col dd k0 k1 k2 k3 k5))
    (hi : Looks (model prog w) hp (typeLookup (.ref C) "__init__") (some (.ref fI))) (hbd : ∀ z, Looks (model prog w) hp (bindSpecial (.ref fI) z) (.ref fI, [z])) (hus : us.length ≤ sizeLine)
    (hq : codeAny (model prog w) A (.call (.ref fI) ⟨.ref (hp.objs.size + 1) :: us, kw⟩)
      (fun r s' => match r with | .ok (.ret v) => v = .none ∧ Q (.done (.ret (.ref (hp.objs.size + 1)))) s' | .ok _ => False | .error e => E e s')
      ⟨(hp.push (kdv_tup us)).push (excO C hp.objs.size), gs, dr, tn, os⟩) :
    wpAny (model prog w) A (Builtin.«type.__call__» ⟨.ref C :: us, kw⟩) Q E ⟨hp, gs, dr, tn, os⟩ := by
  have F := F.excBase_ValueError
  repeat (first
    | with_reducible refine wpAny_loadPart_at hC ?_
    | with_reducible refine wpAny_madeBy_exc hC ?_
    | wp_step)
  refine codeAny_call_builtin_code (Code.quiet_builtin _ F.quiet) (ck_newK hb hC ?_)
  refine newK hb hC hus ?_
  show wpAny _ _ _ _ _ _
  have kp : ∀ b o, hp.get? b = some o → ((hp.push (kdv_tup us)).push (excO C hp.objs.size)).get? b = some o :=
    fun b o z => Heap.get?_push_of_some _ (Heap.get?_push_of_some _ z)
  have hC1 := kp _ _ hC
  have hg : ((hp.push (kdv_tup us)).push (excO C hp.objs.size)).get? (hp.objs.size + 1) = some (excO C hp.objs.size) := by
    heap_get
  have cC : (Value.ref C :: bm).contains (.ref C) = true := by simp
  have i1 := hi.keeps kp
  have b1 := (hbd (.ref (hp.objs.size + 1))).keeps kp
  unfold isInstance
  repeat (first
    | with_reducible refine wpAny_loadPart_at hg ?_
    | (with_reducible refine wpAny_isSubtype_exc hC1 ?_; rw [cC])
    | wp_step)
  show wpAny _ _ (typeLookup (.ref C) _) _ _ _
  refine i1.at (wpAny_holding (wpAny_bind (b1.at ?_)))
  refine wpAny_bind (wpAny_call (codeAny_mono hq fun r s' z => ?_))
  rcases r with e | (v | _ | _ | _) <;> first | exact z | exact z.elim | skip
  obtain ⟨rfl, z⟩ := z
  first
    | exact wpAny_pure (wpAny_pure z)
    | (wp_walk; exact z)
theorem ck_callK {us : List Value} {kw : List (Str × Value)} {Q : Unit → Shared → Prop} (hC : hp.get? C = some (VEo nm q C N bs bm hdct sn sub ab col dd k0 k1 k2 k3 k5)) (hq : Q () ⟨hp, gs, dr, tn, os⟩) :
    wpAny (model prog w) A (checkBuiltinCall "type.__call__" ⟨.ref C :: us, kw⟩) Q E ⟨hp, gs, dr, tn, os⟩ := by
  have f3 := tc_sub
  have ht : (⟨hp, gs, dr, tn, os⟩ : Shared).TypeIs (.ref C) "type" := ⟨_, hC, rfl⟩
  simp only [checkBuiltinCall, tc_kind, tc_split]
  repeat (any_goals (first
    | assumption
    | with_reducible refine wpAny_loadPart_at hC ?_
    | with_reducible refine wpAny_onRaise ?_
    | with_reducible refine wpAny_map ?_
    | wp_step))
theorem ownK (hb : refsVE bm = true) {us : List Value} {kw : List (Str × Value)} {fI : Addr} (hC : hp.get? C = some (VEo nm q C N bs bm hdct sn sub ab col dd k0 k1 k2 k3 k5))
    (hi : Looks (model prog w) hp (typeLookup (.ref C) "__init__") (some (.ref fI))) (hbd : ∀ z, Looks (model prog w) hp (bindSpecial (.ref fI) z) (.ref fI, [z])) (hus : us.length ≤ sizeLine)
    (hq : codeAny (model prog w) (A.under (.builtin "type.__call__" ⟨.ref C :: us, kw⟩)) (.call (.ref fI) ⟨.ref (hp.objs.size + 1) :: us, kw⟩) (InitBack (hp.objs.size + 1) R)
      ⟨(hp.push (kdv_tup us)).push (excO C hp.objs.size), gs, dr, tn, os⟩) :
    codeAny (model prog w) A (.call (.ref C) ⟨us, kw⟩) R ⟨hp, gs, dr, tn, os⟩ := by
  have f1 := tc_lookup
  have f2 := tc_bind (.ref C)
  have ht : (⟨hp, gs, dr, tn, os⟩ : Shared).TypeIs (.ref C) "type" := ⟨_, hC, rfl⟩
  refine codeAny_of_tree ?_
  show wpAny _ _ (callAny (.ref C) _) _ _ _
  repeat (any_goals (first
    | assumption
    | with_reducible refine wpAny_loadPart_at hC ?_
    | wp_step))
  refine ⟨rfl, ?_⟩
  refine codeAny_call_builtin_at (Code.quiet_builtin _ (by decide +kernel)) entry_typeCall (ck_callK hC ?_)
  refine tcallK hb hC hi hbd hus (codeAny_mono hq fun r s' z => ?_)
  rcases r with e | (v | _ | _ | _) <;> exact z
end
end WT

set_option Elab.async false
set_option linter.all false
set_option maxRecDepth 100000
set_option maxHeartbeats 4000000
namespace WT
open PySem PySem.Spec PyProof.Rows L2
/-- an error of the class at C stands at a; its fields -/
def Err (H : Hp) (a C : Addr) (fs : List (Str × V)) : Prop := (fs = [] ∧ H a = some (exo a C none)) ∨ ∃ d, H a = some (exo a C (some d)) ∧ H d = some (exd d fs)
theorem Err.same {H H' : Hp} {a C : Addr} {fs : List (Str × V)} (e : Err H a C fs) (s : Same H H') : Err H' a C fs := by
  rcases e with ⟨z, e⟩ | ⟨d, e1, e2⟩
  · exact .inl ⟨z, s _ _ e⟩
  · exact .inr ⟨d, s _ _ e1, s _ _ e2⟩
theorem same_new {H : Hp} {p : Addr} {o : HO} (h : H p = none) : Same H (upd H p o) := fun b x e => by
  rw [upd_ne (ne_of_none e h)]
  exact e
section
variable {X : Cx}
theorem run_err {CX : CXT} {C fI : Addr} {k : Nat} {fd : FuncData} {ps : List Str} {sp : Sp} {pins : List (Addr × Obj)} {σ : L2.St} {H : Hp} {s : Shared} {Q : VK} {us gus : List Value} {kw : List (Str × Value)} {vs : List V}
    (T : OexC X.K C) (iC : PySem.W.findIn X.K (.ref C) "__init__" = some (some (.ref fI))) (tI : PySem.W.typeIn X.K (.ref fI) = some (.type "function")) (G : FnOk X.prog X.w X.K X.mg X.base CX k fI fd ps sp) (hr : Room (k + 1) X.A)
    (hx : Passes CX X (fun _ _ _ => False)) (I : Inv X pins σ H s) (hus : us.length ≤ sizeLine) (hb : ∀ (s1 : Shared) (z : Value), X.K.In s1.heap → BindsTo s1 fd ⟨z :: us, kw⟩ (ps.zip (z :: gus))) (r : Vals vs gus)
    (h : ∀ a, H a = none → sp (.ref a :: vs) (upd H a (exo a C none)) (fun v H2 => v = .non ∧ Q (.ref a) H2) (fun _ _ _ => False)) :
    wpAny (model X.prog X.w) X.A (call (.ref C) us kw) (EP X pins σ Q) X.xe s := by
  obtain ⟨nm, q, N, bs, bm, sn, sub, ab, col, dd, k0, k1, k2, k3, k5, hC, hbm⟩ := T.cls
  obtain ⟨hp, g, dr, tk, os⟩ := s
  have z1 : hp.objs.size ≤ hp.objs.size + 1 := Nat.le_succ _
  have z2 := h (hp.objs.size + 1) (I.hok.fresh z1)
  have kp : ∀ b o, hp.get? b = some o → ((hp.push (PySem.W.kdv_tup us)).push (PySem.HandSPX.excO C hp.objs.size)).get? b = some o :=
    fun b o z => Heap.get?_push_of_some _ (Heap.get?_push_of_some _ z)
  have hg : ((hp.push (PySem.W.kdv_tup us)).push (PySem.HandSPX.excO C hp.objs.size)).get? (hp.objs.size + 1) = some (PySem.HandSPX.excO C hp.objs.size) := by
    heap_get
  have I2 : Inv X pins σ (upd H (hp.objs.size + 1) (exo (hp.objs.size + 1) C none)) ⟨(hp.push (PySem.W.kdv_tup us)).push (PySem.HandSPX.excO C hp.objs.size), g, dr, tk, os⟩ :=
    I.laid (t' := tk) (a := hp.objs.size + 1) (o := exo (hp.objs.size + 1) C none) kp z1 (exo_ok hg)
  have r2 : Vals (V.ref (hp.objs.size + 1) :: vs) (Value.ref (hp.objs.size + 1) :: gus) := .cons rfl r
  refine wpAny_call (ownK hbm (I.kIn _ _ hC) (PySem.W.looks_findIn I.kIn iC) (fun z => PySem.W.bind_fn I.kIn z tI) hus
    (codeAny_mono (G.run _ X.stack _ _ ⟨Value.ref (hp.objs.size + 1) :: us, kw⟩ (Value.ref (hp.objs.size + 1) :: gus) _ _ (fun _ _ _ => False) (hr.make C us kw) (I2.env0.make C us kw) (hb _ _ I2.kIn) r2 z2) fun r s' hq' => ?_))
  cases r with
  | error er => exact hx pins σ _ _ er s' I2 hq'
  | ok fl =>
    cases fl with
    | ret u =>
      obtain ⟨v, H', I3, rv, ev, q3⟩ := I2.after hq'
      subst ev
      exact ⟨rv, ⟨V.ref (hp.objs.size + 1), H', I3, rfl, q3⟩⟩
    | next => exact False.elim hq'
    | brk => exact False.elim hq'
    | cont => exact False.elim hq'
/-- C(e, ..): a new error, by its own __init__, which keeps sp -/
def tErr (C : Addr) (sp : Sp) (ta : TA) : TE := fun σ H Q => ta σ H fun vs H1 => vs.length ≤ 1000 ∧ ∀ a, H1 a = none → sp (.ref a :: vs) (upd H1 a (exo a C none)) (fun v H2 => v = .non ∧ Q (.ref a) H2) (fun _ _ _ => False)
theorem pe_err {CX : CXT} {x : Str} {C fI : Addr} {k : Nat} {fd : FuncData} {ps : List Str} {sp : Sp} {e : Expr} {es : List Expr} {ta : TA} {p pos : Pos} (T : OexC X.K C) (iC : PySem.W.findIn X.K (.ref C) "__init__" = some (some (.ref fI)))
    (tI : PySem.W.typeIn X.K (.ref fI) = some (.type "function")) (G : FnOk X.prog X.w X.K X.mg X.base CX k fI fd ps sp) (hr : Room (k + 1) X.A) (hb : Binds X.K fd ps []) (hx : Passes CX X (fun _ _ _ => False)) (hg : Gl X x)
    (hm : X.mg x = some (.ref C)) (ha : PA X (e :: es) ta) (hdb : (x == ("__debug__" : Str)) = false := by decide) (he : starEach (e :: es) X.env = (false, eval e X.env) :: starEach es X.env := by rfl)
    (hpl : (backTo pos (starEach es X.env)).any (·.1) = false := by rfl) : PE X (.Call (.Name x p) (e :: es) [] pos) (tErr C sp ta) := by
  refine ⟨fun pins s σ H Q I h => ?_⟩
  refine wpAny_Call_Name_kw (ld_glob I hg hm ?_ hdb)
  refine PySem.W.callWith_K (h₀ := X.base) I.ok.mod.kin T.kC (thn (ha.run pos pins s σ H _ I h) fun us s1 ⟨vs, H1, I1, r1, hz, q1⟩ => ⟨I1.kIn, ?_⟩) he hpl
  have hn : H1 (s1.heap.objs.size) = none := I1.hok.fresh (Nat.le_refl _)
  have hl : (V.ref s1.heap.objs.size :: vs).length = ps.length := G.len _ _ _ _ (q1 _ hn)
  refine run_err (us := us) (gus := us) (kw := []) T iC tI G hr hx I1 ?_ (fun s2 z X2 => ?_) r1 q1
  · rw [← Vals.length r1, sizeLine_eq]
    omega
  · have y := hb s2 (z :: us) X2 (by
      rw [List.append_nil, List.length_cons, ← Vals.length r1]
      exact hl)
    rw [List.append_nil] at y
    exact y
/-- C(k = v, ..) by names alone -/
def tErrK (C : Addr) (sp : Sp) (gV : List V → List V) (n : Nat) (tk : TA) : TE := fun σ H Q => tk σ H fun zs H1 => zs.length = n ∧ ∀ a, H1 a = none → sp (.ref a :: gV zs) (upd H1 a (exo a C none)) (fun v H2 => v = .non ∧ Q (.ref a) H2) (fun _ _ _ => False)
theorem pe_errK {CX : CXT} {x : Str} {C fI : Addr} {k n : Nat} {fd : FuncData} {ps ks : List Str} {sp : Sp} {kws : List Keyword} {tk : TA} {p pos : Pos} {gU : List Value → List Value} {gV : List V → List V} (T : OexC X.K C)
    (iC : PySem.W.findIn X.K (.ref C) "__init__" = some (some (.ref fI))) (tI : PySem.W.typeIn X.K (.ref fI) = some (.type "function")) (G : FnOk X.prog X.w X.K X.mg X.base CX k fI fd ps sp) (hr : Room (k + 1) X.A)
    (hb : ∀ (s1 : Shared) (z : Value) (ws : List Value), X.K.In s1.heap → ws.length = n → BindsTo s1 fd ⟨[z], ks.zip ws⟩ (ps.zip (z :: gU ws))) (hgr : ∀ {zs : List V} {ws : List Value}, Vals zs ws → zs.length = n → Vals (gV zs) (gU ws))
    (hx : Passes CX X (fun _ _ _ => False)) (hg : Gl X x) (hm : X.mg x = some (.ref C)) (hkw : PK X kws tk) (hall : (backToKw pos (keywordEach kws X.env)).all (·.1.isSome) = true := by rfl)
    (hks : (backToKw pos (keywordEach kws X.env)).filterMap (·.1) = ks := by rfl) (hdb : (x == ("__debug__" : Str)) = false := by decide)
    (hpl : ((backTo pos (starEach [] X.env)).any (·.1) || (backToKw pos (keywordEach kws X.env)).any (·.1.isNone)) = false := by rfl) : PE X (.Call (.Name x p) [] kws pos) (tErrK C sp gV n tk) := by
  refine ⟨fun pins s σ H Q I h => ?_⟩
  refine wpAny_Call_Name_kw (ld_glob I hg hm ?_ hdb)
  refine PySem.W.callWith_KW0 (h₀ := X.base) I.ok.mod.kin T.kC hall (thn (hkw.run pos pins s σ H _ I h) fun ws s1 ⟨zs, H1, I1, rz, hl, q1⟩ => ⟨I1.kIn, ?_⟩) hpl
  rw [hks]
  exact run_err (us := []) (gus := gU ws) (kw := ks.zip ws) T iC tI G hr hx I1 (Nat.zero_le _) (fun s2 z X2 => hb s2 z ws X2 ((Vals.length rz).symm.trans hl)) (hgr rz hl) q1
/-- what an own class without own __init__ says -/
def ErrBare (K : PySem.W.Frag) (C : Addr) : Prop := PySem.W.excIn K C PySem.HandSPX.veTail "ValueError.__new__" = true ∧ PySem.W.keepIn K (.ref C) = true
/-- C() without an __init__ of its own -/
def tErr0 (C : Addr) : TE := fun σ H Q => ∀ a, H a = none → Q (.ref a) (upd H a (exo a C none))
theorem pe_err0 {x : Str} {C : Addr} {p pos : Pos} (T : ErrBare X.K C) (hg : Gl X x) (hm : X.mg x = some (.ref C)) (hdb : (x == ("__debug__" : Str)) = false := by decide) : PE X (.Call (.Name x p) [] [] pos) (tErr0 C) := by
  refine ⟨fun pins s σ H Q I h => ?_⟩
  refine wpAny_Call_Name_kw (ld_glob I hg hm ?_ hdb)
  refine PySem.W.callWith_K0 I.kIn T.2 ?_
  obtain ⟨bm, N, nm, qn, bs, hdct, sn, sub, ab, col, dd, k0, k1, k2, k3, k5, mN, hC, hN, hni, TT⟩ := exc_obj I.kIn T.1
  obtain ⟨hp, g, dr, tk, os⟩ := s
  refine wpAny_call_exc_subT F.excBase_ValueError TT hC hN hni (fun h' a hm => ?_) (Nat.zero_le _)
  obtain ⟨t, ht, _, _⟩ := hm.there
  have hn : H a = none := I.hok.gone hm.new
  exact ⟨.ref a, upd H a (exo a C none), I.laidN hm.keeps hm.new hn (exo_ok ht), rfl, h a hn⟩
/-- the object of an error -/
theorem Err.at {pins : List (Addr × Obj)} {σ : L2.St} {H : Hp} {s : Shared} {a C : Addr} {fs : List (Str × V)} (e : Err H a C fs) (I : Inv X pins σ H s) :
    ∃ (ox : Obj) (od : Option Obj), PySem.W.InstAt s.heap a ox C od ∧ (fs ≠ [] → ∃ o, od = some o ∧ ∀ n : Str, ∃ u, PySem.W.lookIn n o = some u ∧ RelO (fs.lookup n) u) := by
  rcases e with ⟨z, e⟩ | ⟨d, e1, e2⟩
  · obtain ⟨t1, ho⟩ := exo_at I.hok e
    exact ⟨_, none, ⟨ho, rfl, rfl, trivial⟩, fun y => absurd z y⟩
  · obtain ⟨t1, ho⟩ := exo_at I.hok e1
    obtain ⟨mA, hns, rel⟩ := exd_at I.hok e2
    obtain ⟨od, hod, hl⟩ := lookIn_ns hns
    exact ⟨_, some od, ⟨ho, rfl, rfl, hod⟩, fun _ => ⟨od, rfl, fun n => ⟨mA n, hl n, rel n⟩⟩⟩
/-- isinstance(e, c), e an error held as a value -/
def rIsErr (K : PySem.W.Frag) : List V → Hp → VK → Prop := fun xs H Q => ∃ (a C : Addr) (fs : List (Str × V)) (c : V) (cv : Value) (b : Bool), xs = [.ref a, c] ∧ Err H a C fs ∧ ExcC K C ∧ (∀ u, RelV c u → u = cv) ∧ PySem.W.kitOne K (.ref C) cv = some b ∧ Q (.bl b) H
theorem call_isErr : CallR X (.builtin "isinstance") (rIsErr X.K) := by
  intro pins s σ H xs us Q I r h
  obtain ⟨a, C, fs, c, cv, b, rfl, e, T, hc, hk, q⟩ := h
  obtain ⟨u, u', rfl, rx, rt⟩ := vals2 r
  obtain rfl : u = Value.ref a := rx
  obtain rfl := hc _ rt
  obtain ⟨ox, od, J, _⟩ := e.at I
  have hcl : (PySem.W.clsIn X.K C).isSome = true := by
    obtain ⟨cd, h1, _⟩ := PySem.W.any_some T.hd
    rw [h1]
    rfl
  exact PySem.W.kia_one (PySem.W.kitx_exc (ox := ox) (od := od) hcl T.hg T.hk T.hs T.ha T.hn T.ht T.hm) I.kIn J hk (fun z => nomatch z) fun tk => ⟨.bl b, H, I.kept (t' := tk) fun _ _ z => z, rfl, q⟩
/-- e.f, e an error held as a value -/
def tErrF (K : PySem.W.Frag) (n : Str) (te : TE) : TE := fun σ H Q => te σ H fun x H1 => ∃ (a C : Addr) (fs : List (Str × V)) (v : V), x = .ref a ∧ Err H1 a C fs ∧ ExcC K C ∧ PySem.W.findIn K (.ref C) n = some none ∧ fs.lookup n = some v ∧ Q v H1
theorem pe_errF {e : Expr} {te : TE} {pos : Pos} {n : Str} (he : PE X e te) (hb : attributeBase e n X.env (eval e X.env) = eval e X.env := by rfl) : PE X (.Attribute e n pos) (tErrF X.K n te) := by
  refine ⟨fun pins s σ H Q I h => ?_⟩
  refine attr_of hb (thn (he.run pins s σ H _ I h) fun u s1 hh => ?_)
  obtain ⟨x, H1, I1, rx, a, C, fs, v, rfl, e1, T, hno, hl, q⟩ := hh
  obtain rfl : u = Value.ref a := rx
  obtain ⟨ox, od, J, k⟩ := e1.at I1
  obtain ⟨o, rfl, k2⟩ := k (fun z => by rw [z] at hl; cases hl)
  obtain ⟨u, hu, ru⟩ := k2 n
  rw [hl] at ru
  cases u with
  | none => exact ru.elim
  | some u =>
    exact HandSPX.exc_get I1.kIn J T.hg T.hk T.hs (PySem.W.findObj_own T.hd hno rfl hu) (handed_of ru) ⟨v, H1, I1.tok _, ru, q⟩
end
end WT

set_option Elab.async false
set_option linter.all false
set_option maxRecDepth 100000
set_option maxHeartbeats 4000000
namespace WT
open PySem PySem.Spec PyProof.Rows L2
/-- a def that is called: where it stands, how its arguments bind, its promise -/
structure Df (P : Program) (w : World) (K : PySem.W.Frag) (mg : Str → Option Value) (base : Heap) (x : Str) (k : Nat) (f : Addr) (fd : FuncData) (ps : List Str) (sp : Sp) : Prop where
  g : mg x = some (.ref f)
  kp : PySem.W.keepIn K (.ref f) = true
  bd : Binds K fd ps []
  G : FnG P w K mg base CX0 k f fd ps sp
/-- all that was tracked but a is as it was -/
def But (a : Addr) (H H' : Hp) : Prop := ∀ b x, b ≠ a → H b = some x → H' b = some x
theorem But.refl (a : Addr) (H : Hp) : But a H H := fun _ _ _ h => h
theorem But.trans {a : Addr} {H H1 H2 : Hp} (x : But a H H1) (y : But a H1 H2) : But a H H2 := fun b o n h => y b o n (x b o n h)
theorem But.of {a : Addr} {H H1 : Hp} (x : Same H H1) : But a H H1 := fun b o _ h => x b o h
theorem But.upd {a : Addr} {H : Hp} {o : HO} : But a H (upd H a o) := fun b x n h => by
  rw [upd_ne n]
  exact h
/-- the numbers that a law draws from; at most b of them mixed so far -/
def Pot (b : Nat) (p0 p1 p2 : Int) : Prop := 0 ≤ p0 ∧ 0 ≤ p1 ∧ p1 < 2305843009213693952 ∧ 0 ≤ p2 ∧ p2 ≤ b
theorem Pot.more {b c : Nat} {p0 p1 p2 : Int} (h : Pot b p0 p1 p2) (hc : b ≤ c) : Pot c p0 p1 p2 := by
  unfold Pot at h ⊢
  omega
/-- the pot stands at a -/
def PotAt (H : Hp) (a : Addr) (b : Nat) : Prop := ∃ p0 p1 p2 : Int, H a = some (.lst [.int p0, .int p1, .int p2]) ∧ Pot b p0 p1 p2
theorem PotAt.same {H H' : Hp} {a : Addr} {b : Nat} (h : PotAt H a b) (s : Same H H') : PotAt H' a b := by
  obtain ⟨p0, p1, p2, h1, h2⟩ := h
  exact ⟨p0, p1, p2, s _ _ h1, h2⟩
theorem PotAt.more {H : Hp} {a : Addr} {b c : Nat} (h : PotAt H a b) (hc : b ≤ c) : PotAt H a c := by
  obtain ⟨p0, p1, p2, h1, h2⟩ := h
  exact ⟨p0, p1, p2, h1, h2.more hc⟩
/-- the pot is no tuple, no list of other things -/
theorem PotAt.ne_tup {H : Hp} {a c : Addr} {b : Nat} {xs : List V} (h : PotAt H a b) (e : H c = some (.tup xs)) : c ≠ a := by
  obtain ⟨p0, p1, p2, h1, _⟩ := h
  exact ne_of e h1 (by intro z; cases z)
theorem PotAt.ne_new {H : Hp} {a c : Addr} {b : Nat} (h : PotAt H a b) (e : H c = none) : a ≠ c := by
  obtain ⟨p0, p1, p2, h1, _⟩ := h
  exact ne_of_none h1 e
theorem bit_mul (b : Bool) : -(2 ^ 64) < (if b = true then (1 : Int) else 0) ∧ (if b = true then (1 : Int) else 0) < 2 ^ 64 := by
  cases b <;> decide
theorem bit_nn (b : Bool) : (0 : Int) ≤ (if b = true then (1 : Int) else 0) := by
  cases b <;> decide
section
variable {X : Cx}
/-- list(s), sign by sign -/
def signsV (z : Str) : List V := z.cps.toList.map fun c => V.str ⟨#[c]⟩
def rListS : List V → Hp → VK → Prop := fun xs H Q => ∃ z : Str, xs = [.str z] ∧ z.length ≤ sizeLine ∧ ∀ l, H l = none → Q (.ref l) (upd H l (.lst (signsV z)))
theorem call_list_str (hc : X.calm = true) : CallR X (.type "list") rListS := by
  intro pins s σ H xs us Q I r h
  obtain ⟨z, rfl, hz, q⟩ := h
  obtain ⟨u, rfl, t, rfl⟩ := vals1 r
  refine PySem.call_list_str (I.ok.hd hc) z t (fun h' tk acc c kp e it => ?_) hz
  have hlen : (signsV z).length ≤ sizeLine := by
    unfold signsV
    rw [List.length_map, Array.length_toList]
    exact hz
  have rv : Vals (signsV z) acc.toList := by
    refine vals_of_at ?_ fun j x u hx hu => ?_
    · unfold signsV
      rw [List.length_map, Array.length_toList, Array.length_toList]
      exact it.1.symm
    · obtain ⟨c, t, e1, e2⟩ := it.2 j u (by rw [← Array.getElem?_toList]; exact hu)
      unfold signsV at hx
      rw [List.getElem?_map, Array.getElem?_toList, e1] at hx
      cases hx
      exact ⟨t, e2⟩
  exact ⟨.ref s.heap.objs.size, _, I.laid (t' := tk) kp (Nat.le_refl _) (show ObjOk X.prog X.w _ h' _ (.lst (signsV z)) from ⟨hlen, acc.toList, c, rv, by simpa using e⟩), rfl, q _ (I.hok.fresh (Nat.le_refl _))⟩
end
end WT

set_option Elab.async false
set_option linter.all false
set_option maxRecDepth 100000
set_option maxHeartbeats 4000000
namespace K13
open PySem PySem.Spec PyProof.Rows L2 WT
def top (i : Nat) : Stmt := PySem.Challenge.pw_wraptrails_k13_great_worlds.main.body.getD i (.Pass ⟨0, 0, 0, 0⟩)
/-- the built-ins are still the built-ins -/
structure Blt (mg : Str → Option Value) : Prop where
  len : mg "len" = none
  abs : mg "abs" = none
  int : mg "int" = none
  range : mg "range" = none
  list : mg "list" = none
  tuple : mg "tuple" = none
  sorted : mg "sorted" = none
  min : mg "min" = none
  max : mg "max" = none
  all : mg "all" = none
  repr : mg "repr" = none
  dict : mg "dict" = none
  enumerate : mg "enumerate" = none
abbrev st_hand : Stmt := top 16
theorem sc_hand : FnScope ["_law_script", "_law_k", "_law_cell", "_law_great"] ["_law_script", "_law_k"] (defScope st_hand) := ⟨rfl, rfl, rfl, by decide +kernel, rfl, by decide +kernel, by decide +kernel⟩
abbrev st_take : Stmt := top 17
theorem sc_take : FnScope ["_law_hand_here", "_law_many", "_law_digit", "_law_prime", "_law_drawn"] ["_law_hand_here", "_law_many"] (defScope st_take) := ⟨rfl, rfl, rfl, by decide +kernel, rfl, by decide +kernel, by decide +kernel⟩
abbrev st_of : Stmt := top 18
theorem sc_of : FnScope ["_law_hand_here", "_law_some"] ["_law_hand_here", "_law_some"] (defScope st_of) := ⟨rfl, rfl, rfl, by decide +kernel, rfl, by decide +kernel, by decide +kernel⟩
abbrev st_mixed : Stmt := top 19
theorem sc_mixed : FnScope ["_law_hand_here", "_law_some", "_law_left", "_law_found"] ["_law_hand_here", "_law_some"] (defScope st_mixed) := ⟨rfl, rfl, rfl, by decide +kernel, rfl, by decide +kernel, by decide +kernel⟩
def spTake : Sp := fun vs H Q _ => ∃ (a : Addr) (b : Nat) (n : Int), vs = [.ref a, .int n] ∧ PotAt H a b ∧ b ≤ 100000 ∧ 0 < n ∧ n < 1073741824 ∧
  ∀ H' r, But a H H' → PotAt H' a (b + 1) → 0 ≤ r → r < n → Q (.int r) H'
theorem sq_le {x : Int} (h0 : 0 ≤ x) (h1 : x ≤ 100001) : 0 ≤ 7919 * x * x ∧ 7919 * x * x ≤ 700000000000000 := by
  have h2 : 0 ≤ x * x := Int.mul_nonneg h0 h0
  have h3 : x * x ≤ 100001 * 100001 := Int.mul_le_mul h1 h1 h0 (by decide)
  have e : 7919 * x * x = 7919 * (x * x) := Int.mul_assoc _ _ _
  rw [e]
  omega
section
variable {P : Program} {w : World} {K : PySem.W.Frag} {mg : Str → Option Value} {base : Heap} {f : Addr} {fd : FuncData}
theorem ok_take (F : Fun K "_law_take" "_law_take" st_take f fd) : FnG P w K mg base CX0 1 f fd ["_law_hand_here", "_law_many"] spTake := by
  refine okG F sc_take (fun vs H Q E h => ?_) (fun cdv A outer s H vs Q E hgd hr h => ?_)
  · obtain ⟨_, _, _, rfl, _⟩ := h
    rfl
  · obtain ⟨a, b, n, rfl, ⟨p0, p1, p2, ha, hp⟩, hb, hn, hn2, q⟩ := h
    refine ⟨_, (pss_cons (ps_if (pt_cmpR op_gt (pe_ix ix_list (pv 0) pe_int (fun _ _ => rfl)) pe_int (nomark _))
       (pss_cons (ps_set (i := 2) sc_take.nd rfl (.inl rfl) (pe_op op_mod (pe_ix ix_list (pv 0) pe_int (fun _ _ => rfl)) (pv 1)))
       (pss_cons (ps_asg (pe_op op_fdiv (pe_ix ix_list (pv 0) pe_int (fun _ _ => rfl)) (pv 1)) (pg_sub (pv 0) pe_int set_list))
       (pss_one (ps_ret (pv 2)))))
       pss_nil)
      (pss_cons (ps_asg (pe_op op_add (pe_ix ix_list (pv 0) pe_int (fun _ _ => rfl)) pe_int) (pg_sub (pv 0) pe_int set_list))
      (pss_cons (ps_set (i := 3) sc_take.nd rfl (.inl rfl) (pe_ix ix_list (pe_lst (pa_cons pe_int (pa_cons pe_int (pa_cons pe_int (pa_cons pe_int (pa_cons pe_int (pa_cons pe_int (pa_cons pe_int pa_nil)))))))) (pe_op op_mod (pe_ix ix_list (pv 0) pe_int (fun _ _ => rfl)) pe_int) (fun _ _ => rfl)))
      (pss_cons (ps_set (i := 4) sc_take.nd rfl (.inl rfl) (pe_op op_mod (pe_op op_pow (pe_op op_add (pe_op op_add (pe_ix ix_list (pv 0) pe_int (fun _ _ => rfl)) (pe_op op_mul (pe_op op_mul pe_int (pe_ix ix_list (pv 0) pe_int (fun _ _ => rfl))) (pe_ix ix_list (pv 0) pe_int (fun _ _ => rfl)))) pe_int) pe_int) (pv 3)))
      (pss_one (ps_ret (pe_op op_mod (pe_op op_fdiv (pe_op op_mod (pe_op op_mul (pv 4) (pe_op op_add (pe_op op_mod (pv 4) pe_int) (pe_op op_mul pe_int (pe_ix ix_list (pv 0) pe_int (fun _ _ => rfl))))) pe_int) pe_int) (pv 1)))))))), ?_⟩
    have hs : SqL K H a [.int p0, .int p1, .int p2] := SqL.of ha
    refine ⟨_, rfl, a, _, 0, .int p0, rfl, rfl, hs, atI_nat (j := 0) rfl, p0, 0, rfl, rfl, _, rfl, ite2 (fun e => ?_) fun e => ?_⟩
    · have e0 : 0 < p0 := of_decide_eq_true e
      refine ⟨_, rfl, a, _, 0, .int p0, rfl, rfl, hs, atI_nat (j := 0) rfl, _, rfl, p0, n, rfl, rfl, hn, ?_⟩
      refine ⟨_, rfl, a, _, 0, .int p0, rfl, rfl, hs, atI_nat (j := 0) rfl, _, rfl, p0, n, rfl, rfl, ⟨hn, hn2⟩, _, rfl, a, _, 0, 0, rfl, rfl, ha, rfl, ?_⟩
      refine ⟨_, rfl, ?_⟩
      refine q _ (p0 % n) But.upd ⟨p0 / n, p1, p2, upd_same, ?_⟩ (Int.emod_nonneg _ (by omega)) (Int.emod_lt_of_pos _ hn)
      unfold Pot at hp ⊢
      have := Int.ediv_nonneg hp.1 (Int.le_of_lt hn)
      omega
    · have e0 : ¬ 0 < p0 := fun z => e (decide_eq_true z)
      obtain ⟨h0, h1, h2, h3, h4⟩ := hp
      have sq := sq_le (x := p2 + 1) (by omega) (by omega)
      refine ⟨_, rfl, a, _, 2, .int p2, rfl, rfl, hs, atI_nat (j := 2) rfl, p2, 1, rfl, rfl, _, rfl, a, _, 2, 2, rfl, rfl, ha, rfl, ?_⟩
      have ha1 : (upd H a (.lst [.int p0, .int p1, .int (p2 + 1)])) a = some (.lst [.int p0, .int p1, .int (p2 + 1)]) := upd_same
      refine ⟨(by show 7 ≤ sizeLine; decide), fun l nl => ?_⟩
      have nla : a ≠ l := ne_of_none ha1 nl
      have ha2 := same_new nl (o := .lst [.int 2147483647, .int 2147483629, .int 2147483587, .int 2147483579, .int 2147483563, .int 2147483549, .int 2147483543]) _ _ ha1
      have hs2 : SqL K _ a [.int p0, .int p1, .int (p2 + 1)] := SqL.of ha2
      obtain ⟨pr, hpr, hpr0, hpr1⟩ : ∃ pr : Int, atI [V.int 2147483647, .int 2147483629, .int 2147483587, .int 2147483579, .int 2147483563, .int 2147483549, .int 2147483543] ((p2 + 1) % 7) = some (.int pr) ∧ 0 < pr ∧ pr < 2147483648 := by
        have m0 := Int.emod_nonneg (p2 + 1) (b := 7) (by decide)
        have m1 := Int.emod_lt_of_pos (p2 + 1) (b := 7) (by decide)
        generalize (p2 + 1) % 7 = m at m0 m1
        have : m = 0 ∨ m = 1 ∨ m = 2 ∨ m = 3 ∨ m = 4 ∨ m = 5 ∨ m = 6 := by omega
        rcases this with rfl | rfl | rfl | rfl | rfl | rfl | rfl
        · exact ⟨2147483647, rfl, by decide, by decide⟩
        · exact ⟨2147483629, rfl, by decide, by decide⟩
        · exact ⟨2147483587, rfl, by decide, by decide⟩
        · exact ⟨2147483579, rfl, by decide, by decide⟩
        · exact ⟨2147483563, rfl, by decide, by decide⟩
        · exact ⟨2147483549, rfl, by decide, by decide⟩
        · exact ⟨2147483543, rfl, by decide, by decide⟩
      refine ⟨_, rfl, a, _, 2, .int (p2 + 1), rfl, rfl, hs2, atI_nat (j := 2) rfl, p2 + 1, 7, rfl, rfl, (show (0 : Int) < 7 by decide), l, _, (p2 + 1) % 7, .int pr, rfl, rfl, SqL.of upd_same, hpr, ?_⟩
      refine ⟨_, rfl, a, _, 1, .int p1, rfl, rfl, hs2, atI_nat (j := 1) rfl, _, rfl, a, _, 2, .int (p2 + 1), rfl, rfl, hs2, atI_nat (j := 2) rfl, 7919, p2 + 1, rfl, rfl, .inl ⟨by decide, by decide⟩,
        _, rfl, a, _, 2, .int (p2 + 1), rfl, rfl, hs2, atI_nat (j := 2) rfl, 7919 * (p2 + 1), p2 + 1, rfl, rfl, .inr ⟨by omega, by omega⟩, p1, 7919 * (p2 + 1) * (p2 + 1), rfl, rfl, p1 + 7919 * (p2 + 1) * (p2 + 1), 31, rfl, rfl,
        p1 + 7919 * (p2 + 1) * (p2 + 1) + 31, 3, rfl, rfl, ⟨by decide, by decide, by omega⟩, _, rfl, _, pr, rfl, rfl, hpr0, ?_⟩
      obtain ⟨mx, hmx⟩ : ∃ mx : Int, (p1 + 7919 * (p2 + 1) * (p2 + 1) + 31) ^ (3 : Int).toNat % pr = mx := ⟨_, rfl⟩
      dsimp only
      rw [hmx]
      have x0 : 0 ≤ mx := by
        rw [← hmx]
        exact Int.emod_nonneg _ (by omega)
      have x1 : mx < pr := by
        rw [← hmx]
        exact Int.emod_lt_of_pos _ hpr0
      refine ⟨_, rfl, _, rfl, mx, 10007, rfl, rfl, (show (0 : Int) < 10007 by decide), _, rfl, a, _, 2, .int (p2 + 1), rfl, rfl, hs2, atI_nat (j := 2) rfl, 97, p2 + 1, rfl, rfl, .inl ⟨by decide, by decide⟩, mx % 10007, 97 * (p2 + 1), rfl, rfl,
        mx, mx % 10007 + 97 * (p2 + 1), rfl, rfl, .inl ⟨by omega, by omega⟩, _, 2305843009213693907, rfl, rfl, (show (0 : Int) < 2305843009213693907 by decide), _, 97, rfl, rfl, ⟨by decide, by decide⟩, _, rfl, _, n, rfl, rfl, hn, ?_⟩
      refine q _ _ (But.upd.trans (.of (same_new nl))) ⟨p0, p1, p2 + 1, ha2, ?_⟩ (Int.emod_nonneg _ (by omega)) (Int.emod_lt_of_pos _ hn)
      unfold Pot
      omega
/-- 10 ** 480 -/
def big : Int := ((10 : Int) ^ (60 : Int).toNat) ^ (8 : Int).toNat
theorem big_pos : (0 : Int) < big := by decide +kernel
theorem big8 : CPowW ((10 : Int) ^ (60 : Int).toNat) 8 := ⟨by decide, by decide +kernel⟩
def spHand (K : PySem.W.Frag) : Sp := fun vs H Q _ => ∃ (a : Addr) (ns : List Int) (k : Nat), vs = [.ref a, .int k] ∧ SqL K H a (ns.map V.int) ∧ ns.length ≤ 63 ∧ k ≤ 3 ∧
  ∀ H' p, Same H H' → H p = none → PotAt H' p 0 → Q (.ref p) H'
theorem ok_hand (F : Fun K "_law_hand" "_law_hand" st_hand f fd) (B : Blt mg) : FnG P w K mg base CX0 1 f fd ["_law_script", "_law_k"] (spHand K) := by
  refine okG F sc_hand (fun vs H Q E h => ?_) (fun cdv A outer s H vs Q E hgd hr h => ?_)
  · obtain ⟨_, _, _, rfl, _⟩ := h
    rfl
  · obtain ⟨a, ns, k, rfl, hs, hl, hk, q⟩ := h
    refine ⟨_, (pss_cons (ps_set (i := 2) sc_hand.nd rfl (.inl rfl) (pe_ifExp (pt_cmpR op_lt (pv 1) (pe_callB call_len (by rfl) B.len (by decide +kernel) (pa_cons (pv 0) pa_nil)) (nomark _)) (pe_ix ix_list (pv 0) (pv 1) (fun _ _ => rfl)) (pe_op op_add (pe_op op_mul pe_int (pv 1)) pe_int)))
      (pss_cons (ps_set (i := 3) sc_hand.nd rfl (.inl rfl) (pe_op op_mul (pe_op op_mod (pe_callB call_abs (by rfl) B.abs (by decide +kernel) (pa_cons (pv 2) pa_nil)) (pe_op op_powW (pe_op op_pow pe_int pe_int) pe_int)) (pe_callTy call_int1 (by rfl) B.int (by decide +kernel) (pa_cons (pe_cmpR op_ge (pe_callB call_abs (by rfl) B.abs (by decide +kernel) (pa_cons (pv 2) pa_nil)) (pe_op op_pow pe_int pe_int) (nomark _)) pa_nil))))
      (pss_one (ps_ret (pe_lst (pa_cons (pv 3) (pa_cons (pe_op op_mod (pe_op op_add (pe_op op_add (pe_op op_mul (pe_op op_mod (pv 2) pe_int) pe_int) (pe_op op_mul pe_int (pv 1))) pe_int) pe_int) (pa_cons pe_int pa_nil)))))))), ?_⟩
    refine ⟨_, rfl, _, rfl, _, ns.length, rfl, .inl ⟨_, hs, (List.length_map ..).symm⟩, (k : Int), (ns.length : Int), rfl, rfl, _, rfl, ite2 (fun e => ?_) fun e => ?_⟩
    · have e0 : (k : Int) < ns.length := of_decide_eq_true e
      have e1 : k < ns.length := by omega
      refine ⟨_, rfl, _, rfl, a, _, (k : Int), .int ns[k], rfl, rfl, hs, atI_nat (j := k) (by rw [List.getElem?_map, List.getElem?_eq_getElem e1]; rfl), ?_⟩
      obtain ⟨cell, hc⟩ : ∃ c : Int, ns[k] = c := ⟨_, rfl⟩
      rw [hc]
      have c0 : (0 : Int) ≤ if cell < 0 then -cell else cell := by split <;> omega
      refine ⟨_, rfl, cell, rfl, 10, 60, rfl, rfl, ⟨by decide, by decide, by decide⟩, _, 8, rfl, rfl, big8, _, _, rfl, rfl, big_pos,
        _, rfl, cell, rfl, 10, 18, rfl, rfl, ⟨by decide, by decide, by decide⟩, _, _, rfl, rfl, .inr ⟨_, rfl, _, _, rfl, rfl, .inr (bit_mul _), ?_⟩⟩
      obtain ⟨own, ho⟩ : ∃ z : Int, (if cell < 0 then -cell else cell) % big * (if decide ((10 : Int) ^ (18 : Int).toNat ≤ if cell < 0 then -cell else cell) = true then 1 else 0) = z := ⟨_, rfl⟩
      have h0 : 0 ≤ own := by
        rw [← ho]
        exact Int.mul_nonneg (Int.emod_nonneg _ (Int.ne_of_gt big_pos)) (bit_nn _)
      dsimp only
      rw [show ((10 : Int) ^ (60 : Int).toNat) ^ (8 : Int).toNat = big from rfl, ho]
      refine ⟨_, rfl, _, rfl, cell, 2305843009213693951, rfl, rfl, (show (0 : Int) < 2305843009213693951 by decide), _, 69621, rfl, rfl, .inr ⟨by decide, by decide⟩, _, rfl, 15485863, (k : Int), rfl, rfl, .inl ⟨by decide, by decide⟩,
        _, _, rfl, rfl, _, 97, rfl, rfl, _, 2305843009213693921, rfl, rfl, (show (0 : Int) < 2305843009213693921 by decide), (by show 3 ≤ sizeLine; decide), fun p np => ?_⟩
      refine q _ p (same_new np) np ⟨own, _, 0, upd_same, h0, Int.emod_nonneg _ (by decide), ?_, Int.le_refl _, Int.le_refl _⟩
      exact Int.lt_trans (Int.emod_lt_of_pos _ (by decide)) (by decide)
    · refine ⟨_, rfl, 7, (k : Int), rfl, rfl, .inl ⟨by decide, by decide⟩, _, 3, rfl, rfl, ?_⟩
      obtain ⟨cell, hc⟩ : ∃ c : Int, 7 * (k : Int) + 3 = c := ⟨_, rfl⟩
      dsimp only
      rw [hc]
      have c0 : (0 : Int) ≤ if cell < 0 then -cell else cell := by split <;> omega
      refine ⟨_, rfl, cell, rfl, 10, 60, rfl, rfl, ⟨by decide, by decide, by decide⟩, _, 8, rfl, rfl, big8, _, _, rfl, rfl, big_pos,
        _, rfl, cell, rfl, 10, 18, rfl, rfl, ⟨by decide, by decide, by decide⟩, _, _, rfl, rfl, .inr ⟨_, rfl, _, _, rfl, rfl, .inr (bit_mul _), ?_⟩⟩
      obtain ⟨own, ho⟩ : ∃ z : Int, (if cell < 0 then -cell else cell) % big * (if decide ((10 : Int) ^ (18 : Int).toNat ≤ if cell < 0 then -cell else cell) = true then 1 else 0) = z := ⟨_, rfl⟩
      have h0 : 0 ≤ own := by
        rw [← ho]
        exact Int.mul_nonneg (Int.emod_nonneg _ (Int.ne_of_gt big_pos)) (bit_nn _)
      dsimp only
      rw [show ((10 : Int) ^ (60 : Int).toNat) ^ (8 : Int).toNat = big from rfl, ho]
      refine ⟨_, rfl, _, rfl, cell, 2305843009213693951, rfl, rfl, (show (0 : Int) < 2305843009213693951 by decide), _, 69621, rfl, rfl, .inr ⟨by decide, by decide⟩, _, rfl, 15485863, (k : Int), rfl, rfl, .inl ⟨by decide, by decide⟩,
        _, _, rfl, rfl, _, 97, rfl, rfl, _, 2305843009213693921, rfl, rfl, (show (0 : Int) < 2305843009213693921 by decide), (by show 3 ≤ sizeLine; decide), fun p np => ?_⟩
      refine q _ p (same_new np) np ⟨own, _, 0, upd_same, h0, Int.emod_nonneg _ (by decide), ?_, Int.le_refl _, Int.le_refl _⟩
      exact Int.lt_trans (Int.emod_lt_of_pos _ (by decide)) (by decide)
theorem seqL_but {H H' : Hp} {l a : Addr} {xs : List V} (h : SqL K H l xs) (n : l ≠ a) (b : But a H H') : SqL K H' l xs := by
  rcases h with (h | ⟨o, h⟩) | h
  · exact .inl (.inl (b _ _ n h))
  · exact .inl (.inr ⟨o, b _ _ n h⟩)
  · exact .inr h
theorem seqT_but {H H' : Hp} {l a : Addr} {xs : List V} (h : SqT K H l xs) (n : l ≠ a) (b : But a H H') : SqT K H' l xs := by
  rcases h with (h | ⟨o, h⟩) | h
  · exact .inl (.inl (b _ _ n h))
  · exact .inl (.inr ⟨o, b _ _ n h⟩)
  · exact .inr h
/-- of(hand, some): one of the items -/
def spOf (K : PySem.W.Frag) : Sp := fun vs H Q _ => ∃ (a l : Addr) (b : Nat) (xs : List V), vs = [.ref a, .ref l] ∧ PotAt H a b ∧ b ≤ 100000 ∧ l ≠ a ∧ (SqL K H l xs ∨ SqT K H l xs) ∧ 0 < xs.length ∧ xs.length ≤ 1000 ∧
  ∀ H' x, But a H H' → PotAt H' a (b + 1) → x ∈ xs → Q x H'
theorem ok_of {fT : Addr} {fdT : FuncData} (F : Fun K "_law_of" "_law_of" st_of f fd) (B : Blt mg) (F_take : Df P w K mg base "_law_take" 1 fT fdT ["_law_hand_here", "_law_many"] spTake) : FnG P w K mg base CX0 2 f fd ["_law_hand_here", "_law_some"] (spOf K) := by
  refine okG F sc_of (fun vs H Q E h => ?_) (fun cdv A outer s H vs Q E hgd hr h => ?_)
  · obtain ⟨_, _, _, _, rfl, _⟩ := h
    rfl
  · obtain ⟨a, l, b, xs, rfl, ha, hb, hal, hl, hx0, hx1, q⟩ := h
    refine ⟨_, (pss_one (ps_ret (pe_ix ix_seq (pv 1) (pe_callG hgd F_take.G (hr.mono (by decide)) (by rfl) F_take.g F_take.kp F_take.bd pass0 (pa_cons (pv 0) (pa_cons (pe_callB call_len (by rfl) B.len (by decide +kernel) (pa_cons (pv 1) pa_nil)) pa_nil))) (fun _ _ => rfl)))), ?_⟩
    refine ⟨_, rfl, _, rfl, _, rfl, _, xs.length, rfl, hl.imp (fun z => ⟨_, z, rfl⟩) (fun z => ⟨_, z, rfl⟩), a, b, (xs.length : Int), rfl, ha, hb, by omega, by omega, fun H' r bt ha' r0 r1 => ?_⟩
    obtain ⟨j, rfl⟩ := Int.eq_ofNat_of_zero_le r0
    have hj : j < xs.length := by omega
    have hq := q H' _ bt ha' (List.getElem_mem hj)
    rcases hl with hl | hl
    · exact .inl ⟨l, xs, (j : Int), xs[j], rfl, rfl, seqL_but hl hal bt, atI_nat (List.getElem?_eq_getElem hj), hq⟩
    · exact .inr (.inl ⟨l, xs, (j : Int), xs[j], rfl, rfl, seqT_but hl hal bt, atI_nat (List.getElem?_eq_getElem hj), hq⟩)
end
end K13

set_option Elab.async false
set_option linter.all false
namespace WT
open PySem PySem.Spec PyProof.Rows L2
theorem txt_join (a : Str) (ys : List Str) : Txt.join a ys = Str.join a ys := PySem.StrLaws.glued_eq_join a ys
theorem app_cps (a b : Str) : (a ++ b).cps.toList = a.cps.toList ++ b.cps.toList := by
  show (a.cps ++ b.cps).toList = _
  exact Array.toList_append
theorem app_len (a b : Str) : (a ++ b).length = a.length + b.length := by
  show (a.cps ++ b.cps).size = _
  rw [Array.size_append]
  rfl
theorem join_nil_cps : ∀ ys : List Str, (Str.join ("" : Str) ys).cps.toList = (ys.map fun y => y.cps.toList).flatten
  | [] => rfl
  | [x] => by
    show x.cps.toList = _
    simp
  | x :: y :: r => by
    show ((x ++ ("" : Str)) ++ Str.join ("" : Str) (y :: r)).cps.toList = _
    rw [app_cps, app_cps, join_nil_cps (y :: r)]
    show (x.cps.toList ++ []) ++ _ = _
    rw [List.append_nil]
    rfl
/-- a name's sign: a small letter -/
def Low (c : Nat) : Prop := 97 ≤ c ∧ c ≤ 122
/-- a short text of small letters -/
structure NmOk (y : Str) : Prop where
  len : y.length ≤ 8
  low : ∀ c ∈ y.cps.toList, Low c
theorem NmOk.ok {y : Str} (h : NmOk y) : PyData.strOk y = true := by
  unfold PyData.strOk
  rw [Array.all_eq_true]
  intro i hi
  have := h.low y.cps[i] (by rw [Array.mem_toList_iff]; exact Array.getElem_mem hi)
  unfold Low at this
  exact decide_eq_true (by omega)
def sign (c : Nat) : Str := ⟨#[c]⟩
/-- stem followed by one letter: the letters from the first on -/
def nameList (stem : Str) (first n : Nat) : List Str := (List.range n).map fun j => stem ++ sign (97 + first + j)
structure NamesOf (n : Nat) (ys : List Str) : Prop where
  ex : ∃ (stem : Str) (first : Nat), ys = nameList stem first n ∧ stem.length ≤ 7 ∧ (∀ c ∈ stem.cps.toList, Low c) ∧ first + n ≤ 26
theorem NamesOf.length {n : Nat} {ys : List Str} (h : NamesOf n ys) : ys.length = n := by
  obtain ⟨s, f, rfl, _⟩ := h.ex
  unfold nameList
  rw [List.length_map, List.length_range]
theorem NamesOf.nm {n : Nat} {ys : List Str} (h : NamesOf n ys) : ∀ y ∈ ys, NmOk y := by
  obtain ⟨s, f, rfl, h1, h2, h3⟩ := h.ex
  intro y hy
  unfold nameList at hy
  obtain ⟨j, hj, rfl⟩ := List.mem_map.mp hy
  have hj := List.mem_range.mp hj
  refine ⟨?_, fun c hc => ?_⟩
  · rw [app_len]
    show s.length + 1 ≤ 8
    omega
  · rw [app_cps] at hc
    rcases List.mem_append.mp hc with hc | hc
    · exact h2 c hc
    · have : c = 97 + f + j := by simpa [sign] using hc
      unfold Low
      omega
def alpha : Str := "abcdefghijklmnopqrstuvwxyz"
theorem alpha_cps : alpha.cps.toList = (List.range 26).map fun j => 97 + j := by decide +kernel
theorem alpha_len : alpha.length = 26 := by decide +kernel
theorem cut_alpha {f n : Nat} (h : f + n ≤ 26) : (cutS alpha (some (f : Int)) (some ((f + n : Nat) : Int))).cps.toList = (List.range n).map fun j => 97 + f + j := by
  unfold cutS
  rw [HT.sIx_nat, HT.sIx_nat, alpha_len, Nat.min_eq_left h, Nat.min_eq_left (show f ≤ 26 by omega)]
  show (List.take (f + n - f) (List.drop f alpha.cps.toList)) = _
  rw [alpha_cps]
  apply List.ext_getElem?
  intro i
  rw [List.getElem?_take, List.getElem?_drop, List.getElem?_map, List.getElem?_map]
  by_cases hi : i < n
  · rw [if_pos (by omega), List.getElem?_range (by omega), List.getElem?_range hi]
    show some (97 + (f + i)) = some (97 + f + i)
    rw [Nat.add_assoc]
  · rw [if_neg (by omega), List.getElem?_eq_none (l := List.range n) (by rw [List.length_range]; omega)]
    rfl
/-- texts as data -/
theorem dp_strs {K : PySem.W.Frag} {H : Hp} : ∀ ss : List Str, DpAll K H (ss.map V.str) (ss.map PyData.str)
  | [] => .nil
  | s :: ss => .cons (.str s) (dp_strs ss)
theorem lay_strs : ∀ ss : List Str, (∀ s ∈ ss, PyData.strOk s = true) → PyData.canLayAll0 (ss.map PyData.str) = true ∧ PyData.depthAll (ss.map PyData.str) = 0
  | [], _ => ⟨by rw [List.map_nil, PyData.canLayAll0], by rw [List.map_nil, PyData.depthAll]⟩
  | s :: ss, h => by
    obtain ⟨h1, h2⟩ := lay_strs ss fun x hx => h x (List.mem_cons_of_mem _ hx)
    rw [List.map_cons, PyData.canLayAll0, PyData.depthAll, h1, h2, PyData.canLay0, PyData.depth, h s List.mem_cons_self]
    exact ⟨rfl, rfl⟩
theorem shaped_strs (ss : List Str) (h : ∀ s ∈ ss, PyData.strOk s = true) : SeqAt.shaped (.list (ss.map PyData.str)) = true := by
  obtain ⟨h1, h2⟩ := lay_strs ss h
  unfold SeqAt.shaped
  rw [PyData.canLay0, PyData.depth, h1, h2]
  rfl
theorem shaped_strsT (ss : List Str) (h : ∀ s ∈ ss, PyData.strOk s = true) : SeqAt.shaped (.tuple (ss.map PyData.str)) = true := by
  obtain ⟨h1, h2⟩ := lay_strs ss h
  unfold SeqAt.shaped
  rw [PyData.canLay0, PyData.depth, h1, h2]
  rfl
theorem shaped_nil : SeqAt.shaped (.list []) = true := by decide +kernel
theorem shaped_nilT : SeqAt.shaped (.tuple []) = true := by decide +kernel
theorem eqv_nil : ∀ ss : List Str, PyData.eqv (.list (ss.map PyData.str)) (.list []) = ss.isEmpty
  | [] => by decide +kernel
  | s :: ss => by
    rw [List.map_cons, PyData.eqv, PyData.eqvAll]
    rfl
theorem eqv_nilT : ∀ ss : List Str, PyData.eqv (.tuple (ss.map PyData.str)) (.tuple []) = ss.isEmpty
  | [] => by decide +kernel
  | s :: ss => by
    rw [List.map_cons, PyData.eqv, PyData.eqvAll]
    rfl
theorem map_erase {α β : Type} (g : α → β) : ∀ (xs : List α) (j : Nat), (xs.map g).eraseIdx j = (xs.eraseIdx j).map g
  | [], _ => rfl
  | _ :: _, 0 => rfl
  | x :: xs, j + 1 => by
    show g x :: (xs.map g).eraseIdx j = g x :: (xs.eraseIdx j).map g
    rw [map_erase g xs j]
theorem erase_perm {α : Type} : ∀ (xs : List α) (j : Nat) (h : j < xs.length), (xs[j] :: xs.eraseIdx j).Perm xs
  | x :: xs, 0, _ => List.Perm.refl _
  | x :: xs, j + 1, h => by
    have ih := erase_perm xs j (Nat.lt_of_succ_lt_succ h)
    show (xs[j]'(Nat.lt_of_succ_lt_succ h) :: x :: xs.eraseIdx j).Perm (x :: xs)
    exact (List.Perm.swap _ _ _).trans (ih.cons x)
theorem sum_ones {α : Type} : ∀ ss : List α, (ss.map fun _ => 1).sum = ss.length
  | [] => rfl
  | s :: ss => by
    rw [List.map_cons, List.sum_cons, sum_ones ss, List.length_cons]
    omega
end WT

set_option Elab.async false
set_option linter.all false
set_option maxRecDepth 100000
set_option maxHeartbeats 4000000
namespace K13
open PySem PySem.Spec PyProof.Rows L2 WT
abbrev st_names : Stmt := top 20
theorem sc_names : FnScope ["_law_hand_here", "_law_count", "_law_stem", "_law_first", "_law_turn", "_law_letter"] ["_law_hand_here", "_law_count"] (defScope st_names) := ⟨rfl, rfl, rfl, by decide +kernel, rfl, by decide +kernel, by decide +kernel⟩
section
variable {P : Program} {w : World} {K : PySem.W.Frag} {mg : Str → Option Value} {base : Heap} {f fT fO : Addr} {fd fdT fdO : FuncData}
/-- mixed(hand, some): the same texts in some order -/
def spMixed (K : PySem.W.Frag) : Sp := fun vs H Q _ => ∃ (a l : Addr) (b : Nat) (ss : List Str), vs = [.ref a, .ref l] ∧ PotAt H a b ∧ b + ss.length ≤ 100000 ∧ (SqL K H l (ss.map V.str) ∨ SqT K H l (ss.map V.str)) ∧ ss.length ≤ 1000 ∧ (∀ s ∈ ss, PyData.strOk s = true) ∧
  ∀ (H' : Hp) (p : Addr) (ys : List Str), But a H H' → PotAt H' a (b + ss.length) → H p = none → H' p = some (.lst (ys.map V.str)) → ys.Perm ss → Q (.ref p) H'
theorem ok_mixed (F : Fun K "_law_mixed" "_law_mixed" st_mixed f fd) (B : Blt mg) (F_take : Df P w K mg base "_law_take" 1 fT fdT ["_law_hand_here", "_law_many"] spTake) : FnG P w K mg base CX0 2 f fd ["_law_hand_here", "_law_some"] (spMixed K) := by
  refine okG F sc_mixed (fun vs H Q E h => ?_) (fun cdv A outer s H vs Q E hgd hr h => ?_)
  · obtain ⟨_, _, _, _, rfl, _⟩ := h
    rfl
  · obtain ⟨a, l, b, ss, rfl, ha, hb, hl, hlen, hok, q⟩ := h
    refine ⟨_, (pss_cons (ps_par (by rfl) sc_mixed.nd (i := 2) (j := 3) rfl rfl (by decide) rfl rfl (pa_cons (pe_callTy call_list_of (by rfl) B.list (by decide +kernel) (pa_cons (pv 1) pa_nil)) (pa_cons (pe_lst pa_nil) pa_nil)) (by rfl))
      (pss_cons (ps_while PassesOwn.never (pt_cmpR (op_neD hr.units) (pv 2) (pe_lst pa_nil) (nomark _))
       (pss_one (ps_expr (pe_bm PySem.F.plainAttrs_list PySem.F.slot_list_append PySem.F.type_list_append mt_append (pv 3) (pa_cons (pe_bm PySem.F.plainAttrs_list PySem.F.slot_list_pop PySem.F.type_list_pop mt_popAt (pv 2) (pa_cons (pe_callG hgd F_take.G (hr.mono (by decide)) (by rfl) F_take.g F_take.kp F_take.bd pass0 (pa_cons (pv 0) (pa_cons (pe_callB call_len (by rfl) B.len (by decide +kernel) (pa_cons (pv 2) pa_nil)) pa_nil))) pa_nil)) pa_nil)))))
      (pss_one (ps_ret (pv 3))))), ?_⟩
    refine ⟨_, rfl, l, ss.map V.str, rfl, hl, fun L nL => ?_⟩
    refine ⟨(by show 0 ≤ sizeLine; decide), fun D nD => ?_⟩
    refine ⟨_, _, rfl, ?_⟩
    have hnaL : a ≠ L := ha.ne_new nL
    have z1 := same_new nL (o := .lst (ss.map V.str))
    have z2 := same_new nD (o := .lst [])
    have hnaD : a ≠ D := (ha.same z1).ne_new nD
    have hLD : L ≠ D := ne_of_none upd_same nD
    have nD0 : H D = none := by
      rw [← upd_ne (H := H) (o := .lst (ss.map V.str)) (Ne.symm hLD)]
      exact nD
    refine ⟨fun m σ H' => ∃ left found : List Str, σ = [some (.ref a), some (.ref l), some (.ref L), some (.ref D)] ∧ m = left.length ∧ But a H H' ∧ PotAt H' a (b + found.length) ∧ H' L = some (.lst (left.map V.str)) ∧ H' D = some (.lst (found.map V.str)) ∧ (found ++ left).Perm ss,
      ⟨ss.length, ss, [], rfl, rfl, .of (z1.trans z2), (ha.same z1).same z2, z2 _ _ upd_same, upd_same, List.Perm.refl _⟩, fun m σ H' hW => ?_⟩
    obtain ⟨left, found, rfl, rfl, bt, hp, hL, hD, pm⟩ := hW
    have hle : found.length + left.length = ss.length := by
      have := pm.length_eq
      rw [List.length_append] at this
      exact this
    refine ⟨_, rfl, (by show 0 ≤ sizeLine; decide), fun e ne => ?_⟩
    have z3 := same_new ne (o := .lst [])
    have okl : ∀ s ∈ left, PyData.strOk s = true := fun s hs => hok s (pm.mem_iff.mp (List.mem_append_right _ hs))
    refine ⟨_, _, .lst (SqL.of (z3 _ _ hL)) (dp_strs left), .lst (SqL.of upd_same) .nil, shaped_strs left okl, shaped_nil, _, rfl, ?_⟩
    rw [eqv_nil]
    cases left with
    | nil =>
      refine iteF ⟨_, rfl, ?_⟩
      rw [List.append_nil] at pm
      refine q _ D found (bt.trans (.of z3)) ((hp.same z3).more (by omega)) nD0 (z3 _ _ hD) pm
    | cons x left =>
      refine iteT ⟨fun σ' H2 => ∃ left' found' : List Str, σ' = [some (.ref a), some (.ref l), some (.ref L), some (.ref D)] ∧ left'.length = left.length ∧ But a H H2 ∧ PotAt H2 a (b + found'.length) ∧ H2 L = some (.lst (left'.map V.str)) ∧ H2 D = some (.lst (found'.map V.str)) ∧ (found' ++ left').Perm ss,
        fun σ' H2 ⟨l', f', h1, h2, h3⟩ => ⟨left.length, by rw [List.length_cons]; omega, l', f', h1, h2.symm, h3⟩, ?_⟩
      have hl3 := z3 _ _ hL
      have hd3 := z3 _ _ hD
      refine ⟨_, rfl, .inl ⟨rfl, _, SqL.of hd3⟩, _, rfl, .inl ⟨rfl, _, SqL.of hl3⟩, _, rfl, _, rfl, _, ((x :: left).map V.str).length, rfl, .inl ⟨_, SqL.of hl3, rfl⟩, a, b + found.length, (((x :: left).map V.str).length : Int), rfl, hp.same z3, by simp at hle ⊢; omega, by simp <;> omega,
        by simp at hle ⊢; omega, fun H4 r b4 p4 r0 r1 => ?_⟩
      obtain ⟨j, rfl⟩ := Int.eq_ofNat_of_zero_le r0
      have hj : j < (x :: left).length := by
        rw [List.length_map] at r1
        omega
      have hl4 := b4 _ _ (Ne.symm hnaL) hl3
      have hd4 := b4 _ _ (Ne.symm hnaD) hd3
      have hjx : ((x :: left).map V.str)[j]? = some (V.str (x :: left)[j]) := by
        rw [List.getElem?_map, List.getElem?_eq_getElem hj]
        rfl
      have hsq : seqIndex? (j : Int) ((x :: left).map V.str).length = some j := by
        have := (ixN_seq (n := ((x :: left).map V.str).length) (i := (j : Int)) (j := j) (by
          unfold ixN
          rw [if_pos (by omega), if_pos (by rw [List.length_map]; omega)]
          simp)).1
        exact this
      refine ⟨L, _, (j : Int), j, _, rfl, rfl, hl4, by omega, by rw [List.length_cons] at hj; simp at hle; omega, hsq, hjx, ?_⟩
      have hD5 : (upd H4 L (.lst (((x :: left).map V.str).eraseIdx j))) D = some (.lst (found.map V.str)) := by
        rw [upd_ne (Ne.symm hLD)]
        exact hd4
      refine ⟨D, _, _, rfl, rfl, hD5, ?_, ?_⟩
      · rw [List.length_map]
        exact Nat.lt_of_le_of_lt (show found.length ≤ 1000 by simp at hle; omega) (by decide)
      · refine ⟨(x :: left).eraseIdx j, found ++ [(x :: left)[j]], rfl, ?_, ?_, ?_, ?_, ?_, ?_⟩
        · rw [List.length_eraseIdx_of_lt hj]
          rfl
        · intro c o nc ec
          rw [upd_ne (ne_of_none ec nD0), upd_ne (ne_of_none ec nL)]
          exact (bt.trans ((But.of z3).trans b4)) c o nc ec
        · obtain ⟨u0, u1, u2, e1, e2⟩ := p4
          refine ⟨u0, u1, u2, ?_, e2.more ?_⟩
          · rw [upd_ne hnaD, upd_ne hnaL]
            exact e1
          · rw [List.length_append]
            exact Nat.le_refl _
        · rw [upd_ne hLD, upd_same]
          congr 2
          exact map_erase _ _ _
        · rw [upd_same, List.map_append]
          rfl
        · refine List.Perm.trans ?_ pm
          rw [List.append_assoc]
          exact List.Perm.append_left _ (erase_perm _ j hj)
/-- names(hand, count): a tuple of so many names -/
def spNames : Sp := fun vs H Q _ => ∃ (a : Addr) (b n : Nat), vs = [.ref a, .int n] ∧ PotAt H a b ∧ b ≤ 90000 ∧ n ≤ 20 ∧
  ∀ (H' : Hp) (p : Addr) (ys : List Str), But a H H' → PotAt H' a (b + 9) → H' p = some (.tup (ys.map V.str)) → NamesOf n ys → Q (.ref p) H'
theorem ok_names (F : Fun K "_law_names" "_law_names" st_names f fd) (B : Blt mg) (F_take : Df P w K mg base "_law_take" 1 fT fdT ["_law_hand_here", "_law_many"] spTake)
    (F_of : Df P w K mg base "_law_of" 2 fO fdO ["_law_hand_here", "_law_some"] (spOf K)) : FnG P w K mg base CX0 3 f fd ["_law_hand_here", "_law_count"] spNames := by
  refine okG F sc_names (fun vs H Q E h => ?_) (fun cdv A outer s H vs Q E hgd hr h => ?_)
  · obtain ⟨_, _, _, rfl, _⟩ := h
    rfl
  · obtain ⟨a, b, n, rfl, ha, hb, hn, q⟩ := h
    refine ⟨_, (pss_cons (ps_set (i := 2) sc_names.nd rfl (.inr rfl) (pe_join pe_str (pe_lc (own := [("_law_turn", 4)]) (by rfl) sc_names.nd (pi_range1 (by rfl) B.range (pa_cons (pe_callG hgd F_of.G (hr.mono (by decide)) (by rfl) F_of.g F_of.kp F_of.bd pass0 (pa_cons (pv 0) (pa_cons (pe_lst (pa_cons pe_int (pa_cons pe_int (pa_cons pe_int (pa_cons pe_int pa_nil))))) pa_nil))) pa_nil)) (blkOk_by (own := [("_law_turn", 4)]) (N := ["_law_hand_here", "_law_count", "_law_stem", "_law_first", "_law_turn", "_law_letter"]) (sc := defScope st_names) (by decide +kernel)) (fun _ _ _ _ _ => (pg_name (i := 4) sc_names.nd rfl (.inl rfl))) (fun _ _ _ _ _ => pts_nil) (fun _ _ _ _ _ => (pe_callG hgd F_of.G (hr.mono (by decide)) (by rfl) F_of.g F_of.kp F_of.bd pass0 (pa_cons (pv 0) (pa_cons (pe_callTy (call_list_str rfl) (by rfl) B.list (by decide +kernel) (pa_cons pe_str pa_nil)) pa_nil)))))))
      (pss_cons (ps_set (i := 3) sc_names.nd rfl (.inl rfl) (pe_callG hgd F_take.G (hr.mono (by decide)) (by rfl) F_take.g F_take.kp F_take.bd pass0 (pa_cons (pv 0) (pa_cons (pe_op op_sub pe_int (pv 1)) pa_nil))))
      (pss_one (ps_ret (pe_callTy call_tuple_of (by rfl) B.tuple (by decide +kernel) (pa_cons (pe_lc (own := [("_law_letter", 5)]) (by rfl) sc_names.nd (pi_str (pe_slice sl_str pe_str (po_some (pv 3)) (po_some (pe_op op_add (pv 3) (pv 1))))) (blkOk_by (own := [("_law_letter", 5)]) (N := ["_law_hand_here", "_law_count", "_law_stem", "_law_first", "_law_turn", "_law_letter"]) (sc := defScope st_names) (by decide +kernel)) (fun _ _ _ _ _ => (pg_name (i := 5) sc_names.nd rfl (.inl rfl))) (fun _ _ _ _ _ => pts_nil) (fun _ _ _ _ _ => (pe_op op_add_str (pv 2) (pv 5)))) pa_nil)))))), ?_⟩
    -- how long the stem is
    refine ⟨⟨_, rfl⟩, _, rfl, (by show 4 ≤ sizeLine; decide), fun l0 n0 => ?_⟩
    have z0 := same_new n0 (o := .lst [.int 0, .int 0, .int 1, .int 7])
    refine ⟨a, l0, b, [.int 0, .int 0, .int 1, .int 7], rfl, ha.same z0, by omega, Ne.symm (ha.ne_new n0), .inl (SqL.of upd_same), by decide, by decide, fun H1 x b1 p1 hx => ?_⟩
    obtain ⟨m, rfl, hm⟩ : ∃ m : Nat, x = .int m ∧ m ≤ 7 := by
      simp only [List.mem_cons, List.not_mem_nil, or_false] at hx
      rcases hx with rfl | rfl | rfl | rfl
      · exact ⟨0, rfl, by decide⟩
      · exact ⟨0, rfl, by decide⟩
      · exact ⟨1, rfl, by decide⟩
      · exact ⟨7, rfl, by decide⟩
    have bt1 : But a H H1 := (But.of z0).trans b1
    refine ⟨(m : Int), rfl, by omega, by omega, fun D nD => lc_range (lo := 0) (n := (m : Int).toNat) (fun j H' => ∃ ss : List Str, ss.length = j ∧ (∀ s ∈ ss, ∃ c, s = sign c ∧ Low c) ∧ But a H H' ∧ PotAt H' a (b + 1 + j) ∧ H' D = some (.lst (ss.map V.str)))
      ⟨[], rfl, fun s hs => (nomatch hs), bt1.trans (.of (same_new nD)), p1.same (same_new nD), upd_same⟩ (fun j H' hj hP => ?_) fun H' hP => ?_⟩
    · obtain ⟨ss, hl, hc, bt, hp, hD⟩ := hP
      have naD : a ≠ D := p1.ne_new nD
      refine ⟨rfl, _, rfl, "abmz", rfl, (by decide +kernel), fun l nl => ?_⟩
      have z2 := same_new nl (o := .lst (signsV "abmz"))
      refine ⟨a, l, b + 1 + j, signsV "abmz", rfl, hp.same z2, by omega, Ne.symm (hp.ne_new nl), .inl (SqL.of upd_same), by decide +kernel, by decide +kernel, fun H2 y b2 p2 hy => ?_⟩
      obtain ⟨c, rfl, hcl⟩ : ∃ c, y = .str (sign c) ∧ Low c := by
        have : signsV "abmz" = [V.str (sign 97), V.str (sign 98), V.str (sign 109), V.str (sign 122)] := by decide +kernel
        rw [this] at hy
        simp only [List.mem_cons, List.not_mem_nil, or_false] at hy
        unfold Low
        rcases hy with rfl | rfl | rfl | rfl
        · exact ⟨97, rfl, by decide⟩
        · exact ⟨98, rfl, by decide⟩
        · exact ⟨109, rfl, by decide⟩
        · exact ⟨122, rfl, by decide⟩
      have hD2 := b2 _ _ (Ne.symm naD) (z2 _ _ hD)
      refine ⟨_, hD2, ?_, ss ++ [sign c], ?_, ?_, ?_, ?_, ?_⟩
      · rw [List.length_map, hl]
        exact Nat.lt_of_lt_of_le (show j < 10 by omega) (by decide)
      · rw [List.length_append, hl]
        rfl
      · intro s hs
        rcases List.mem_append.mp hs with hs | hs
        · exact hc s hs
        · rw [List.mem_singleton.mp hs]
          exact ⟨c, rfl, hcl⟩
      · intro g o ng eg
        have ngD : g ≠ D := ne_of_none (bt1 _ _ ng eg) nD
        rw [upd_ne ngD]
        exact (bt.trans ((But.of z2).trans b2)) g o ng eg
      · obtain ⟨u0, u1, u2, e1, e2⟩ := p2
        exact ⟨u0, u1, u2, by rw [upd_ne naD]; exact e1, e2.more (by omega)⟩
      · rw [upd_same, List.map_append]
        rfl
    · obtain ⟨ss, hl, hc, bt, hp, hD⟩ := hP
      have hl : ss.length = m := hl
      have sl : (ss.map fun s => s.length) = ss.map fun _ => 1 := List.map_congr_left fun s hs => by
        obtain ⟨c, rfl, _⟩ := hc s hs
        rfl
      have sum1 : (ss.map fun s => s.length).sum = m := by
        rw [sl, sum_ones, hl]
      refine ⟨"", D, ss, rfl, rfl, .inl (SqL.of hD), ?_, ?_⟩
      · rw [sum1]
        show m + ss.length * 0 ≤ 16777216
        omega
      -- the stem
      rw [txt_join]
      obtain ⟨stem, hst⟩ : ∃ z, Str.join ("" : Str) ss = z := ⟨_, rfl⟩
      rw [hst]
      have stl : ∀ c ∈ stem.cps.toList, Low c := by
        intro c hcc
        rw [← hst, join_nil_cps] at hcc
        obtain ⟨x, hx, hcx⟩ := List.mem_flatten.mp hcc
        obtain ⟨s, hs, rfl⟩ := List.mem_map.mp hx
        obtain ⟨c', rfl, h⟩ := hc s hs
        have : c = c' := by simpa [sign] using hcx
        rw [this]
        exact h
      have sten : stem.length ≤ 7 := by
        have : stem.cps.toList.length = m := by
          rw [← hst, join_nil_cps, List.length_flatten, List.map_map, ← sum1]
          congr 1
        rw [Array.length_toList] at this
        show stem.cps.size ≤ 7
        omega
      -- the first letter
      refine ⟨_, rfl, _, rfl, 26, (n : Int), rfl, rfl, a, b + 1 + m, 26 - (n : Int), rfl, hp, by omega, by omega, by omega, fun H3 r b3 p3 r0 r1 => ?_⟩
      obtain ⟨first, rfl⟩ := Int.eq_ofNat_of_zero_le r0
      have hf : first + n ≤ 26 := by omega
      have hcut : (cutS alpha (some (first : Int)) (some ((first : Int) + (n : Int)))).cps.toList = (List.range n).map fun j => 97 + first + j := cut_alpha hf
      have hsz : (cutS alpha (some (first : Int)) (some ((first : Int) + (n : Int)))).cps.size = n := by
        rw [← Array.length_toList, hcut, List.length_map, List.length_range]
      refine ⟨_, rfl, (first : Int), rfl, _, rfl, _, rfl, (first : Int), (n : Int), rfl, rfl, _, rfl, alpha, rfl, by decide +kernel, _, rfl, fun D2 nD2 => lc_it walk_str (fun j H' => Same H3 H' ∧ H' D2 = some (.lst ((nameList stem first j).map V.str))) ⟨same_new nD2, upd_same⟩ (fun _ _ _ _ => trivial)
        (fun j x H4 H5 hj hP hY => ?_) fun H4 hP => ?_⟩
      · obtain ⟨s4, d4⟩ := hP
        obtain ⟨rfl, c, hc4, rfl⟩ := hY
        have hj' : j < n := by
          rw [← hsz]
          exact hj
        have hcj : c = 97 + first + j := by
          have e : (cutS alpha (some (first : Int)) (some ((first : Int) + (n : Int)))).cps.toList[j]? = some c := by
            rw [Array.getElem?_toList]
            exact hc4
          rw [hcut, List.getElem?_map, List.getElem?_range hj'] at e
          exact (Option.some.inj e).symm
        subst hcj
        refine ⟨rfl, _, rfl, _, rfl, stem, sign (97 + first + j), rfl, rfl, ?_, _, d4, ?_, ?_, ?_⟩
        · show stem.length + 1 ≤ sizeLine
          exact Nat.le_trans (show stem.length + 1 ≤ 8 by omega) (by decide)
        · unfold nameList
          rw [List.length_map, List.length_map, List.length_range]
          exact Nat.lt_of_lt_of_le (show j < 30 by omega) (by decide)
        · intro g o eg
          rw [upd_ne (ne_of_none eg nD2)]
          exact s4 g o eg
        · rw [upd_same]
          unfold nameList
          rw [List.range_succ, List.map_append, List.map_append]
          rfl
      · obtain ⟨s4, d4⟩ := hP
        rw [hsz] at d4
        refine ⟨D2, _, rfl, .inl ⟨SqL.of d4, fun p np => ?_⟩⟩
        have z5 := same_new np (o := .tup ((nameList stem first n).map V.str))
        exact q _ p _ (bt.trans (b3.trans (.of (s4.trans z5)))) (((p3.same s4).same z5).more (by omega)) upd_same ⟨stem, first, rfl, sten, stl, hf⟩
end
end K13

set_option Elab.async false
set_option linter.all false
namespace WT
open PySem PySem.Spec PyProof.Rows L2
/-- a gateway: its name, its members, its kind -/
abbrev Gt := Str × List Str × Str
def GateAt (H : Hp) (a : Addr) (g : Gt) : Prop := ∃ i, H a = some (.tup [.str g.1, .ref i, .str g.2.2]) ∧ H i = some (.tup (g.2.1.map V.str))
theorem GateAt.same {H H' : Hp} {a : Addr} {g : Gt} (h : GateAt H a g) (s : Same H H') : GateAt H' a g := by
  obtain ⟨i, h1, h2⟩ := h
  exact ⟨i, s _ _ h1, s _ _ h2⟩
theorem GateAt.but {H H' : Hp} {a c : Addr} {g : Gt} {b : Nat} (h : GateAt H a g) (p : PotAt H c b) (s : But c H H') : GateAt H' a g := by
  obtain ⟨i, h1, h2⟩ := h
  exact ⟨i, s _ _ (p.ne_tup h1) h1, s _ _ (p.ne_tup h2) h2⟩
/-- the world of the regions rs and the gateways gs stands at a -/
structure WorldAt (H : Hp) (a r g : Addr) (as : List Addr) (rs : List Str) (gs : List Gt) : Prop where
  top : H a = some (.tup [.ref r, .ref g])
  reg : H r = some (.tup (rs.map V.str))
  gat : H g = some (.tup (as.map V.ref))
  each : Paired (GateAt H) as gs
theorem WorldAt.same {H H' : Hp} {a r g : Addr} {as : List Addr} {rs : List Str} {gs : List Gt} (h : WorldAt H a r g as rs gs) (s : Same H H') : WorldAt H' a r g as rs gs :=
  ⟨s _ _ h.top, s _ _ h.reg, s _ _ h.gat, Paired.mapP h.each fun _ _ z => z.same s⟩
theorem WorldAt.but {H H' : Hp} {a r g c : Addr} {as : List Addr} {rs : List Str} {gs : List Gt} {b : Nat} (h : WorldAt H a r g as rs gs) (p : PotAt H c b) (s : But c H H') : WorldAt H' a r g as rs gs :=
  ⟨s _ _ (p.ne_tup h.top) h.top, s _ _ (p.ne_tup h.reg) h.reg, s _ _ (p.ne_tup h.gat) h.gat, Paired.mapP h.each fun _ _ z => z.but p s⟩
/-- what a drawn gateway between the regions rs is -/
structure GateOk (rs : List Str) (g : Gt) : Prop where
  nm : NmOk g.1
  from_ : ∃ (ys : List Str) (k : Nat), ys.Perm rs ∧ g.2.1.Perm (ys.take k) ∧ 2 ≤ k ∧ k ≤ rs.length
  srt : sortedS g.2.1 = true
  kind : g.2.2 = "wrap" ∨ g.2.2 = "open"
theorem GateOk.sub {rs : List Str} {g : Gt} (h : GateOk rs g) : ∀ x ∈ g.2.1, x ∈ rs := by
  obtain ⟨ys, k, h1, h2, _⟩ := h.from_
  intro x hx
  exact h1.mem_iff.mp (List.mem_of_mem_take (h2.mem_iff.mp hx))
theorem GateOk.len {rs : List Str} {g : Gt} (h : GateOk rs g) : 2 ≤ g.2.1.length ∧ g.2.1.length ≤ rs.length := by
  obtain ⟨ys, k, h1, h2, h3, h4⟩ := h.from_
  have e1 := h2.length_eq
  have e2 := h1.length_eq
  rw [List.length_take] at e1
  omega
structure WorldOk (rs : List Str) (gs : List Gt) : Prop where
  reg : ∃ n, 1 ≤ n ∧ n ≤ 10 ∧ NamesOf n rs
  gat : ∃ n, n ≤ 10 ∧ NamesOf n (gs.map (·.1))
  each : ∀ g ∈ gs, GateOk rs g
theorem cut_to (ys : List Str) (k : Nat) : cutV (ys.map V.str) none (some (k : Int)) = (ys.take k).map V.str := by
  unfold cutV
  rw [HT.sIx_nat, HT.sIx_none, List.drop_zero, List.length_map, Nat.sub_zero, ← List.map_take]
  congr 1
  rcases Nat.le_total k ys.length with h | h
  · rw [Nat.min_eq_left h]
  · rw [Nat.min_eq_right h, List.take_of_length_le h, List.take_length]
theorem pair_snoc {α β : Type} {R : α → β → Prop} : ∀ {l : List α} {m : List β} {x : α} {y : β}, Paired R l m → R x y → Paired R (l ++ [x]) (m ++ [y])
  | _, _, _, _, .nil, r => .cons r .nil
  | _, _, _, _, .cons r t, q => .cons r (pair_snoc t q)
end WT

set_option Elab.async false
set_option linter.all false
namespace WT
open PySem PySem.Spec PyProof.Rows L2
/-! ### regions that gateways connect: the mathematics -/
def Adj (gs : List Gt) (bar : List Str) (x y : Str) : Prop := ∃ g ∈ gs, g.1 ∉ bar ∧ x ∈ g.2.1 ∧ y ∈ g.2.1
inductive Conn (gs : List Gt) (bar : List Str) (x : Str) : Str → Prop
  | refl : Conn gs bar x x
  | step {y z : Str} : Conn gs bar x y → Adj gs bar y z → Conn gs bar x z
theorem Adj.symm {gs : List Gt} {bar : List Str} {x y : Str} (h : Adj gs bar x y) : Adj gs bar y x := by
  obtain ⟨g, h1, h2, h3, h4⟩ := h
  exact ⟨g, h1, h2, h4, h3⟩
theorem Conn.trans {gs : List Gt} {bar : List Str} {x y z : Str} (h : Conn gs bar x y) (k : Conn gs bar y z) : Conn gs bar x z := by
  induction k with
  | refl => exact h
  | step _ a ih => exact ih.step a
theorem Conn.symm {gs : List Gt} {bar : List Str} {x y : Str} (h : Conn gs bar x y) : Conn gs bar y x := by
  induction h with
  | refl => exact .refl
  | step _ a ih => exact (Conn.refl.step a.symm).trans ih
/-- what exits returns -/
def exitsL (gs : List Gt) (bar : List Str) (x : Str) : List (Str × Str) := gs.flatMap fun g => if x ∈ g.2.1 ∧ g.1 ∉ bar then (g.2.1.filter fun y => decide (y ≠ x)).map fun y => (g.1, y) else []
theorem exits_adj {gs : List Gt} {bar : List Str} {x : Str} {e : Str × Str} (h : e ∈ exitsL gs bar x) : Adj gs bar x e.2 := by
  unfold exitsL at h
  obtain ⟨g, hg, he⟩ := List.mem_flatMap.mp h
  by_cases c : x ∈ g.2.1 ∧ g.1 ∉ bar
  · rw [if_pos c] at he
    obtain ⟨y, hy, rfl⟩ := List.mem_map.mp he
    exact ⟨g, hg, c.2, c.1, (List.mem_filter.mp hy).1⟩
  · rw [if_neg c] at he
    cases he
theorem adj_exits {gs : List Gt} {bar : List Str} {x y : Str} (h : Adj gs bar x y) (n : y ≠ x) : ∃ e ∈ exitsL gs bar x, e.2 = y := by
  obtain ⟨g, hg, h1, h2, h3⟩ := h
  refine ⟨(g.1, y), ?_, rfl⟩
  unfold exitsL
  refine List.mem_flatMap.mpr ⟨g, hg, ?_⟩
  rw [if_pos ⟨h2, h1⟩]
  exact List.mem_map.mpr ⟨y, List.mem_filter.mpr ⟨h3, decide_eq_true n⟩, rfl⟩
/-- a set of regions that no exit leaves has all that is connected -/
theorem closed_conn {gs : List Gt} {bar : List Str} {x y : Str} {ks : List Str} (hx : x ∈ ks) (hc : ∀ k ∈ ks, ∀ z, Adj gs bar k z → z ∈ ks) (h : Conn gs bar x y) : y ∈ ks := by
  induction h with
  | refl => exact hx
  | step _ a ih => exact hc _ ih _ a
/-- different ones among rs are at most as many -/
theorem nodup_le {α : Type} [DecidableEq α] : ∀ {ks rs : List α}, ks.Nodup → (∀ k ∈ ks, k ∈ rs) → ks.length ≤ rs.length
  | [], _, _, _ => Nat.zero_le _
  | k :: ks, rs, hn, hs => by
    have hk := hs k List.mem_cons_self
    obtain ⟨hk1, hk2⟩ := List.nodup_cons.mp hn
    have ih := nodup_le (ks := ks) (rs := rs.erase k) hk2 fun z hz => by
      have := hs z (List.mem_cons_of_mem _ hz)
      exact (List.mem_erase_of_ne (fun (e : z = k) => hk1 (e ▸ hz))).mpr this
    have := List.length_erase_of_mem hk
    have : 0 < rs.length := List.length_pos_of_mem hk
    rw [List.length_cons]
    omega
theorem inV_str (x : Str) : ∀ ss : List Str, inV (.str x) (ss.map V.str) = decide (x ∈ ss)
  | [] => by simp [inV]
  | s :: ss => by
    have ih := inV_str x ss
    unfold inV at ih ⊢
    rw [List.map_cons, List.any_cons, ih]
    by_cases h : x = s
    · subst h
      simp [eqV]
    · have : ¬ s = x := fun z => h z.symm
      simp [eqV, h, this]
theorem flat_strs : ∀ ss : List Str, (ss.map V.str).all flatV = true
  | [] => rfl
  | _ :: ss => by
    rw [List.map_cons, List.all_cons, flat_strs ss]
    rfl
theorem exits_len {gs : List Gt} {bar : List Str} {x : Str} (h : ∀ g ∈ gs, g.2.1.length ≤ 100) : (exitsL gs bar x).length ≤ gs.length * 100 := by
  induction gs with
  | nil => exact Nat.zero_le _
  | cons g gs ih =>
    have := ih fun y hy => h y (List.mem_cons_of_mem _ hy)
    have hg := h g List.mem_cons_self
    unfold exitsL at this ⊢
    rw [List.flatMap_cons, List.length_append, List.length_cons, Nat.add_mul]
    have : (if x ∈ g.2.1 ∧ g.1 ∉ bar then (g.2.1.filter fun y => decide (y ≠ x)).map fun y => (g.1, y) else []).length ≤ 100 := by
      by_cases c : x ∈ g.2.1 ∧ g.1 ∉ bar
      · rw [if_pos c, List.length_map]
        exact Nat.le_trans (List.length_filter_le _ _) hg
      · rw [if_neg c]
        exact Nat.zero_le _
    omega
theorem pair_at {α β : Type} {R : α → β → Prop} : ∀ {l : List α} {m : List β} {i : Nat} {x : α}, Paired R l m → l[i]? = some x → ∃ y, m[i]? = some y ∧ R x y
  | _, _, _, _, .nil, h => by simp at h
  | _, _, 0, _, .cons r _, h => by
    cases h
    exact ⟨_, rfl, r⟩
  | _, _, i + 1, _, .cons _ t, h => pair_at (i := i) t h
theorem pair_app {α β : Type} {R : α → β → Prop} : ∀ {l l2 : List α} {m m2 : List β}, Paired R l m → Paired R l2 m2 → Paired R (l ++ l2) (m ++ m2)
  | _, _, _, _, .nil, r => r
  | _, _, _, _, .cons r t, q => .cons r (pair_app t q)
theorem valV_mem {κ : Type} [DecidableEq κ] {k : κ} {v : V} : ∀ {kvs : List (κ × V)}, valV kvs k = some v → (k, v) ∈ kvs
  | [], h => by cases h
  | p :: r, h => by
    by_cases e : p.1 = k
    · rw [valV_pos e] at h
      cases h
      rw [← e]
      exact List.mem_cons_self
    · rw [valV_neg e] at h
      exact List.mem_cons_of_mem _ (valV_mem h)
theorem valV_some {κ : Type} [DecidableEq κ] {k : κ} : ∀ {kvs : List (κ × V)}, k ∈ kvs.map (·.1) → ∃ v, valV kvs k = some v
  | [], h => by cases h
  | p :: r, h => by
    by_cases e : p.1 = k
    · exact ⟨_, valV_pos e⟩
    · rw [valV_neg e]
      rcases List.mem_cons.mp h with h | h
      · exact absurd h.symm e
      · exact valV_some h
theorem valV_none {κ : Type} [DecidableEq κ] {k : κ} {kvs : List (κ × V)} (h : k ∉ kvs.map (·.1)) : valV kvs k = none := by
  cases e : valV kvs k with
  | none => rfl
  | some v => exact absurd (List.mem_map.mpr ⟨_, valV_mem e, rfl⟩) h
/-- the search so far: the regions that have a path, each path a tuple -/
structure Bfs (gs : List Gt) (bar rs : List Str) (one : Str) (H : Hp) (kvs : List (Key × V)) (ks : List Str) : Prop where
  keys : kvs.map (·.1) = ks.map Sum.inr
  nod : ks.Nodup
  has : one ∈ ks
  con : ∀ k ∈ ks, Conn gs bar one k ∧ k ∈ rs
  tup : ∀ p ∈ kvs, ∃ (t : Addr) (xs : List V), p.2 = .ref t ∧ H t = some (.tup xs) ∧ xs ≠ [] ∧ xs.length ≤ 2 * kvs.length
theorem Bfs.len {gs : List Gt} {bar rs : List Str} {one : Str} {H : Hp} {kvs : List (Key × V)} {ks : List Str} (h : Bfs gs bar rs one H kvs ks) : kvs.length = ks.length ∧ ks.length ≤ rs.length := by
  have := congrArg List.length h.keys
  rw [List.length_map, List.length_map] at this
  exact ⟨this, nodup_le h.nod fun k hk => (h.con k hk).2⟩
theorem Bfs.mem {gs : List Gt} {bar rs : List Str} {one k : Str} {H : Hp} {kvs : List (Key × V)} {ks : List Str} (h : Bfs gs bar rs one H kvs ks) : Sum.inr k ∈ kvs.map (·.1) ↔ k ∈ ks := by
  rw [h.keys]
  constructor
  · intro z
    obtain ⟨y, hy, e⟩ := List.mem_map.mp z
    cases e
    exact hy
  · exact fun z => List.mem_map.mpr ⟨k, z, rfl⟩
theorem Bfs.get {gs : List Gt} {bar rs : List Str} {one k : Str} {H : Hp} {kvs : List (Key × V)} {ks : List Str} (h : Bfs gs bar rs one H kvs ks) (hk : k ∈ ks) : ∃ (t : Addr) (xs : List V), valV kvs (Sum.inr k) = some (.ref t) ∧ H t = some (.tup xs) ∧ xs ≠ [] ∧ xs.length ≤ 2 * kvs.length := by
  obtain ⟨v, hv⟩ := valV_some (h.mem.mpr hk)
  obtain ⟨t, xs, e, r⟩ := h.tup _ (valV_mem hv)
  have e : v = .ref t := e
  exact ⟨t, xs, by rw [hv, e], r⟩
theorem Bfs.same {gs : List Gt} {bar rs : List Str} {one : Str} {H H' : Hp} {kvs : List (Key × V)} {ks : List Str} (h : Bfs gs bar rs one H kvs ks) (s : ∀ t xs, H t = some (.tup xs) → H' t = some (.tup xs)) : Bfs gs bar rs one H' kvs ks :=
  ⟨h.keys, h.nod, h.has, h.con, fun p hp => by
    obtain ⟨t, xs, e1, e2, e3⟩ := h.tup p hp
    exact ⟨t, xs, e1, s _ _ e2, e3⟩⟩
theorem Bfs.put {gs : List Gt} {bar rs : List Str} {one k : Str} {H : Hp} {kvs : List (Key × V)} {ks : List Str} {t : Addr} {xs : List V} (h : Bfs gs bar rs one H kvs ks) (hk : k ∉ ks) (hc : Conn gs bar one k) (hr : k ∈ rs) (ht : H t = some (.tup xs)) (hx : xs ≠ []) (hl : xs.length ≤ 2 * kvs.length + 2) :
    putK kvs (Sum.inr k) (.ref t) = kvs ++ [(Sum.inr k, .ref t)] ∧ Bfs gs bar rs one H (kvs ++ [(Sum.inr k, .ref t)]) (ks ++ [k]) := by
  refine ⟨putK_new _ (valV_none fun z => hk (h.mem.mp z)), ?_, ?_, List.mem_append_left _ h.has, fun y hy => ?_, fun p hp => ?_⟩
  · rw [List.map_append, List.map_append, h.keys]
    rfl
  · refine List.nodup_append.mpr ⟨h.nod, by simp, fun a ha b hb e => ?_⟩
    rw [List.mem_singleton.mp hb] at e
    exact hk (e ▸ ha)
  · rcases List.mem_append.mp hy with hy | hy
    · exact h.con y hy
    · rw [List.mem_singleton.mp hy]
      exact ⟨hc, hr⟩
  · rw [List.length_append]
    rcases List.mem_append.mp hp with hp | hp
    · obtain ⟨t', xs', e1, e2, e3, e4⟩ := h.tup p hp
      exact ⟨t', xs', e1, e2, e3, by simp; omega⟩
    · rw [List.mem_singleton.mp hp]
      exact ⟨t, xs, rfl, ht, hx, by simp; omega⟩
theorem ifT {c : Bool} {A B : Prop} (h : c = true) (x : A) : if c = true then A else B := by
  rw [if_pos h]
  exact x
theorem ifF {c : Bool} {A B : Prop} (h : c = false) (x : B) : if c = true then A else B := by
  rw [h, if_neg Bool.false_ne_true]
  exact x
/-- what the search hands back -/
theorem Bfs.out {gs : List Gt} {bar rs : List Str} {one other : Str} {H : Hp} {kvs : List (Key × V)} {ks far : List Str} (h : Bfs gs bar rs one H kvs ks) (hc : ∀ k ∈ ks, k ∉ far → ∀ z, Adj gs bar k z → z ∈ ks) (hd : far = [] ∨ other ∈ ks) :
    (valV kvs (Sum.inr other)).getD .non ≠ .non ↔ Conn gs bar one other := by
  by_cases ho : other ∈ ks
  · obtain ⟨t, xs, e, _⟩ := h.get ho
    rw [e]
    exact ⟨fun _ => (h.con _ ho).1, fun _ z => by cases z⟩
  · rw [valV_none fun z => ho (h.mem.mp z)]
    refine ⟨fun z => absurd rfl z, fun z => absurd (closed_conn h.has (fun k hk => ?_) z) ho⟩
    rcases hd with rfl | hd
    · exact hc k hk (by simp)
    · exact absurd hd ho
end WT

set_option Elab.async false
set_option linter.all false
namespace WT
open PySem PySem.Spec PyProof.Rows L2
/-! ### paths: connected regions have one in which no region and no gateway comes twice -/
def Step (gs : List Gt) (bar : List Str) (x n z : Str) : Prop := ∃ g ∈ gs, g.1 = n ∧ n ∉ bar ∧ x ∈ g.2.1 ∧ z ∈ g.2.1
inductive SPath (gs : List Gt) (bar : List Str) : Str → List (Str × Str) → Str → Prop
  | nil (x : Str) : SPath gs bar x [] x
  | cons {x n z y : Str} {l : List (Str × Str)} : Step gs bar x n z → SPath gs bar z l y → SPath gs bar x ((n, z) :: l) y
section
variable {gs : List Gt} {bar : List Str}
theorem SPath.app {x z y : Str} {l m : List (Str × Str)} (h : SPath gs bar x l z) (k : SPath gs bar z m y) : SPath gs bar x (l ++ m) y := by
  induction h with
  | nil => exact k
  | cons s _ ih => exact .cons s (ih k)
theorem SPath.split {y : Str} {m : List (Str × Str)} : ∀ {l : List (Str × Str)} {x : Str}, SPath gs bar x (l ++ m) y → ∃ z, SPath gs bar x l z ∧ SPath gs bar z m y
  | [], x, h => ⟨x, .nil x, h⟩
  | (n, z) :: l, x, h => by
    cases h with
    | cons s t =>
      obtain ⟨u, h1, h2⟩ := SPath.split t
      exact ⟨u, .cons s h1, h2⟩
theorem SPath.end_ {x y : Str} {l : List (Str × Str)} (h : SPath gs bar x l y) : y = (l.map (·.2)).getLastD x := by
  induction h with
  | nil => rfl
  | @cons x n z y l s t ih =>
    rw [ih]
    cases l with
    | nil => rfl
    | cons p l => rfl
theorem SPath.conn {x y : Str} {l : List (Str × Str)} (h : SPath gs bar x l y) : Conn gs bar x y := by
  induction h with
  | nil => exact .refl
  | cons s _ ih =>
    obtain ⟨g, hg, rfl, hb, h1, h2⟩ := s
    exact (Conn.refl.step ⟨g, hg, hb, h1, h2⟩).trans ih
theorem Conn.path {x y : Str} (h : Conn gs bar x y) : ∃ l, SPath gs bar x l y := by
  induction h with
  | refl => exact ⟨[], .nil _⟩
  | step _ a ih =>
    obtain ⟨l, hl⟩ := ih
    obtain ⟨g, hg, hb, h1, h2⟩ := a
    exact ⟨l ++ [(g.1, _)], hl.app (.cons ⟨g, hg, rfl, hb, h1, h2⟩ (.nil _))⟩
theorem twice {α : Type} [DecidableEq α] : ∀ {l : List α}, ¬ l.Nodup → ∃ a l1 l2 l3, l = l1 ++ a :: (l2 ++ a :: l3)
  | [], h => absurd List.nodup_nil h
  | a :: l, h => by
    by_cases c : a ∈ l
    · obtain ⟨s, t, rfl⟩ := List.append_of_mem c
      exact ⟨a, [], s, t, rfl⟩
    · obtain ⟨b, l1, l2, l3, rfl⟩ := twice fun z => h (List.nodup_cons.mpr ⟨c, z⟩)
      exact ⟨b, a :: l1, l2, l3, rfl⟩
/-- a list of pairs cut where the mapped list is cut -/
theorem cut_map {α β : Type} {f : α → β} {b : β} : ∀ {l : List α} {l1 r : List β}, l.map f = l1 ++ b :: r → ∃ m1 a m2, l = m1 ++ a :: m2 ∧ m1.map f = l1 ∧ f a = b ∧ m2.map f = r
  | [], l1, r, h => by
    cases l1 <;> simp at h
  | x :: l, [], r, h => by
    simp at h
    exact ⟨[], x, l, rfl, rfl, h.1, h.2⟩
  | x :: l, y :: l1, r, h => by
    simp at h
    obtain ⟨m1, a, m2, rfl, h2, h3, h4⟩ := cut_map h.2
    exact ⟨x :: m1, a, m2, rfl, by rw [List.map_cons, h2, h.1], h3, h4⟩
/-- names are not used twice: a gateway is known by its name -/
theorem by_name (nd : (gs.map (·.1)).Nodup) {g g' : Gt} (h : g ∈ gs) (h' : g' ∈ gs) (e : g.1 = g'.1) : g = g' := by
  induction gs with
  | nil => cases h
  | cons a gs ih =>
    rw [List.map_cons] at nd
    obtain ⟨n1, n2⟩ := List.nodup_cons.mp nd
    rcases List.mem_cons.mp h with h2 | h2
    · rcases List.mem_cons.mp h' with h3 | h3
      · rw [h2, h3]
      · exact absurd (List.mem_map.mpr ⟨g', h3, by rw [← e, h2]⟩) n1
    · rcases List.mem_cons.mp h' with h3 | h3
      · exact absurd (List.mem_map.mpr ⟨g, h2, by rw [e, h3]⟩) n1
      · exact ih n2 h2 h3
theorem simple_of (nd : (gs.map (·.1)).Nodup) {x y : Str} : ∀ (k : Nat) (l : List (Str × Str)), l.length = k → SPath gs bar x l y → ∃ m, SPath gs bar x m y ∧ (x :: m.map (·.2)).Nodup ∧ (m.map (·.1)).Nodup := by
  intro k
  induction k using Nat.strongRecOn with
  | ind k ih =>
    intro l hl hp
    by_cases h1 : (x :: l.map (·.2)).Nodup
    · by_cases h2 : (l.map (·.1)).Nodup
      · exact ⟨l, hp, h1, h2⟩
      · obtain ⟨n, l1, l2, l3, e⟩ := twice h2
        obtain ⟨m1, p, r, rfl, e1, e2, e3⟩ := cut_map e
        obtain ⟨m2, p', m3, rfl, e4, e5, e6⟩ := cut_map e3
        obtain ⟨u, hu, hr⟩ := hp.split
        obtain ⟨n1, z1⟩ := p
        obtain ⟨n2, z2⟩ := p'
        cases hr with
        | cons s1 t1 =>
          obtain ⟨v, hv, hr2⟩ := t1.split
          cases hr2 with
          | cons s2 t2 =>
            obtain ⟨g1, hg1, a1, b1, c1, d1⟩ := s1
            obtain ⟨g2, hg2, a2, b2, c2, d2⟩ := s2
            have en : n1 = n2 := by
              have e2 : n1 = n := e2
              have e5 : n2 = n := e5
              rw [e2, e5]
            have eg : g1 = g2 := by_name nd hg1 hg2 (by rw [a1, a2, en])
            subst eg
            refine ih _ ?_ (m1 ++ (n1, z2) :: m3) rfl (hu.app (.cons ⟨g1, hg1, a1, b1, c1, d2⟩ t2))
            simp at hl ⊢
            omega
    · obtain ⟨z, l1, l2, l3, e⟩ := twice h1
      cases l1 with
      | nil =>
        rw [List.nil_append] at e
        obtain ⟨ex, er⟩ := List.cons.inj e
        subst ex
        obtain ⟨m1, p, m2, rfl, e1, e2, e3⟩ := cut_map er
        obtain ⟨n1, z1⟩ := p
        have e2 : z1 = x := e2
        subst e2
        obtain ⟨u, hu, hr⟩ := hp.split
        cases hr with
        | cons s1 t1 =>
          refine ih _ ?_ m2 rfl t1
          simp at hl
          omega
      | cons a l1 =>
        obtain ⟨_, er⟩ := List.cons.inj e
        obtain ⟨m1, p, r, rfl, e1, e2, e3⟩ := cut_map er
        obtain ⟨m2, p', m3, rfl, e4, e5, e6⟩ := cut_map e3
        obtain ⟨n1, z1⟩ := p
        obtain ⟨n2, z2⟩ := p'
        have e2 : z1 = z := e2
        have e5 : z2 = z := e5
        obtain ⟨u, hu, hr⟩ := hp.split
        cases hr with
        | cons s1 t1 =>
          obtain ⟨v, hv, hr2⟩ := t1.split
          cases hr2 with
          | cons s2 t2 =>
            refine ih _ ?_ (m1 ++ (n1, z1) :: m3) rfl (hu.app (.cons s1 (by rw [e2, ← e5]; exact t2)))
            simp at hl ⊢
            omega
/-- connected regions have a path in which nothing comes twice -/
theorem Conn.simple (nd : (gs.map (·.1)).Nodup) {x y : Str} (h : Conn gs bar x y) : ∃ m, SPath gs bar x m y ∧ (x :: m.map (·.2)).Nodup ∧ (m.map (·.1)).Nodup := by
  obtain ⟨l, hl⟩ := h.path
  exact simple_of nd l.length l rfl hl
end
end WT

set_option Elab.async false
set_option linter.all false
namespace WT
open PySem PySem.Spec PyProof.Rows L2
/-! ### the search through all paths: its steps, its measure, that it misses none -/
def lastOf (one : Str) (l : List (Str × Str)) : Str := (l.map (·.2)).getLastD one
def kidsOf (bar : List Str) (one : Str) (l : List (Str × Str)) (g : Gt) : List (List (Str × Str)) :=
  if lastOf one l ∈ g.2.1 ∧ g.1 ∉ l.map (·.1) ∧ g.1 ∉ bar then (g.2.1.filter fun z => decide (z ∉ one :: l.map (·.2))).map fun z => l ++ [(g.1, z)] else []
def kids (gs : List Gt) (bar : List Str) (one : Str) (l : List (Str × Str)) : List (List (Str × Str)) := gs.flatMap (kidsOf bar one l)
/-- a path in which nothing comes twice -/
structure GoodP (gs : List Gt) (bar rs : List Str) (one : Str) (l : List (Str × Str)) : Prop where
  path : ∃ z, SPath gs bar one l z
  reg : (one :: l.map (·.2)).Nodup
  gat : (l.map (·.1)).Nodup
  sub : ∀ z ∈ l.map (·.2), z ∈ rs
section
variable {gs : List Gt} {bar rs : List Str} {one : Str}
theorem GoodP.last {l : List (Str × Str)} (h : GoodP gs bar rs one l) : SPath gs bar one l (lastOf one l) := by
  obtain ⟨z, hz⟩ := h.path
  rw [hz.end_] at hz
  exact hz
theorem GoodP.len {l : List (Str × Str)} (h : GoodP gs bar rs one l) (ho : one ∈ rs) : l.length + 1 ≤ rs.length := by
  have := nodup_le (rs := rs) h.reg fun z hz => by
    rcases List.mem_cons.mp hz with e | hz
    · rw [e]
      exact ho
    · exact h.sub z hz
  rw [List.length_cons, List.length_map] at this
  exact this
theorem lastOf_snoc (l : List (Str × Str)) (n z : Str) : lastOf one (l ++ [(n, z)]) = z := by
  unfold lastOf
  rw [List.map_append]
  simp
theorem kids_good {l k : List (Str × Str)} (hm : ∀ g ∈ gs, ∀ z ∈ g.2.1, z ∈ rs) (h : GoodP gs bar rs one l) (hk : k ∈ kids gs bar one l) : GoodP gs bar rs one k ∧ k.length = l.length + 1 := by
  obtain ⟨g, hg, hk⟩ := List.mem_flatMap.mp hk
  unfold kidsOf at hk
  by_cases c : lastOf one l ∈ g.2.1 ∧ g.1 ∉ l.map (·.1) ∧ g.1 ∉ bar
  · rw [if_pos c] at hk
    obtain ⟨z, hz, rfl⟩ := List.mem_map.mp hk
    obtain ⟨z1, z2⟩ := List.mem_filter.mp hz
    have z2 : z ∉ one :: l.map (·.2) := of_decide_eq_true z2
    refine ⟨⟨⟨z, h.last.app (.cons ⟨g, hg, rfl, c.2.2, c.1, z1⟩ (.nil z))⟩, ?_, ?_, ?_⟩, by simp⟩
    · rw [List.map_append, ← List.cons_append]
      refine List.nodup_append.mpr ⟨h.reg, by simp, fun a ha b hb e => ?_⟩
      have hb : b = z := by simpa using hb
      exact z2 (hb ▸ e ▸ ha)
    · rw [List.map_append]
      refine List.nodup_append.mpr ⟨h.gat, by simp, fun a ha b hb e => ?_⟩
      have hb : b = g.1 := by simpa using hb
      exact c.2.1 (hb ▸ e ▸ ha)
    · intro y hy
      rw [List.map_append] at hy
      rcases List.mem_append.mp hy with hy | hy
      · exact h.sub y hy
      · have : y = z := by simpa using hy
        rw [this]
        exact hm g hg z z1
  · rw [if_neg c] at hk
    cases hk
/-- a path that goes on has its next step among the kids -/
theorem kids_has {l r : List (Str × Str)} {n z : Str} (h : GoodP gs bar rs one (l ++ (n, z) :: r)) : l ++ [(n, z)] ∈ kids gs bar one l := by
  obtain ⟨y, hy⟩ := h.path
  obtain ⟨u, h1, h2⟩ := hy.split
  cases h2 with
  | cons s t =>
    obtain ⟨g, hg, rfl, hb, c1, c2⟩ := s
    refine List.mem_flatMap.mpr ⟨g, hg, ?_⟩
    have eu : lastOf one l = u := by
      unfold lastOf
      exact h1.end_.symm
    have r1 := h.reg
    have r2 := h.gat
    rw [List.map_append, ← List.cons_append] at r1
    rw [List.map_append] at r2
    unfold kidsOf
    rw [if_pos ⟨by rw [eu]; exact c1, fun q => (List.nodup_append.mp r2).2.2 _ q g.1 (by simp) rfl, hb⟩]
    exact List.mem_map.mpr ⟨z, List.mem_filter.mpr ⟨c2, decide_eq_true fun q => (List.nodup_append.mp r1).2.2 _ q z (by simp) rfl⟩, rfl⟩
theorem kids_len (hl : ∀ g ∈ gs, g.2.1.length ≤ 100) (l : List (Str × Str)) : (kids gs bar one l).length ≤ gs.length * 100 := by
  unfold kids
  induction gs with
  | nil => exact Nat.zero_le _
  | cons g gs ih =>
    have a := ih fun y hy => hl y (List.mem_cons_of_mem _ hy)
    have b : (kidsOf bar one l g).length ≤ 100 := by
      unfold kidsOf
      by_cases c : lastOf one l ∈ g.2.1 ∧ g.1 ∉ l.map (·.1) ∧ g.1 ∉ bar
      · rw [if_pos c, List.length_map]
        exact Nat.le_trans (List.length_filter_le _ _) (hl g List.mem_cons_self)
      · rw [if_neg c]
        exact Nat.zero_le _
    rw [List.flatMap_cons, List.length_append, List.length_cons, Nat.add_mul]
    omega
/-- the weight of what waits -/
def weigh (M R : Nat) (ls : List (List (Str × Str))) : Nat := (ls.map fun l => (M + 1) ^ (R - l.length)).sum
theorem weigh_app (M R : Nat) (a b : List (List (Str × Str))) : weigh M R (a ++ b) = weigh M R a + weigh M R b := by
  unfold weigh
  rw [List.map_append, List.sum_append]
theorem weigh_same (M R k : Nat) : ∀ ls : List (List (Str × Str)), (∀ l ∈ ls, l.length = k) → weigh M R ls = ls.length * (M + 1) ^ (R - k)
  | [], _ => by simp [weigh]
  | l :: ls, h => by
    have ih := weigh_same M R k ls fun x hx => h x (List.mem_cons_of_mem _ hx)
    unfold weigh at ih ⊢
    rw [List.map_cons, List.sum_cons, ih, h l List.mem_cons_self, List.length_cons, Nat.add_mul]
    omega
/-- the kids weigh less -/
theorem weigh_kids {l : List (Str × Str)} {M : Nat} (hm : ∀ g ∈ gs, ∀ z ∈ g.2.1, z ∈ rs) (ho : one ∈ rs) (h : GoodP gs bar rs one l) (hM : (kids gs bar one l).length ≤ M) : weigh M rs.length (kids gs bar one l) < weigh M rs.length [l] := by
  rw [weigh_same M rs.length (l.length + 1) _ fun k hk => (kids_good hm h hk).2]
  have hl := h.len ho
  have e : weigh M rs.length [l] = (M + 1) ^ (rs.length - l.length) := by simp [weigh]
  rw [e, show rs.length - l.length = (rs.length - (l.length + 1)) + 1 by omega, Nat.pow_succ]
  have p : 0 < (M + 1) ^ (rs.length - (l.length + 1)) := Nat.pow_pos (Nat.succ_pos M)
  calc (kids gs bar one l).length * (M + 1) ^ (rs.length - (l.length + 1)) ≤ M * (M + 1) ^ (rs.length - (l.length + 1)) := Nat.mul_le_mul_right _ hM
    _ < (M + 1) * (M + 1) ^ (rs.length - (l.length + 1)) := Nat.mul_lt_mul_of_pos_right (Nat.lt_succ_self M) p
    _ = (M + 1) ^ (rs.length - (l.length + 1)) * (M + 1) := Nat.mul_comm _ _
end
end WT

set_option Elab.async false
set_option linter.all false
set_option maxRecDepth 100000
set_option maxHeartbeats 4000000
/-! t[lo:hi:st] of a tuple, st neither 0 nor 1. -/
namespace WT
open PySem PySem.Spec PyProof.Rows L2 HT
/-- the items that a stepped slice picks -/
def stepL {α : Type} (xs : List α) (lo hi : Option Int) (st : Int) : List α :=
  (List.range (Builtin.Slice.slicePlaces (Builtin.Slice.sliceAdjust lo hi st (xs.length : Int)).1 (Builtin.Slice.sliceAdjust lo hi st (xs.length : Int)).2 st)).filterMap fun (m : Nat) => xs[((Builtin.Slice.sliceAdjust lo hi st (xs.length : Int)).1 + (m : Int) * st).toNat]?
theorem vals_pick {xs : List V} {us : List Value} (r : Vals xs us) (f : Nat → Nat) : ∀ is : List Nat, Vals (is.filterMap fun m => xs[f m]?) (is.filterMap fun m => us[f m]?)
  | [] => .nil
  | i :: is => by
    have ih := vals_pick r f is
    cases e : xs[f i]? with
    | none =>
      have e2 : us[f i]? = none := by
        rw [List.getElem?_eq_none_iff] at e ⊢
        have := Vals.length r
        omega
      simp only [List.filterMap_cons, e, e2]
      exact ih
    | some x =>
      obtain ⟨u, hu, ru⟩ := r.get e
      simp only [List.filterMap_cons, e, hu]
      exact .cons ru ih
theorem vals_step {xs : List V} {us : List Value} (r : Vals xs us) (lo hi : Option Int) (st : Int) : Vals (stepL xs lo hi st) (stepL us lo hi st) := by
  unfold stepL
  rw [← Vals.length r]
  exact vals_pick r _ _
section
variable {prog : Program} {w : World} {A : Around} {E : Value → Shared → Prop} {s : Shared}
theorem applied_step {sl : Addr} {vl vu : Value} {lo hi : Option Int} {st : Int} {tk : Tok} {n : Nat} {Q : Int × Int × Nat → Shared → Prop} (hs : s.heap.IsSliceOf sl vl vu (.int st tk)) (pl : IsPart vl lo) (pu : IsPart vu hi) (h0 : st ≠ 0)
    (h : Q ((Builtin.Slice.sliceAdjust lo hi st (n : Int)).1, st, Builtin.Slice.slicePlaces (Builtin.Slice.sliceAdjust lo hi st (n : Int)).1 (Builtin.Slice.sliceAdjust lo hi st (n : Int)).2 st) s) : wpAny (model prog w) A (Builtin.Slice.sliceApplied (.ref sl) (pure (n : Int))) Q E s := by
  obtain ⟨ob, hob, hcl, hdt⟩ := id hs
  unfold Builtin.Slice.sliceApplied Builtin.Slice.sliceFields
  refine wpAny_bind (wpAny_bind (wpAny_field hob hdt (x := vl) rfl (wpAny_bind (wpAny_field hob hdt (x := vu) rfl (wpAny_bind (wpAny_field hob hdt (x := .int st tk) rfl (wpAny_pure ?_)))))))
  refine wpAny_bind (slicePart_int ?_)
  show wpAny _ _ (if (st == 0) = true then _ else _) _ _ s
  rw [if_neg (by simpa using h0)]
  refine wpAny_bind (slicePart_ pl (wpAny_bind (slicePart_ pu (wpAny_bind (wpAny_pure ?_)))))
  exact wpAny_pure h
theorem getItem_step {t sl : Addr} {us : List Value} {vl vu : Value} {lo hi : Option Int} {st : Int} {tk : Tok} {Q : Value → Shared → Prop} (ht : IsTup s.heap t us.toArray) (hs : s.heap.IsSliceOf sl vl vu (.int st tk)) (pl : IsPart vl lo) (pu : IsPart vu hi) (h0 : st ≠ 0) (h1 : st ≠ 1)
    (h : Q (.ref s.heap.objs.size) { s with heap := s.heap.push { cls := .type "tuple", data := .seq (stepL us lo hi st).toArray } }) (hsz : (stepL us lo hi st).length ≤ sizeLine) : wpAny (model prog w) A (getItem (.ref t) (.ref sl)) Q E s := by
  have hok : sizeOk (.seq (stepL us lo hi st).toArray) := by
    show (stepL us lo hi st).toArray.size ≤ sizeLine
    rw [List.size_toArray]
    exact hsz
  obtain ⟨ob, hob, hcl, hdt⟩ := id hs
  have hT : s.TypeIs (.ref sl) "slice" := ⟨ob, hob, hcl⟩
  unfold getItem
  try with_reducible refine wpAny_holding ?_
  first | refine wpAny_bind (wpAny_pure ?_) | skip
  refine wpAny_bind (wpAny_sequenceKey ht.typeIs (by decide) ?_)
  refine wpAny_bind (wpAny_callSpecial?_slot (name := Str.ofString "__getitem__") ht.typeIs PyProof.Rows.slot_tuple_getitem (wpAny_call_entry PyProof.Rows.slot_tuple_getitem ht.typeIs entry_tuple_getitem ?_ (args_tuple_getitem _ _)))
  show wpAny _ _ (Builtin.Tuple.tupleItemsOf (.ref t) >>= _) _ _ s
  refine wpAny_bind (tupleItemsOf_ ht (wpAny_bind (wpAny_typeOf hT ?_)))
  rw [if_pos (by decide)]
  refine wpAny_bind (applied_step (n := us.toArray.size) hs pl pu h0 ?_)
  have no1 : (st == (1 : Int)) = false := by simpa using h1
  show wpAny _ _ (if (_ && st == 1 && _) = true then _ else _) _ _ s
  rw [no1, Bool.and_false, Bool.false_and, if_neg Bool.false_ne_true]
  have ep : ((List.range (Builtin.Slice.slicePlaces (Builtin.Slice.sliceAdjust lo hi st (us.toArray.size : Int)).1 (Builtin.Slice.sliceAdjust lo hi st (us.toArray.size : Int)).2 st)).filterMap fun (m : Nat) => us.toArray[((Builtin.Slice.sliceAdjust lo hi st (us.toArray.size : Int)).1 + (m : Int) * st).toNat]?).toArray = (stepL us lo hi st).toArray := by
    unfold stepL
    rw [List.size_toArray]
    simp
  rw [ep]
  first
    | exact wpAny_bind (m := Builtin.Tuple.tupleExact _) (wpAny_newObj_type (wpAny_pure ⟨_, rfl, wpAny_pure h⟩) hok)
    | exact wpAny_bind (m := Builtin.Tuple.tupleExact _) (wpAny_newObj_type (wpAny_bind (wpAny_pure (wpAny_pure ⟨_, rfl, wpAny_pure h⟩))) hok)
    | exact wpAny_bind (wpAny_bind (m := Builtin.Tuple.tupleExact _) (wpAny_newObj_type (wpAny_pure (wpAny_pure ⟨_, rfl, wpAny_pure h⟩)) hok))
    | exact wpAny_bind (wpAny_bind (m := Builtin.Tuple.tupleExact _) (wpAny_newObj_type (wpAny_pure ⟨_, rfl, wpAny_pure h⟩) hok))
end
section
variable {X : Cx}
/-- t[lo:hi:st] -/
def tSl3 (K : PySem.W.Frag) (st : Int) (te : TE) (tl th : TO) (tst : TE) : TE := fun σ H Q => te σ H fun x H1 => tl σ H1 fun l H2 => th σ H2 fun u H3 => tst σ H3 fun z H4 => ∃ a xs, z = .int st ∧ x = .ref a ∧ SqT K H4 a xs ∧ (stepL xs l u st).length ≤ sizeLine ∧ ∀ p, H4 p = none → Q (.ref p) (upd H4 p (.tup (stepL xs l u st)))
theorem pe_slice3 {e est : Expr} {lo hi : Option Expr} {te tst : TE} {tl th : TO} {p2 pos : Pos} (st : Int) (h0 : st ≠ 0) (h1 : st ≠ 1) (he : PE X e te) (hl : PO X lo tl) (hu : PO X hi th) (hst : PE X est tst) : PE X (.Subscript e (.Slice lo hi (some est) p2) pos) (tSl3 X.K st te tl th tst) := by
  refine ⟨fun pins s σ H Q I h => Subscript_ (thn (he.run pins s σ H _ I h) fun v s1 ⟨x, H1, I1, r1, q1⟩ => wpAny_Slice (thn (hl.run pins s1 σ H1 _ I1 q1) fun vl s2 ⟨l, H2, I2, pl, q2⟩ => thn (hu.run pins s2 σ H2 _ I2 q2) fun vu s3 ⟨u, H3, I3, pu, q3⟩ => ?_))⟩
  rw [evalPart_some]
  refine thn (hst.run pins s3 σ H3 _ I3 q3) fun vz s4 ⟨z, H4, I4, r4, q4⟩ => ?_
  obtain ⟨a, xs, rfl, rfl, hx, hz, q⟩ := q4
  obtain ⟨tk, rfl⟩ := r4
  cases r1
  have I5 : Inv X pins σ H4 { s4 with heap := s4.heap.push { cls := .type "slice", data := .fields #[vl, vu, .int st tk] } } := I4.kept (t' := s4.toks) fun b ob z => Heap.get?_push_of_some _ z
  obtain ⟨us, ru, ht, _⟩ := I5.tuple hx
  have rs := vals_step ru l u st
  show wpAny (model X.prog X.w) X.A (subscriptTail e (.Slice lo hi (some est) p2) (.ref a) (.ref s4.heap.objs.size)) (EP X pins σ Q) X.xe { s4 with heap := s4.heap.push { cls := .type "slice", data := .fields #[vl, vu, .int st tk] } }
  refine tail_any (ops := [.ref a, .ref s4.heap.objs.size]) ht.typeIs PyProof.Rows.slot_tuple_getitem.lookup (getItem_step ht (Heap.IsSliceOf.new ..) pl pu h0 h1 ?_ (by rw [← Vals.length rs]; exact hz)) (by with_unfolding_all rfl)
  exact ⟨.ref _, upd H4 _ (.tup (stepL xs l u st)), I5.laid (t' := s4.toks) (fun b o e => Heap.get?_push_of_some _ e) (Nat.le_refl _) ⟨hz, stepL us l u st, rs, ⟨_, Heap.get?_push_size _ rfl, rfl, _, rfl⟩⟩, rfl, q _ (I5.hok.fresh (Nat.le_refl _))⟩
end
end WT

set_option Elab.async false
set_option linter.all false
set_option maxRecDepth 100000
set_option maxHeartbeats 4000000
namespace WT
open PySem PySem.Spec PyProof.Rows L2
/-! ### a path as a tuple; the search through all paths: its state -/
def pathV (one : Str) (l : List (Str × Str)) : List V := V.str one :: l.flatMap fun p => [V.str p.1, V.str p.2]
theorem pathV_len (one : Str) (l : List (Str × Str)) : (pathV one l).length = 2 * l.length + 1 := by
  unfold pathV
  rw [List.length_cons, List.length_flatMap]
  have : ((l.map fun p => [V.str p.1, V.str p.2].length)).sum = 2 * l.length := by
    induction l with
    | nil => rfl
    | cons p l ih =>
      rw [List.map_cons, List.sum_cons, ih]
      simp only [List.length_cons, List.length_nil]
      omega
  rw [this]
theorem pathV_cons (one n z : Str) (l : List (Str × Str)) : pathV one ((n, z) :: l) = V.str one :: V.str n :: pathV z l := by
  unfold pathV
  rw [List.flatMap_cons]
  rfl
theorem pathV_snoc (one n z : Str) (l : List (Str × Str)) : pathV one (l ++ [(n, z)]) = pathV one l ++ [V.str n, V.str z] := by
  unfold pathV
  rw [List.flatMap_append]
  rfl
theorem pathV_even : ∀ (l : List (Str × Str)) (one : Str) (i : Nat), (pathV one l)[2 * i]? = ((one :: l.map (·.2)).map V.str)[i]?
  | [], one, 0 => rfl
  | [], one, i + 1 => by
    unfold pathV
    rw [show 2 * (i + 1) = (2 * i + 1) + 1 by omega]
    rfl
  | (n, z) :: l, one, 0 => rfl
  | (n, z) :: l, one, i + 1 => by
    rw [pathV_cons, show 2 * (i + 1) = 2 * i + 1 + 1 by omega, List.getElem?_cons_succ, List.getElem?_cons_succ, pathV_even l z i]
    rfl
theorem pathV_odd : ∀ (l : List (Str × Str)) (one : Str) (i : Nat), (pathV one l)[2 * i + 1]? = ((l.map (·.1)).map V.str)[i]?
  | [], one, i => by
    unfold pathV
    rfl
  | (n, z) :: l, one, 0 => rfl
  | (n, z) :: l, one, i + 1 => by
    rw [pathV_cons, show 2 * (i + 1) + 1 = 2 * i + 1 + 1 + 1 by omega, List.getElem?_cons_succ, List.getElem?_cons_succ, pathV_odd l z i]
    rfl
theorem pathV_last (one : Str) (l : List (Str × Str)) : atI (pathV one l) (-1) = some (V.str (lastOf one l)) := by
  rcases List.eq_nil_or_concat l with rfl | ⟨m, p, rfl⟩
  · exact atI_last [] _
  · obtain ⟨n, z⟩ := p
    rw [List.concat_eq_append, pathV_snoc, lastOf_snoc, show ([V.str n, V.str z] : List V) = [V.str n] ++ [V.str z] from rfl, ← List.append_assoc]
    exact atI_last _ _
theorem pick_all {α : Type} (ys : List α) : (List.range ys.length).filterMap (fun m => ys[m]?) = ys := by
  induction ys with
  | nil => rfl
  | cons y ys ih =>
    rw [List.length_cons, List.range_succ_eq_map, List.filterMap_cons]
    simp only [List.getElem?_cons_zero, List.filterMap_map]
    congr 1
theorem step_even (one : Str) (l : List (Str × Str)) : stepL (pathV one l) none none 2 = (one :: l.map (·.2)).map V.str := by
  have h := pick_all ((one :: l.map (·.2)).map V.str)
  have e : Builtin.Slice.slicePlaces (Builtin.Slice.sliceAdjust none none 2 ((pathV one l).length : Int)).1 (Builtin.Slice.sliceAdjust none none 2 ((pathV one l).length : Int)).2 2 = ((one :: l.map (·.2)).map V.str).length := by
    rw [pathV_len]
    unfold Builtin.Slice.slicePlaces Builtin.Slice.sliceAdjust
    simp
    omega
  unfold stepL
  rw [e]
  refine Eq.trans ?_ h
  congr 1
  funext m
  have : (Builtin.Slice.sliceAdjust none none 2 ((pathV one l).length : Int)).1 = 0 := rfl
  rw [this, show ((0 : Int) + (m : Int) * 2).toNat = 2 * m by omega]
  exact pathV_even l one m
theorem step_odd (one : Str) (l : List (Str × Str)) : stepL (pathV one l) (some 1) none 2 = (l.map (·.1)).map V.str := by
  have h := pick_all ((l.map (·.1)).map V.str)
  have e0 : (Builtin.Slice.sliceAdjust (some 1) none 2 ((pathV one l).length : Int)).1 = 1 := by
    rw [pathV_len]
    unfold Builtin.Slice.sliceAdjust
    simp
    omega
  have e : Builtin.Slice.slicePlaces (Builtin.Slice.sliceAdjust (some 1) none 2 ((pathV one l).length : Int)).1 (Builtin.Slice.sliceAdjust (some 1) none 2 ((pathV one l).length : Int)).2 2 = ((l.map (·.1)).map V.str).length := by
    rw [e0, pathV_len]
    unfold Builtin.Slice.slicePlaces Builtin.Slice.sliceAdjust
    simp
    split <;> omega
  unfold stepL
  rw [e]
  refine Eq.trans ?_ h
  congr 1
  funext m
  rw [e0, show ((1 : Int) + (m : Int) * 2).toNat = 2 * m + 1 by omega]
  exact pathV_odd l one m
section
variable {gs : List Gt} {bar rs : List Str} {one other : Str}
theorem weigh_kidsD {l : List (Str × Str)} {M D : Nat} (hm : ∀ g ∈ gs, ∀ z ∈ g.2.1, z ∈ rs) (hD : ∀ k, GoodP gs bar rs one k → k.length ≤ D) (h : GoodP gs bar rs one l) (hM : (kids gs bar one l).length ≤ M) : weigh M D (kids gs bar one l) < weigh M D [l] := by
  have e : weigh M D [l] = (M + 1) ^ (D - l.length) := by simp [weigh]
  rw [weigh_same M D (l.length + 1) _ fun k hk => (kids_good hm h hk).2, e]
  have p : ∀ n, 0 < (M + 1) ^ n := fun n => Nat.pow_pos (Nat.succ_pos M)
  cases hk : kids gs bar one l with
  | nil => simp only [List.length_nil, Nat.zero_mul]; exact p _
  | cons k ks =>
    have hk1 : k ∈ kids gs bar one l := by rw [hk]; exact List.mem_cons_self
    have h1 := kids_good hm h hk1
    have h2 := hD k h1.1
    rw [hk] at hM
    rw [show D - l.length = (D - (l.length + 1)) + 1 by omega, Nat.pow_succ]
    calc (k :: ks).length * (M + 1) ^ (D - (l.length + 1)) ≤ M * (M + 1) ^ (D - (l.length + 1)) := Nat.mul_le_mul_right _ hM
      _ < (M + 1) * (M + 1) ^ (D - (l.length + 1)) := Nat.mul_lt_mul_of_pos_right (Nat.lt_succ_self M) (p _)
      _ = (M + 1) ^ (D - (l.length + 1)) * (M + 1) := Nat.mul_comm _ _
theorem weigh_ge (M D : Nat) : ∀ ls : List (List (Str × Str)), ls.length ≤ weigh M D ls
  | [] => Nat.zero_le _
  | l :: ls => by
    have ih := weigh_ge M D ls
    have p : 0 < (M + 1) ^ (D - l.length) := Nat.pow_pos (Nat.succ_pos M)
    unfold weigh at ih ⊢
    rw [List.map_cons, List.sum_cons, List.length_cons]
    omega
/-- the search's state: what waits, what was found -/
structure Srch (gs : List Gt) (bar rs : List Str) (one other : Str) (M D : Nat) (ls fs : List (List (Str × Str))) : Prop where
  wait : ∀ l ∈ ls, GoodP gs bar rs one l
  good : ∀ l ∈ fs, GoodP gs bar rs one l ∧ lastOf one l = other
  all : ∀ m, GoodP gs bar rs one m → lastOf one m = other → m ∈ fs ∨ ∃ l ∈ ls, ∃ r, m = l ++ r
  wt : fs.length + weigh M D ls ≤ (M + 1) ^ D
theorem GoodP.nil : GoodP gs bar rs one [] := ⟨⟨one, .nil one⟩, by simp, by simp, fun z hz => (nomatch hz)⟩
theorem Srch.first (M D : Nat) : Srch gs bar rs one other M D [[]] [] :=
  ⟨fun l hl => by rw [List.mem_singleton.mp hl]; exact .nil, fun l hl => (nomatch hl), fun m _ _ => .inr ⟨[], by simp, m, rfl⟩, by simp [weigh]⟩
theorem Srch.take {M D : Nat} {ls fs : List (List (Str × Str))} {l : List (Str × Str)} (h : Srch gs bar rs one other M D (ls ++ [l]) fs) (e : lastOf one l = other) : Srch gs bar rs one other M D ls (fs ++ [l]) := by
  have hl := h.wait l (by simp)
  refine ⟨fun k hk => h.wait k (by simp [hk]), fun k hk => ?_, fun m hm em => ?_, ?_⟩
  · rcases List.mem_append.mp hk with hk | hk
    · exact h.good k hk
    · rw [List.mem_singleton.mp hk]
      exact ⟨hl, e⟩
  · rcases h.all m hm em with q | ⟨k, hk, r, rfl⟩
    · exact .inl (List.mem_append_left _ q)
    · rcases List.mem_append.mp hk with hk | hk
      · exact .inr ⟨k, hk, r, rfl⟩
      · rw [List.mem_singleton.mp hk] at hm em ⊢
        rcases List.eq_nil_or_concat r with rfl | ⟨s, p, rfl⟩
        · exact .inl (by simp)
        · exfalso
          have r1 := hm.reg
          obtain ⟨n, z⟩ := p
          rw [List.concat_eq_append, ← List.append_assoc, lastOf_snoc] at em
          rw [List.concat_eq_append, ← List.append_assoc, List.map_append, ← List.cons_append] at r1
          have r2 := (List.nodup_append.mp r1).2.2
          have mem : lastOf one l ∈ one :: (l ++ s).map (·.2) := by
            unfold lastOf
            cases hl2 : l.map (·.2) with
            | nil => simp
            | cons a b =>
              rw [List.map_append, hl2]
              have : (a :: b).getLastD one ∈ a :: b := by
                rw [List.getLastD_cons]
                cases b with
                | nil => simp
                | cons c d =>
                  have : (c :: d).getLastD a ∈ c :: d := by
                    rw [List.getLastD_eq_getLast?, List.getLast?_eq_some_getLast (by simp)]
                    exact List.getLast_mem _
                  exact List.mem_cons_of_mem _ this
              exact List.mem_cons_of_mem _ (List.mem_append_left _ this)
          exact r2 _ mem z (by simp) (e.trans em.symm)
  · have w := h.wt
    rw [weigh_app] at w
    have g := weigh_ge M D [l]
    rw [List.length_append]
    simp only [List.length_cons, List.length_nil] at g ⊢
    omega
theorem Srch.grow {M D : Nat} {ls fs : List (List (Str × Str))} {l : List (Str × Str)} (hm : ∀ g ∈ gs, ∀ z ∈ g.2.1, z ∈ rs) (hD : ∀ k, GoodP gs bar rs one k → k.length ≤ D) (hM : (kids gs bar one l).length ≤ M) (h : Srch gs bar rs one other M D (ls ++ [l]) fs) (e : lastOf one l ≠ other) :
    Srch gs bar rs one other M D (ls ++ kids gs bar one l) fs ∧ weigh M D (ls ++ kids gs bar one l) < weigh M D (ls ++ [l]) := by
  have hl := h.wait l (by simp)
  have lt : weigh M D (ls ++ kids gs bar one l) < weigh M D (ls ++ [l]) := by
    rw [weigh_app, weigh_app]
    have := weigh_kidsD hm hD hl hM
    omega
  refine ⟨⟨fun k hk => ?_, h.good, fun m hg em => ?_, ?_⟩, lt⟩
  · rcases List.mem_append.mp hk with hk | hk
    · exact h.wait k (by simp [hk])
    · exact (kids_good hm hl hk).1
  · rcases h.all m hg em with q | ⟨k, hk, r, rfl⟩
    · exact .inl q
    · rcases List.mem_append.mp hk with hk | hk
      · exact .inr ⟨k, List.mem_append_left _ hk, r, rfl⟩
      · rw [List.mem_singleton.mp hk] at hg em ⊢
        cases r with
        | nil =>
          rw [List.append_nil] at em
          exact absurd em e
        | cons p r =>
          obtain ⟨n, z⟩ := p
          exact .inr ⟨l ++ [(n, z)], List.mem_append_right _ (kids_has hg), r, by simp⟩
  · have := h.wt
    omega
/-- what the search found in the end -/
structure AllP (gs : List Gt) (bar rs : List Str) (one other : Str) (fs : List (List (Str × Str))) : Prop where
  good : ∀ l ∈ fs, GoodP gs bar rs one l ∧ lastOf one l = other
  all : ∀ m, GoodP gs bar rs one m → lastOf one m = other → m ∈ fs
theorem Srch.done {M D : Nat} {fs : List (List (Str × Str))} (h : Srch gs bar rs one other M D [] fs) : AllP gs bar rs one other fs ∧ fs.length ≤ (M + 1) ^ D := by
  refine ⟨⟨h.good, fun m hm em => ?_⟩, ?_⟩
  · rcases h.all m hm em with q | ⟨k, hk, _⟩
    · exact q
    · cases hk
  · have := h.wt
    omega
theorem SPath.sub {x y : Str} {l : List (Str × Str)} (hm : ∀ g ∈ gs, ∀ z ∈ g.2.1, z ∈ rs) (h : SPath gs bar x l y) : ∀ z ∈ l.map (·.2), z ∈ rs := by
  induction h with
  | nil => intro z hz; cases hz
  | cons s _ ih =>
    obtain ⟨g, hg, _, _, _, h2⟩ := s
    intro z hz
    rw [List.map_cons] at hz
    rcases List.mem_cons.mp hz with e | hz
    · rw [e]
      exact hm g hg _ h2
    · exact ih z hz
theorem AllP.iff {fs : List (List (Str × Str))} (nd : (gs.map (·.1)).Nodup) (hm : ∀ g ∈ gs, ∀ z ∈ g.2.1, z ∈ rs) (h : AllP gs bar rs one other fs) : fs ≠ [] ↔ Conn gs bar one other := by
  constructor
  · intro q
    obtain ⟨l, hl⟩ := List.exists_mem_of_ne_nil _ q
    obtain ⟨g, e⟩ := h.good l hl
    rw [← e]
    exact g.last.conn
  · intro c q
    obtain ⟨m, h1, h2, h3⟩ := c.simple nd
    have := h.all m ⟨⟨_, h1⟩, h2, h3, h1.sub hm⟩ (by
      unfold lastOf
      exact h1.end_.symm)
    rw [q] at this
    cases this
end
/-- lists of tuples of texts as data -/
theorem lay_tups : ∀ tss : List (List Str), (∀ ts ∈ tss, ∀ s ∈ ts, PyData.strOk s = true) → PyData.canLayAll0 (tss.map fun ts => PyData.tuple (ts.map PyData.str)) = true ∧ PyData.depthAll (tss.map fun ts => PyData.tuple (ts.map PyData.str)) ≤ 1
  | [], _ => ⟨by rw [List.map_nil, PyData.canLayAll0], by rw [List.map_nil, PyData.depthAll]; exact Nat.zero_le _⟩
  | ts :: tss, h => by
    obtain ⟨h1, h2⟩ := lay_tups tss fun x hx => h x (List.mem_cons_of_mem _ hx)
    obtain ⟨g1, g2⟩ := lay_strs ts (h ts List.mem_cons_self)
    rw [List.map_cons, PyData.canLayAll0, PyData.depthAll, h1, PyData.canLay0, PyData.depth, g1, g2]
    exact ⟨rfl, Nat.max_le.mpr ⟨by decide, h2⟩⟩
theorem shaped_tups (tss : List (List Str)) (h : ∀ ts ∈ tss, ∀ s ∈ ts, PyData.strOk s = true) : SeqAt.shaped (.list (tss.map fun ts => PyData.tuple (ts.map PyData.str))) = true := by
  obtain ⟨h1, h2⟩ := lay_tups tss h
  unfold SeqAt.shaped
  rw [PyData.canLay0, PyData.depth, h1]
  simp
  omega
theorem eqv_nilD : ∀ ds : List PyData, PyData.eqv (.list ds) (.list []) = ds.isEmpty
  | [] => by decide +kernel
  | s :: ss => by
    rw [PyData.eqv, PyData.eqvAll]
    rfl
/-- the texts of a path -/
def pathS (one : Str) (l : List (Str × Str)) : List Str := one :: l.flatMap fun p => [p.1, p.2]
theorem pathS_V (one : Str) (l : List (Str × Str)) : (pathS one l).map V.str = pathV one l := by
  unfold pathS pathV
  rw [List.map_cons, List.map_flatMap]
  rfl
theorem dp_paths {K : PySem.W.Frag} {H : Hp} {one : Str} : ∀ {ws : List Addr} {ls : List (List (Str × Str))}, Paired (fun a l => H a = some (.tup (pathV one l))) ws ls → DpAll K H (ws.map V.ref) (ls.map fun l => PyData.tuple ((pathS one l).map PyData.str))
  | _, _, .nil => .nil
  | _, _, .cons h t => .cons (.tup (SqT.of h) (by rw [← pathS_V]; exact dp_strs _)) (dp_paths t)
section
variable {X : Cx} {K : PySem.W.Frag}
theorem op_catTK (hK : X.K = K := by rfl) : OpR X (binaryOp .Add) (rCatT K) := by
  subst hK
  exact op_catT
theorem op_notInK (hK : X.K = K := by rfl) : OpR X (compareOp .NotIn) (rIn K true) := by
  subst hK
  exact op_notIn_seq
theorem op_inK (hK : X.K = K := by rfl) : OpR X (compareOp .In) (rIn K false) := by
  subst hK
  exact op_in_seq
theorem op_neDK (hu : X.A.units + 64 < cLine) (hK : X.K = K := by rfl) : OpR X (compareOp .NotEq) (rNeD K) := by
  subst hK
  exact op_neD hu
theorem pe_slice3K {e est : Expr} {lo hi : Option Expr} {te tst : TE} {tl th : TO} {p2 pos : Pos} (st : Int) (h0 : st ≠ 0) (h1 : st ≠ 1) (he : PE X e te) (hl : PO X lo tl) (hu : PO X hi th) (hst : PE X est tst) (hK : X.K = K := by rfl) : PE X (.Subscript e (.Slice lo hi (some est) p2) pos) (tSl3 K st te tl th tst) := by
  subst hK
  exact pe_slice3 st h0 h1 he hl hu hst
end
end WT

set_option Elab.async false
set_option linter.all false
set_option maxRecDepth 100000
set_option maxHeartbeats 4000000
namespace K13
open PySem PySem.Spec PyProof.Rows L2 WT
abbrev st_gateways : Stmt := top 21
theorem sc_gateways : FnScope ["_law_hand_here", "_law_regions", "_law_count", "_law_found", "_law_name", "_law_size", "_law_inside"] ["_law_hand_here", "_law_regions", "_law_count"] (defScope st_gateways) := ⟨rfl, rfl, rfl, by decide +kernel, rfl, by decide +kernel, by decide +kernel⟩
section
variable {P : Program} {w : World} {K : PySem.W.Frag} {mg : Str → Option Value} {base : Heap} {f fT fO fM fN fG : Addr} {fd fdT fdO fdM fdN fdG : FuncData}
/-- gateways(hand, regions, count) -/
def spGates : Sp := fun vs H Q _ => ∃ (a r : Addr) (b n : Nat) (rs : List Str), vs = [.ref a, .ref r, .int n] ∧ PotAt H a b ∧ b ≤ 80000 ∧ H r = some (.tup (rs.map V.str)) ∧ rs.length ≤ 10 ∧ (∀ s ∈ rs, PyData.strOk s = true) ∧ n ≤ 10 ∧ (n ≠ 0 → 2 ≤ rs.length) ∧
  ∀ (H' : Hp) (p : Addr) (as : List Addr) (gs : List Gt), But a H H' → PotAt H' a (b + 200) → H' p = some (.tup (as.map V.ref)) → Paired (GateAt H') as gs → NamesOf n (gs.map (·.1)) → (∀ g ∈ gs, GateOk rs g) → Q (.ref p) H'
theorem ok_gateways (F : Fun K "_law_gateways" "_law_gateways" st_gateways f fd) (B : Blt mg) (F_of : Df P w K mg base "_law_of" 2 fO fdO ["_law_hand_here", "_law_some"] (spOf K))
    (F_mixed : Df P w K mg base "_law_mixed" 2 fM fdM ["_law_hand_here", "_law_some"] (spMixed K)) (F_names : Df P w K mg base "_law_names" 3 fN fdN ["_law_hand_here", "_law_count"] spNames) :
    FnG P w K mg base CX0 4 f fd ["_law_hand_here", "_law_regions", "_law_count"] spGates := by
  refine okG F sc_gateways (fun vs H Q E h => ?_) (fun cdv A outer s H vs Q E hgd hr h => ?_)
  · obtain ⟨_, _, _, _, _, rfl, _⟩ := h
    rfl
  · obtain ⟨a, r, b, n, rs, rfl, ha, hb, hreg, hlen, hok, hn, h2, q⟩ := h
    refine ⟨_, (pss_cons (ps_set (i := 3) sc_gateways.nd rfl (.inl rfl) (pe_lst pa_nil))
      (pss_cons (ps_for PassesOwn.never rfl (pi_tup (pe_callG hgd F_names.G (hr.mono (by decide)) (by rfl) F_names.g F_names.kp F_names.bd pass0 (pa_cons (pv 0) (pa_cons (pv 2) pa_nil)))) (pg_name (i := 4) sc_gateways.nd rfl (.inl rfl))
       (pss_cons (ps_set (i := 5) sc_gateways.nd rfl (.inl rfl) (pe_callB (call_min2 rfl) (by rfl) B.min (by decide +kernel) (pa_cons (pe_callB call_len (by rfl) B.len (by decide +kernel) (pa_cons (pv 1) pa_nil)) (pa_cons (pe_callG hgd F_of.G (hr.mono (by decide)) (by rfl) F_of.g F_of.kp F_of.bd pass0 (pa_cons (pv 0) (pa_cons (pe_lst (pa_cons pe_int (pa_cons pe_int (pa_cons pe_int (pa_cons pe_int (pa_cons pe_int (pa_cons pe_int (pa_cons pe_int (pa_cons (pe_callB call_len (by rfl) B.len (by decide +kernel) (pa_cons (pv 1) pa_nil)) pa_nil))))))))) pa_nil))) pa_nil))))
       (pss_cons (ps_set (i := 6) sc_gateways.nd rfl (.inl rfl) (pe_callTy call_tuple_of (by rfl) B.tuple (by decide +kernel) (pa_cons (pe_callB cr_sortedS (by rfl) B.sorted (by decide +kernel) (pa_cons (pe_slice sl_list (pe_callG hgd F_mixed.G (hr.mono (by decide)) (by rfl) F_mixed.g F_mixed.kp F_mixed.bd pass0 (pa_cons (pv 0) (pa_cons (pv 1) pa_nil))) po_none (po_some (pv 5))) pa_nil)) pa_nil)))
       (pss_one (ps_expr (pe_bm PySem.F.plainAttrs_list PySem.F.slot_list_append PySem.F.type_list_append mt_append (pv 3) (pa_cons (pe_tup (pa_cons (pv 4) (pa_cons (pv 6) (pa_cons (pe_callG hgd F_of.G (hr.mono (by decide)) (by rfl) F_of.g F_of.kp F_of.bd pass0 (pa_cons (pv 0) (pa_cons (pe_lst (pa_cons pe_str (pa_cons pe_str (pa_cons pe_str pa_nil)))) pa_nil))) pa_nil)))) pa_nil)))))))
      (pss_one (ps_ret (pe_callTy call_tuple_of (by rfl) B.tuple (by decide +kernel) (pa_cons (pv 3) pa_nil)))))), ?_⟩
    refine ⟨(by show 0 ≤ sizeLine; decide), fun D nD => ?_⟩
    have z0 := same_new nD (o := .lst [])
    have naD : a ≠ D := ha.ne_new nD
    refine ⟨_, rfl, _, rfl, a, b, n, rfl, ha.same z0, by omega, by omega, fun H1 p ys b1 p1 hp1 nms => ?_⟩
    have bt1 : But a H H1 := (But.of z0).trans b1
    have hD1 := b1 _ _ (Ne.symm naD) (show (upd H D (.lst [])) D = some (.lst []) from upd_same)
    have hyl := nms.length
    refine ⟨p, rfl, ⟨_, SqT.of hp1⟩, for_it (walk_tup (xs := ys.map V.str)) (fun j σ H' => ∃ (v4 v5 v6 : Option V) (as : List Addr) (gs : List Gt), σ = [some (.ref a), some (.ref r), some (.int n), some (.ref D), v4, v5, v6] ∧ But a H H' ∧ PotAt H' a (b + 9 + 12 * j) ∧ H' p = some (.tup (ys.map V.str)) ∧ H' D = some (.lst (as.map V.ref)) ∧ Paired (GateAt H') as gs ∧ gs.map (·.1) = ys.take j ∧ ∀ g ∈ gs, GateOk rs g)
      ⟨none, none, none, [], [], rfl, bt1, p1, hp1, hD1, .nil, rfl, fun g hg => (nomatch hg)⟩ (fun j σ H' _ ⟨_, _, _, _, _, _, _, _, h, _⟩ => SqT.of h) (fun j v σ H2 H3 hj hP hY => ?_) (fun σ H' hP => ?_)⟩
    · obtain ⟨v4, v5, v6, as, gs, rfl, bt, hp, hpp, hD, prs, hmap, hgok⟩ := hP
      obtain ⟨rfl, hv⟩ := hY
      rw [List.length_map] at hj
      rw [List.getElem?_map, List.getElem?_eq_getElem hj] at hv
      cases hv
      have hn0 : n ≠ 0 := by omega
      have hrs2 := h2 hn0
      have hr3 := bt _ _ (ha.ne_tup hreg) hreg
      have hjn : j < n := by omega
      -- size
      refine ⟨_, rfl, _, rs.length, rfl, .inr ⟨_, SqT.of hr3, (List.length_map ..).symm⟩, _, rfl, _, rfl, _, rs.length, rfl, .inr ⟨_, SqT.of hr3, (List.length_map ..).symm⟩, (by show 8 ≤ sizeLine; decide), fun l1 n1 => ?_⟩
      have z1 := same_new n1 (o := .lst [.int 2, .int 2, .int 2, .int 2, .int 3, .int 3, .int 4, .int rs.length])
      refine ⟨a, l1, b + 9 + 12 * j, _, rfl, hp.same z1, by omega, Ne.symm (hp.ne_new n1), .inl (SqL.of upd_same), by show 0 < 8; decide, by show 8 ≤ 1000; decide, fun H4 x b4 p4 hx => ?_⟩
      obtain ⟨k, rfl, hk2, hk3⟩ : ∃ k : Nat, x = .int k ∧ 2 ≤ k ∧ k ≤ 10 := by
        simp only [List.mem_cons, List.not_mem_nil, or_false] at hx
        rcases hx with rfl | rfl | rfl | rfl | rfl | rfl | rfl | rfl
        · exact ⟨2, rfl, by decide, by decide⟩
        · exact ⟨2, rfl, by decide, by decide⟩
        · exact ⟨2, rfl, by decide, by decide⟩
        · exact ⟨2, rfl, by decide, by decide⟩
        · exact ⟨3, rfl, by decide, by decide⟩
        · exact ⟨3, rfl, by decide, by decide⟩
        · exact ⟨4, rfl, by decide, by decide⟩
        · exact ⟨rs.length, rfl, hrs2, hlen⟩
      refine ⟨(rs.length : Int), (k : Int), rfl, ?_⟩
      obtain ⟨m, hm, hm2, hm3⟩ : ∃ m : Nat, (if (k : Int) < (rs.length : Int) then (k : Int) else (rs.length : Int)) = (m : Int) ∧ 2 ≤ m ∧ m ≤ rs.length := by
        by_cases hkl : (k : Int) < (rs.length : Int)
        · exact ⟨k, by rw [if_pos hkl], hk2, by omega⟩
        · exact ⟨rs.length, by rw [if_neg hkl], hrs2, Nat.le_refl _⟩
      rw [hm]
      have bt4 := bt.trans ((But.of z1).trans b4)
      have hr4 := bt4 _ _ (ha.ne_tup hreg) hreg
      have pt1 := hp.same z1
      -- inside
      refine ⟨_, rfl, _, rfl, a, r, b + 9 + 12 * j + 1, rs, rfl, p4, by omega, .inr (SqT.of hr4), by omega, hok, fun H5 d5 zs b5 p5 nd5 hd5 pm => ?_⟩
      refine ⟨_, rfl, (m : Int), rfl, d5, _, rfl, SqL.of hd5, fun c6 n6 => ?_⟩
      have z6 := same_new n6 (o := .lst (cutV (zs.map V.str) none (some (m : Int))))
      refine ⟨c6, zs.take m, rfl, SqL.of (by rw [upd_same, cut_to]), ?_, fun ws c7 pm7 st7 n7 => ?_⟩
      · rw [List.length_take]
        omega
      have z7 := same_new n7 (o := .lst (ws.map V.str))
      refine ⟨c7, _, rfl, .inl ⟨SqL.of upd_same, fun t8 n8 => ?_⟩⟩
      have z8 := same_new n8 (o := .tup (ws.map V.str))
      -- append
      have bt8 : But a H4 _ := b5.trans (.of (z6.trans (z7.trans z8)))
      have p8 := ((p5.same z6).same z7).same z8
      have bt38 := ((But.of z1).trans b4).trans bt8
      have hD8 := bt38 _ _ (Ne.symm naD) hD
      refine ⟨_, rfl, .inl ⟨rfl, _, SqL.of hD8⟩, _, rfl, _, rfl, _, rfl, (by show 3 ≤ sizeLine; decide), fun l9 n9 => ?_⟩
      have z9 := same_new n9 (o := .lst [.str "wrap", .str "wrap", .str "open"])
      refine ⟨a, l9, b + 9 + 12 * j + 1 + rs.length, _, rfl, p8.same z9, by omega, Ne.symm (p8.ne_new n9), .inl (SqL.of upd_same), by show 0 < 3; decide, by show 3 ≤ 1000; decide, fun H10 y b10 p10 hy => ?_⟩
      obtain ⟨kd, rfl, hkd⟩ : ∃ kd : Str, y = .str kd ∧ (kd = "wrap" ∨ kd = "open") := by
        simp only [List.mem_cons, List.not_mem_nil, or_false] at hy
        rcases hy with rfl | rfl | rfl
        · exact ⟨_, rfl, .inl rfl⟩
        · exact ⟨_, rfl, .inl rfl⟩
        · exact ⟨_, rfl, .inr rfl⟩
      have ht10 : H10 t8 = some (.tup (ws.map V.str)) := b10 _ _ (p8.ne_tup upd_same) (z9 _ _ upd_same)
      have bt10 := bt38.trans ((But.of z9).trans b10)
      refine ⟨(by show 3 ≤ sizeLine; decide), fun t11 n11 => ?_⟩
      have z11 := same_new n11 (o := .tup [.str ys[j], .ref t8, .str kd])
      have hD11 := z11 _ _ (bt10 _ _ (Ne.symm naD) hD)
      refine ⟨D, _, _, rfl, rfl, hD11, ?_, ?_⟩
      · have hl := congrArg List.length hmap
        rw [List.length_map, List.length_take] at hl
        rw [List.length_map, Paired.length prs, hl]
        exact Nat.lt_of_le_of_lt (show min j ys.length ≤ 10 by omega) (by decide)
      · have nD0 : ∀ c o, H c = some o → c ≠ D := fun c o e => ne_of_none e nD
        have upD : ∀ (c : Addr) (o o2 : HO), upd H10 t11 (.tup [.str ys[j], .ref t8, .str kd]) c = some o → c ≠ D → upd (upd H10 t11 (.tup [.str ys[j], .ref t8, .str kd])) D o2 c = some o := fun c o o2 e nc => by
          rw [upd_ne nc]
          exact e
        have tupD : ∀ (c : Addr) (xs : List V) (o2 : HO), upd H10 t11 (.tup [.str ys[j], .ref t8, .str kd]) c = some (.tup xs) → upd (upd H10 t11 (.tup [.str ys[j], .ref t8, .str kd])) D o2 c = some (.tup xs) := fun c xs o2 e =>
          upD c _ _ e (ne_of e hD11 (by intro z; cases z))
        refine ⟨_, _, _, as ++ [t11], gs ++ [(ys[j], ws, kd)], rfl, ?_, ?_, ?_, ?_, ?_, ?_, ?_⟩
        · intro c o nc ec
          rw [upd_ne (nD0 c o ec)]
          exact z11 _ _ (bt10 _ _ nc (bt _ _ nc ec))
        · obtain ⟨u0, u1, u2, e1, e2⟩ := p10
          exact ⟨u0, u1, u2, upD _ _ _ (z11 _ _ e1) naD, e2.more (by omega)⟩
        · exact tupD _ _ _ (z11 _ _ (bt10 _ _ (hp.ne_tup hpp) hpp))
        · rw [upd_same, List.map_append]
          rfl
        · refine pair_snoc (Paired.mapP prs fun c g hg => ?_) ⟨t8, tupD _ _ _ upd_same, tupD _ _ _ (z11 _ _ ht10)⟩
          obtain ⟨i, e1, e2⟩ := hg.but hp bt10
          exact ⟨i, tupD _ _ _ (z11 _ _ e1), tupD _ _ _ (z11 _ _ e2)⟩
        · rw [List.map_append, hmap, List.take_add_one, List.getElem?_eq_getElem hj]
          rfl
        · intro g hg
          rcases List.mem_append.mp hg with hg | hg
          · exact hgok g hg
          · rw [List.mem_singleton.mp hg]
            exact ⟨nms.nm _ (List.getElem_mem hj), ⟨zs, m, pm, pm7, hm2, hm3⟩, st7, hkd⟩
    · obtain ⟨v4, v5, v6, as, gs, rfl, bt, hp, hpp, hD, prs, hmap, hgok⟩ := hP
      rw [List.length_map] at hp hmap
      rw [List.take_length] at hmap
      refine ⟨_, rfl, D, _, rfl, .inl ⟨SqL.of hD, fun t nt => ?_⟩⟩
      have zt := same_new nt (o := .tup (as.map V.ref))
      exact q _ t as gs (bt.trans (.of zt)) ((hp.same zt).more (by omega)) upd_same (Paired.mapP prs fun _ _ z => z.same zt) (by rw [hmap]; exact nms) hgok
end
end K13

set_option Elab.async false
set_option linter.all false
namespace WT
open PySem PySem.Spec PyProof.Rows L2
/-! ### groups by labels: the mathematics -/
def labK (rs : List Str) (lab : Str → Int) : List (Key × V) := rs.map fun x => (Sum.inr x, V.int (lab x))
theorem keys_labK (rs : List Str) (lab : Str → Int) : (labK rs lab).map (·.1) = rs.map Sum.inr := by
  unfold labK
  rw [List.map_map]
  rfl
theorem val_labK {x : Str} {lab : Str → Int} : ∀ {rs : List Str}, x ∈ rs → valV (labK rs lab) (Sum.inr x) = some (.int (lab x))
  | r :: rs, h => by
    by_cases e : r = x
    · subst e
      exact valV_pos (p := (Sum.inr r, V.int (lab r))) rfl
    · have ne : ¬ (Sum.inr r : Key) = Sum.inr x := fun z => e (Sum.inr.inj z)
      have := val_labK (lab := lab) (rs := rs) ((List.mem_cons.mp h).resolve_left fun z => e z.symm)
      exact (valV_neg (p := (Sum.inr r, V.int (lab r))) ne).trans this
theorem put_labK {x : Str} {lab : Str → Int} {c : Int} {rs : List Str} (h : x ∈ rs) : putK (labK rs lab) (Sum.inr x) (.int c) = labK rs (fun z => if z = x then c else lab z) := by
  unfold putK
  rw [if_pos]
  · unfold labK
    rw [List.map_map]
    refine List.map_congr_left fun z _ => ?_
    show (if (Sum.inr z : Key) = Sum.inr x then ((Sum.inr z : Key), V.int c) else (Sum.inr z, V.int (lab z))) = (Sum.inr z, V.int (if z = x then c else lab z))
    by_cases e : z = x
    · rw [if_pos (congrArg Sum.inr e), if_pos e]
    · rw [if_neg (fun q => e (Sum.inr.inj q)), if_neg e]
  · refine List.any_eq_true.mpr ⟨(Sum.inr x, V.int (lab x)), List.mem_map.mpr ⟨x, h, rfl⟩, ?_⟩
    simp
theorem merge_labK {lab : Str → Int} : ∀ (bs as : List Str), (as ++ bs).Nodup → mergeK (labK as lab) (labK bs lab) = labK (as ++ bs) lab
  | [], as, _ => by
    rw [List.append_nil]
    rfl
  | b :: bs, as, h => by
    have h2 : (as ++ [b] ++ bs).Nodup := by
      rw [List.append_assoc]
      exact h
    have nb : b ∉ as := fun z => (List.nodup_append.mp h).2.2 b z b List.mem_cons_self rfl
    have e : putK (labK as lab) (Sum.inr b) (.int (lab b)) = labK (as ++ [b]) lab := by
      rw [putK_new _ (valV_none fun z => ?_)]
      · unfold labK
        rw [List.map_append]
        rfl
      · rw [keys_labK] at z
        obtain ⟨y, hy, q⟩ := List.mem_map.mp z
        cases q
        exact nb hy
    have := merge_labK (lab := lab) bs (as ++ [b]) h2
    rw [List.append_assoc] at this
    rw [← e] at this
    exact this
/-- the place of x -/
def idxS : List Str → Str → Int
  | [], _ => 0
  | y :: r, x => if y = x then 0 else 1 + idxS r x
theorem idxS_at : ∀ {rs : List Str} {i : Nat} {x : Str}, rs.Nodup → rs[i]? = some x → idxS rs x = i
  | [], _, _, _, h => by simp at h
  | y :: r, 0, x, _, h => by
    cases h
    simp [idxS]
  | y :: r, i + 1, x, n, h => by
    have h : r[i]? = some x := h
    have ne : y ≠ x := fun e => (List.nodup_cons.mp n).1 (e ▸ List.mem_of_getElem? h)
    rw [idxS, if_neg ne, idxS_at (List.nodup_cons.mp n).2 h]
    omega
/-- at most t steps from y -/
def ConnN (gs : List Gt) (bar : List Str) (y : Str) : Nat → Str → Prop
  | 0, x => x = y
  | t + 1, x => ∃ u, ConnN gs bar y t u ∧ (u = x ∨ Adj gs bar u x)
section
variable {gs : List Gt} {bar rs : List Str}
theorem ConnN.more {y x : Str} {t : Nat} (h : ConnN gs bar y t x) : ConnN gs bar y (t + 1) x := ⟨x, h, .inl rfl⟩
theorem ConnN.mem (hm : ∀ g ∈ gs, ∀ z ∈ g.2.1, z ∈ rs) {y : Str} (hy : y ∈ rs) : ∀ {t : Nat} {x : Str}, ConnN gs bar y t x → x ∈ rs
  | 0, x, h => by
    rw [show x = y from h]
    exact hy
  | t + 1, x, h => by
    obtain ⟨u, hu, e | a⟩ := h
    · rw [← e]
      exact hu.mem hm hy
    · obtain ⟨g, hg, _, _, hx⟩ := a
      exact hm g hg x hx
theorem connN_or (hm : ∀ g ∈ gs, ∀ z ∈ g.2.1, z ∈ rs) {y : Str} (hy : y ∈ rs) : ∀ t : Nat, (∃ ks : List Str, ks.Nodup ∧ ks.length = t + 1 ∧ ∀ k ∈ ks, ConnN gs bar y t k) ∨ ∀ x, ConnN gs bar y t x → ∀ z, Adj gs bar x z → ConnN gs bar y t z
  | 0 => .inl ⟨[y], by simp, rfl, fun k hk => List.mem_singleton.mp hk⟩
  | t + 1 => by
    rcases connN_or hm hy t with ⟨ks, h1, h2, h3⟩ | h
    · by_cases c : ∀ x, ConnN gs bar y (t + 1) x → ∀ z, Adj gs bar x z → ConnN gs bar y (t + 1) z
      · exact .inr c
      · obtain ⟨x, c⟩ := Classical.not_forall.mp c
        obtain ⟨hx, c⟩ := Classical.not_imp.mp c
        obtain ⟨z, c⟩ := Classical.not_forall.mp c
        obtain ⟨a, nz⟩ := Classical.not_imp.mp c
        refine .inl ⟨x :: ks, List.nodup_cons.mpr ⟨fun hk => nz ⟨x, h3 x hk, .inr a⟩, h1⟩, by rw [List.length_cons, h2], fun k hk => ?_⟩
        rcases List.mem_cons.mp hk with rfl | hk
        · exact hx
        · exact (h3 k hk).more
    · refine .inr fun x hx z a => ?_
      obtain ⟨u, hu, e | b⟩ := hx
      · subst e
        exact (h u hu z a).more
      · exact (h x (h u hu x b) z a).more
theorem connN_all (hm : ∀ g ∈ gs, ∀ z ∈ g.2.1, z ∈ rs) {y x : Str} (hy : y ∈ rs) (h : Conn gs bar y x) : ConnN gs bar y rs.length x := by
  have up : ∀ t, ConnN gs bar y t y := fun t => by
    induction t with
    | zero => rfl
    | succ t ih => exact ih.more
  rcases connN_or (bar := bar) hm hy rs.length with ⟨ks, h1, h2, h3⟩ | c
  · have := nodup_le h1 fun k hk => (h3 k hk).mem hm hy
    omega
  · induction h with
    | refl => exact up _
    | step _ a ih => exact c _ ih _ a
/-- each label is the place of a connected region -/
def Lab (gs : List Gt) (bar rs : List Str) (lab : Str → Int) : Prop := ∀ x ∈ rs, ∃ (i : Nat) (y : Str), rs[i]? = some y ∧ lab x = (i : Int) ∧ Conn gs bar x y
theorem Lab.conn {lab : Str → Int} (L : Lab gs bar rs lab) {x y : Str} (hx : x ∈ rs) (hy : y ∈ rs) (e : lab x = lab y) : Conn gs bar x y := by
  obtain ⟨i, u, h1, h2, h3⟩ := L x hx
  obtain ⟨j, v, k1, k2, k3⟩ := L y hy
  have : i = j := by omega
  subst this
  rw [h1] at k1
  cases k1
  exact h3.trans k3.symm
theorem lab_first (nd : rs.Nodup) : Lab gs bar rs (idxS rs) := fun x hx => by
  obtain ⟨i, hi, e⟩ := List.getElem_of_mem hx
  have : rs[i]? = some x := by rw [List.getElem?_eq_getElem hi, e]
  exact ⟨i, x, this, idxS_at nd this, .refl⟩
/-- what t steps reach is not below -/
def LowL (gs : List Gt) (bar rs : List Str) (t : Nat) (lab : Str → Int) : Prop := ∀ x ∈ rs, ∀ (i : Nat) (y : Str), rs[i]? = some y → ConnN gs bar y t x → lab x ≤ (i : Int)
theorem low_first (nd : rs.Nodup) : LowL gs bar rs 0 (idxS rs) := fun x hx i y hy h => by
  have e : x = y := h
  subst e
  rw [idxS_at nd hy]
  exact Int.le_refl _
/-- within one gateway -/
structure Mid (gs : List Gt) (bar rs ms : List Str) (lab0 : Str → Int) (least : Int) (i : Nat) (lab : Str → Int) : Prop where
  lb : Lab gs bar rs lab
  le : ∀ x ∈ rs, lab x ≤ lab0 x
  low : ∀ m ∈ ms, least ≤ lab m
  dn : ∀ m ∈ ms, m ∈ rs.take i → lab m ≤ least
theorem Mid.hit {ms : List Str} {lab0 lab : Str → Int} {least : Int} {i : Nat} {g : Gt} (M : Mid gs bar rs ms lab0 least i lab) (hm : ∀ m ∈ ms, m ∈ rs) (hg : g ∈ gs) (hb : g.1 ∉ bar) (em : g.2.1 = ms) (L0 : Lab gs bar rs lab0) {m0 : Str} (h0 : m0 ∈ ms) (e0 : least = lab0 m0)
    {x : Str} (hx : rs[i]? = some x) {o : Str} (ho : o ∈ ms) (e : lab x = lab o) : Mid gs bar rs ms lab0 least (i + 1) (fun z => if z = x then least else lab z) := by
  have xr : x ∈ rs := List.mem_of_getElem? hx
  have con : Conn gs bar x m0 := (M.lb.conn xr (hm o ho) e).step ⟨g, hg, hb, em ▸ ho, em ▸ h0⟩
  refine ⟨fun z hz => ?_, fun z hz => ?_, fun m hm' => ?_, fun m hm' ht => ?_⟩
  · show ∃ (i : Nat) (y : Str), rs[i]? = some y ∧ (if z = x then least else lab z) = (i : Int) ∧ Conn gs bar z y
    by_cases c : z = x
    · rw [if_pos c, c, e0]
      obtain ⟨j, y, h1, h2, h3⟩ := L0 m0 (hm m0 h0)
      exact ⟨j, y, h1, h2, con.trans h3⟩
    · rw [if_neg c]
      exact M.lb z hz
  · show (if z = x then least else lab z) ≤ lab0 z
    by_cases c : z = x
    · rw [if_pos c, c]
      exact Int.le_trans (M.low o ho) (e ▸ M.le x xr)
    · rw [if_neg c]
      exact M.le z hz
  · show least ≤ (if m = x then least else lab m)
    by_cases c : m = x
    · rw [if_pos c]
      exact Int.le_refl _
    · rw [if_neg c]
      exact M.low m hm'
  · show (if m = x then least else lab m) ≤ least
    by_cases c : m = x
    · rw [if_pos c]
      exact Int.le_refl _
    · rw [if_neg c]
      rw [List.take_add_one, hx] at ht
      rcases List.mem_append.mp ht with ht | ht
      · exact M.dn m hm' ht
      · exact absurd (by simpa using ht) c
theorem Mid.miss {ms : List Str} {lab0 lab : Str → Int} {least : Int} {i : Nat} (M : Mid gs bar rs ms lab0 least i lab) {x : Str} (hx : rs[i]? = some x) (no : x ∉ ms) : Mid gs bar rs ms lab0 least (i + 1) lab :=
  ⟨M.lb, M.le, M.low, fun m hm ht => by
    rw [List.take_add_one, hx] at ht
    rcases List.mem_append.mp ht with ht | ht
    · exact M.dn m hm ht
    · have : m = x := by simpa using ht
      exact absurd (this ▸ hm) no⟩
/-- within one turn -/
structure Pass (gs : List Gt) (bar rs : List Str) (labT : Str → Int) (j : Nat) (lab : Str → Int) : Prop where
  lb : Lab gs bar rs lab
  le : ∀ x ∈ rs, lab x ≤ labT x
  ad : ∀ g ∈ gs.take j, g.1 ∉ bar → ∀ u ∈ g.2.1, ∀ v ∈ g.2.1, lab v ≤ labT u
theorem pass_first {labT : Str → Int} (L : Lab gs bar rs labT) : Pass gs bar rs labT 0 labT := ⟨L, fun _ _ => Int.le_refl _, fun g hg => nomatch hg⟩
theorem Pass.skip {labT lab : Str → Int} {j : Nat} {g : Gt} (P : Pass gs bar rs labT j lab) (hg : gs[j]? = some g) (hb : g.1 ∈ bar) : Pass gs bar rs labT (j + 1) lab :=
  ⟨P.lb, P.le, fun g' h' nb => by
    rw [List.take_add_one, hg] at h'
    rcases List.mem_append.mp h' with h' | h'
    · exact P.ad g' h' nb
    · have : g' = g := by simpa using h'
      exact absurd (this ▸ hb) nb⟩
theorem Pass.take {labT lab lab2 : Str → Int} {least : Int} {j : Nat} {g : Gt} (P : Pass gs bar rs labT j lab) (hm : ∀ g ∈ gs, ∀ z ∈ g.2.1, z ∈ rs) (hg : gs[j]? = some g) (hl : ∀ m ∈ g.2.1, least ≤ lab m) (M : Mid gs bar rs g.2.1 lab least rs.length lab2) : Pass gs bar rs labT (j + 1) lab2 :=
  ⟨M.lb, fun x hx => Int.le_trans (M.le x hx) (P.le x hx), fun g' h' nb u hu v hv => by
    rw [List.take_add_one, hg] at h'
    rcases List.mem_append.mp h' with h' | h'
    · exact Int.le_trans (M.le v (hm g' (List.mem_of_mem_take h') v hv)) (P.ad g' h' nb u hu v hv)
    · have : g' = g := by simpa using h'
      subst this
      have gm : g' ∈ gs := List.mem_of_getElem? hg
      have := M.dn v hv (by rw [List.take_length]; exact hm g' gm v hv)
      exact Int.le_trans this (Int.le_trans (hl u hu) (P.le u (hm g' gm u hu)))⟩
theorem Pass.low {labT lab : Str → Int} {t : Nat} (P : Pass gs bar rs labT gs.length lab) (hm : ∀ g ∈ gs, ∀ z ∈ g.2.1, z ∈ rs) (L : LowL gs bar rs t labT) : LowL gs bar rs (t + 1) lab := fun x hx i y hy h => by
  obtain ⟨u, hu, e | a⟩ := h
  · subst e
    exact Int.le_trans (P.le u hx) (L u hx i y hy hu)
  · obtain ⟨g, hg, nb, h1, h2⟩ := a
    exact Int.le_trans (P.ad g (by rw [List.take_length]; exact hg) nb u h1 x h2) (L u (hm g hg u h1) i y hy hu)
theorem lab_iff {lab : Str → Int} (hm : ∀ g ∈ gs, ∀ z ∈ g.2.1, z ∈ rs) (L : Lab gs bar rs lab) (W : LowL gs bar rs rs.length lab) {x y : Str} (hx : x ∈ rs) (hy : y ∈ rs) : lab x = lab y ↔ Conn gs bar x y := by
  refine ⟨L.conn hx hy, fun c => ?_⟩
  obtain ⟨i, u, h1, h2, h3⟩ := L x hx
  obtain ⟨j, v, k1, k2, k3⟩ := L y hy
  have a := W x hx j v k1 (connN_all hm (List.mem_of_getElem? k1) (k3.symm.trans c.symm))
  have b := W y hy i u h1 (connN_all hm (List.mem_of_getElem? h1) (h3.symm.trans c))
  omega
end
end WT

set_option Elab.async false
set_option linter.all false
set_option maxRecDepth 100000
set_option maxHeartbeats 4000000
/-! sorted of a list of alike data. -/
namespace WT
open PySem PySem.Spec PyProof.Rows L2 PySem.W
section
variable {X : Cx}
theorem each_vals : ∀ {bs : List (V × PyData)} {us : List Value}, Vals (bs.map (·.1)) us → EachIs (fun v (b : V × PyData) => RelV b.1 v) us bs
  | [], _, r => by
    cases r
    exact .nil
  | b :: bs, _, r => by
    cases r with
    | cons h t => exact .cons h (each_vals t)
theorem vals_each : ∀ {bs : List (V × PyData)} {us : List Value}, EachIs (fun v (b : V × PyData) => RelV b.1 v) us bs → Vals (bs.map (·.1)) us
  | _, _, .nil => .nil
  | _, _, .cons h t => .cons h (vals_each t)
theorem each_reads {pins : List (Addr × Obj)} {σ : L2.St} {H : Hp} {s : Shared} (I : Inv X pins σ H s) : ∀ {bs : List (V × PyData)} {us : List Value}, EachIs (fun v (b : V × PyData) => RelV b.1 v) us bs → (∀ b ∈ bs, Dp X.K H b.1 b.2) → EachIs (fun v (b : V × PyData) => ∃ as, Reads s.heap v b.2 as) us bs
  | _, _, .nil, _ => .nil
  | _, _, .cons h t, d => .cons (Dp.reads I _ _ _ (d _ List.mem_cons_self) h) (each_reads I t fun b hb => d b (List.mem_cons_of_mem _ hb))
/-- sorted(xs), the items alike data: the stable sort by Python's order -/
def rSortedD (K : PySem.W.Frag) : List V → Hp → VK → Prop := fun vs H Q => ∃ (a : Addr) (bs : List (V × PyData)), vs = [.ref a] ∧ SqL K H a (bs.map (·.1)) ∧ (∀ b ∈ bs, Dp K H b.1 b.2) ∧ AllAlike (bs.map (·.2)) ∧ Sortable (bs.map (·.2)) ∧ (∀ b ∈ bs, b.2.depth ≤ 60) ∧
  ∀ p, H p = none → Q (.ref p) (upd H p (.lst ((bs.mergeSort (dataLe false fun b => b.2)).map (·.1))))
theorem cr_sortedD (hu : X.A.units + 64 < cLine) : CallR X (.builtin "sorted") (rSortedD X.K) := by
  intro pins s σ H vs us Q I r h
  obtain ⟨a, bs, rfl, hs, hd, hal, hk, hde, q⟩ := h
  obtain ⟨its, rv, hl, hz⟩ := I.list hs
  rw [Vals.ref1 r]
  have e := each_vals rv
  have hlen : bs.length ≤ sizeLine := by
    have := e.length
    have h2 := hz
    rw [List.length_map] at h2
    omega
  refine sorted_data (enc := fun b : V × PyData => b.2) hl.isList e (each_reads I e hd) hal hk hlen (fun b hb => by have := hde b hb; omega) fun out ho he => ?_
  obtain ⟨ep, he'⟩ := PyProof.Rows.sortedAll_at s.heap its out.toArray
  have hl2 : ((bs.mergeSort (dataLe false fun b => b.2)).map (·.1)).length ≤ sizeLine := by
    rw [List.length_map, List.length_mergeSort]
    exact hlen
  exact ⟨.ref _, upd H (s.heap.objs.size + 1) (.lst ((bs.mergeSort (dataLe false fun b => b.2)).map (·.1))), I.laid (t' := s.toks) (fun _ _ => PyProof.Rows.sortedAll_old) (Nat.le_succ _) ⟨hl2, out, ep, vals_each he, he'⟩, rfl, q _ (I.hok.fresh (Nat.le_succ _))⟩
end
end WT

set_option Elab.async false
set_option linter.all false
namespace WT
open PySem
/-- data that repr can show, of at most that depth and length -/
structure Fit (n L : Nat) (d : PyData) : Prop where
  sh : d.showable = true
  de : d.depth ≤ n
  ln : d.shown.length ≤ L
theorem Fit.mono {n L n' L' : Nat} {d : PyData} (f : Fit n L d) (h1 : n ≤ n') (h2 : L ≤ L') : Fit n' L' d := ⟨f.sh, Nat.le_trans f.de h1, Nat.le_trans f.ln h2⟩
theorem fits_all {n L : Nat} : ∀ {ds : List PyData}, (∀ d ∈ ds, Fit n L d) → PyData.showableAll ds = true ∧ PyData.depthAll ds ≤ n ∧ ((PyData.shownAll ds).map (·.length)).sum + 2 * (PyData.shownAll ds).length ≤ ds.length * (L + 2)
  | [], _ => by
    refine ⟨rfl, ?_, ?_⟩
    · rw [PyData.depthAll]
      exact Nat.zero_le _
    · rw [PyData.shownAll]
      simp
  | d :: ds, h => by
    obtain ⟨a, b, c⟩ := fits_all fun x hx => h x (List.mem_cons_of_mem _ hx)
    have f := h d List.mem_cons_self
    refine ⟨?_, ?_, ?_⟩
    · rw [PyData.showableAll, f.sh, a]
      rfl
    · rw [PyData.depthAll]
      exact Nat.max_le.mpr ⟨f.de, b⟩
    · rw [PyData.shownAll]
      have q := f.ln
      simp only [List.map_cons, List.sum_cons, List.length_cons] at c ⊢
      rw [Nat.add_mul]
      omega
theorem fit_list {n L : Nat} {ds : List PyData} (h : ∀ d ∈ ds, Fit n L d) : Fit (n + 1) (ds.length * (L + 2) + 3) (.list ds) := by
  obtain ⟨a, b, c⟩ := fits_all h
  refine ⟨?_, ?_, ?_⟩
  · rw [PyData.showable]
    exact a
  · rw [PyData.depth]
    omega
  · rw [PyData.shown]
    have := listText_len_le (PyData.shownAll ds)
    omega
theorem fit_tuple {n L : Nat} {ds : List PyData} (h : ∀ d ∈ ds, Fit n L d) : Fit (n + 1) (ds.length * (L + 2) + 3) (.tuple ds) := by
  obtain ⟨a, b, c⟩ := fits_all h
  refine ⟨?_, ?_, ?_⟩
  · rw [PyData.showable]
    exact a
  · rw [PyData.depth]
    omega
  · rw [PyData.shown]
    have := tupleText_len_le (PyData.shownAll ds)
    omega
end WT

set_option Elab.async false
set_option linter.all false
set_option maxRecDepth 100000
set_option maxHeartbeats 4000000
/-! Calls with a keyword, and calls that leave a keyword-only parameter out. -/
namespace WT
open PySem PySem.Spec PyProof.Rows L2
section
variable {X : Cx} {cx : CXT} {k n m : Nat} {f : Addr} {fd : FuncData} {ps ks : List Str} {sp : Sp} {E : XK} {x : Str} {p pos : Pos} {e : Expr} {es : List Expr} {kws : List Keyword} {t tk : TA}
theorem run_fnB {pins : List (Addr × Obj)} {σ : L2.St} {H : Hp} {s : Shared} {Q : VK} {us : List Value} {kw : List (Str × Value)} {bs : List Value} {vs : List V} (hgd : X.A.guards = some []) (G : FnG X.prog X.w X.K X.mg X.base cx k f fd ps sp) (hr : Room k X.A)
    (hx : Passes cx X E) (I : Inv X pins σ H s) (hb : BindsTo s fd ⟨us, kw⟩ (ps.zip bs)) (r : Vals vs bs) (h : sp vs H Q E) : wpAny (model X.prog X.w) X.A (call (.ref f) us kw) (EP X pins σ Q) X.xe s := by
  refine wpAny_call (codeAny_mono (G.run X.A X.stack s H ⟨us, kw⟩ bs vs Q E hgd hr I.env0 hb r h) fun r s' hq => ?_)
  cases r with
  | error e => exact hx pins σ H s e s' I hq
  | ok fl =>
    cases fl with
    | ret u => exact I.after hq
    | next => exact hq.elim
    | brk => exact hq.elim
    | cont => exact hq.elim
/-- f(e, .., k = v, ..), the keywords behind the others in the parameters' order -/
def tCallKG (n m : Nat) (sp : Sp) (E : XK) (t tk : TA) : TE := fun σ H Q => t σ H fun vs H1 => tk σ H1 fun zs H2 => vs.length = n ∧ zs.length = m ∧ sp (vs ++ zs) H2 Q E
theorem pe_callKG (hgd : X.A.guards = some []) (G : FnG X.prog X.w X.K X.mg X.base cx k f fd ps sp) (hr : Room k X.A) (hg : Gl X x) (hm : X.mg x = some (.ref f)) (hk : PySem.W.keepIn X.K (.ref f) = true)
    (hb : ∀ (s1 : Shared) (us ws : List Value), X.K.In s1.heap → us.length = n → ws.length = m → BindsTo s1 fd ⟨us, ks.zip ws⟩ (ps.zip (us ++ ws))) (hx : Passes cx X E) (ha : PA X (e :: es) t) (hkw : PK X kws tk)
    (hall : (backToKw pos (keywordEach kws X.env)).all (·.1.isSome) = true := by rfl) (hks : (backToKw pos (keywordEach kws X.env)).filterMap (·.1) = ks := by rfl) (hdb : (x == ("__debug__" : Str)) = false := by decide)
    (he : starEach (e :: es) X.env = (false, eval e X.env) :: starEach es X.env := by rfl) (hpl : ((backTo pos (starEach (e :: es) X.env)).any (·.1) || (backToKw pos (keywordEach kws X.env)).any (·.1.isNone)) = false := by rfl) :
    PE X (.Call (.Name x p) (e :: es) kws pos) (tCallKG n m sp E t tk) := by
  refine ⟨fun pins s σ H Q I h => ?_⟩
  refine wpAny_Call_Name_kw (ld_glob I hg hm ?_ hdb)
  refine PySem.W.callWith_KW (h₀ := X.base) I.ok.mod.kin hk hall (thn (ha.run pos pins s σ H _ I h) fun us s1 ⟨vs, H1, I1, r, q⟩ => ?_) hpl he
  refine thn (hkw.run pos pins s1 σ H1 _ I1 q) fun ws s2 ⟨zs, H2, I2, rz, l1, l2, q2⟩ => ⟨I2.kIn, ?_⟩
  rw [hks]
  exact run_fnB hgd G hr hx I2 (hb s2 us ws I2.kIn ((Vals.length r).symm.trans l1) ((Vals.length rz).symm.trans l2)) (r.append rz) q2
/-- f(e, ..) where defaults fill up -/
def tCallDG (sp : Sp) (dvs : List V) (E : XK) (t : TA) : TE := fun σ H Q => t σ H fun vs H1 => sp (vs ++ dvs) H1 Q E
theorem pe_callDG {dvs : List V} {ds : List Value} (hgd : X.A.guards = some []) (G : FnG X.prog X.w X.K X.mg X.base cx k f fd ps sp) (hr : Room k X.A) (hg : Gl X x) (hm : X.mg x = some (.ref f)) (hk : PySem.W.keepIn X.K (.ref f) = true)
    (hb : Binds X.K fd ps ds) (hd : Vals dvs ds) (hx : Passes cx X E) (ha : PA X (e :: es) t) (hdb : (x == ("__debug__" : Str)) = false := by decide)
    (he : starEach (e :: es) X.env = (false, eval e X.env) :: starEach es X.env := by rfl) (hpl : (backTo pos (starEach es X.env)).any (·.1) = false := by rfl) : PE X (.Call (.Name x p) (e :: es) [] pos) (tCallDG sp dvs E t) := by
  refine ⟨fun pins s σ H Q I h => ?_⟩
  refine wpAny_Call_Name_kw (ld_glob I hg hm ?_ hdb)
  refine PySem.W.callWith_K (h₀ := X.base) I.ok.mod.kin hk (thn (ha.run pos pins s σ H _ I h) fun us s1 ⟨vs, H1, I1, r, q⟩ => ⟨I1.kIn, ?_⟩) he hpl
  have r2 : Vals (vs ++ dvs) (us ++ ds) := r.append hd
  exact run_fnB hgd G hr hx I1 (hb s1 us I1.kIn (by rw [← Vals.length r2]; exact G.len _ _ _ _ q)) r2 q
end
/-- a def with one keyword-only parameter: called with it, called without it -/
structure Dk (P : Program) (w : World) (K : PySem.W.Frag) (mg : Str → Option Value) (base : Heap) (x : Str) (k : Nat) (f : Addr) (fd : FuncData) (ps : List Str) (n : Nat) (kw : Str) (dv : V) (sp : Sp) : Prop where
  g : mg x = some (.ref f)
  kp : PySem.W.keepIn K (.ref f) = true
  G : FnG P w K mg base CX0 k f fd ps sp
  kb : ∀ (s1 : Shared) (us ws : List Value), K.In s1.heap → us.length = n → ws.length = 1 → BindsTo s1 fd ⟨us, ([kw] : List Str).zip ws⟩ (ps.zip (us ++ ws))
  bd : ∃ ds, Vals [dv] ds ∧ Binds K fd ps ds
end WT

set_option Elab.async false
set_option linter.all false
set_option maxRecDepth 100000
set_option maxHeartbeats 4000000
namespace WT
open PySem PySem.Spec PyProof.Rows L2
/-- what comes behind is proved once -/
theorem use_post {α : Type} {T : (α → Hp → Prop) → Prop} {Q : α → Hp → Prop} (G : α → Hp → Prop) (h : ∀ Q' : α → Hp → Prop, (∀ x H', G x H' → Q' x H') → T Q') (q : ∀ x H', G x H' → Q x H') : T Q := h Q q
theorem use_seq {f u : TS} {D : Ends} {σ : L2.St} {H : Hp} (G : L2.St → Hp → Prop) (h : ∀ N : L2.St → Hp → Prop, (∀ σ' H', G σ' H' → N σ' H') → f { D with nx := N } σ H) (q : ∀ σ' H', G σ' H' → u D σ' H') {r b c} : Ends.nx { nx := tSeq f u D, rt := r, bk := b, ct := c } σ H := h (u D) q
theorem call_reprK {X : Cx} {K : PySem.W.Frag} (hgd : X.A.guards = some []) (hu : X.A.units + 64 < cLine) (hK : X.K = K := by rfl) : CallR X (.builtin "repr") (rRepr K) := by
  subst hK
  exact call_repr hgd hu
theorem names_nodup {n : Nat} {ys : List Str} (h : NamesOf n ys) : ys.Nodup := by
  obtain ⟨s, f, rfl, _⟩ := h.ex
  unfold nameList
  refine List.pairwise_map.mpr (List.Pairwise.imp (fun {i j} hij e => hij ?_) List.nodup_range)
  have e := congrArg (fun z : Str => z.cps.toList) e
  simp only [app_cps] at e
  have e := List.append_cancel_left e
  have e : [97 + f + i] = [97 + f + j] := e
  simp at e
  omega
theorem fit_bool (b : Bool) : (PyData.bool b).showable = true ∧ (PyData.bool b).depth ≤ 60 ∧ (PyData.bool b).shown.length ≤ sizeLine ∧ PyData.strOk (PyData.bool b).shown = true := by
  cases b <;> decide +kernel
theorem pot_upd {H : Hp} {a c : Addr} {n : Nat} {o : HO} (h : PotAt H a n) (hc : a ≠ c) : PotAt (upd H c o) a n := by
  obtain ⟨u0, u1, u2, e1, e2⟩ := h
  exact ⟨u0, u1, u2, by rw [upd_ne hc]; exact e1, e2⟩
theorem but_free {H H' : Hp} {a c : Addr} (h : But a H H') (hc : c ≠ a) (n : H' c = none) : H c = none := by
  cases e : H c with
  | none => rfl
  | some o =>
    rw [h _ _ hc e] at n
    cases n
theorem iff_same {b c : Bool} {p : Prop} (h : b = true ↔ p) (k : c = true ↔ p) : b = c := by
  cases b <;> cases c <;> simp_all
theorem gate_len {rs : List Str} {g : Gt} (h : GateOk rs g) : g.2.1 ≠ [] ∧ g.2.1.length ≤ rs.length := by
  obtain ⟨ys, k, h1, h2, h3, h4⟩ := h.from_
  have e1 := h2.length_eq
  have e2 := h1.length_eq
  rw [List.length_take] at e1
  refine ⟨fun z => ?_, by omega⟩
  rw [z] at e1
  simp at e1
  omega

theorem use_seq1 {f u : TS} {D : Ends} {σ : L2.St} {H : Hp} (G : L2.St → Hp → Prop) (h : ∀ N : L2.St → Hp → Prop, (∀ σ' H', G σ' H' → N σ' H') → f { D with nx := N } σ H) (q : ∀ σ' H', G σ' H' → u D σ' H') : tSeq f u D σ H := h (u D) q
theorem perm_map_inv {α β : Type} {f : α → β} {l' m : List β} (h : l'.Perm m) : ∀ {l : List α}, m = l.map f → ∃ k : List α, k.Perm l ∧ l' = k.map f := by
  induction h with
  | nil =>
    intro l e
    cases l with
    | nil => exact ⟨[], .nil, rfl⟩
    | cons _ _ => cases e
  | cons x _ ih =>
    intro l e
    cases l with
    | nil => cases e
    | cons y l =>
      cases e
      obtain ⟨k, h1, h2⟩ := ih rfl
      exact ⟨y :: k, h1.cons y, by rw [h2]; rfl⟩
  | swap x y r =>
    intro l e
    cases l with
    | nil => cases e
    | cons a l =>
      cases l with
      | nil => cases e
      | cons b l =>
        cases e
        exact ⟨b :: a :: l, .swap _ _ _, rfl⟩
  | trans _ _ ih1 ih2 =>
    intro l e
    obtain ⟨k, h1, h2⟩ := ih2 e
    obtain ⟨k2, h3, h4⟩ := ih1 h2
    exact ⟨k2, h3.trans h1, h4⟩
theorem paired_zip {α β : Type} {R : α → β → Prop} : ∀ {l : List α} {m : List β}, Paired R l m → ∀ p ∈ l.zip m, R p.1 p.2
  | _, _, .nil, p, h => by cases h
  | _, _, .cons r t, p, h => by
    rw [List.zip_cons_cons] at h
    rcases List.mem_cons.mp h with e | h
    · rw [e]
      exact r
    · exact paired_zip t p h
theorem zip_paired {α β : Type} {R : α → β → Prop} : ∀ {l : List (α × β)}, (∀ p ∈ l, R p.1 p.2) → Paired R (l.map (·.1)) (l.map (·.2))
  | [], _ => .nil
  | p :: l, h => .cons (h p List.mem_cons_self) (zip_paired fun q hq => h q (List.mem_cons_of_mem _ hq))
theorem zip_fst {α β : Type} {R : α → β → Prop} : ∀ {l : List α} {m : List β}, Paired R l m → (l.zip m).map (·.1) = l ∧ (l.zip m).map (·.2) = m
  | _, _, .nil => ⟨rfl, rfl⟩
  | _, _, .cons r t => by
    obtain ⟨h1, h2⟩ := zip_fst t
    rw [List.zip_cons_cons, List.map_cons, List.map_cons, h1, h2]
    exact ⟨rfl, rfl⟩
/-! gateways and worlds as data -/
def gateD (g : Gt) : PyData := .tuple [.str g.1, .tuple (g.2.1.map PyData.str), .str g.2.2]
def worldD (rs : List Str) (gs : List Gt) : PyData := .tuple [.tuple (rs.map PyData.str), .tuple (gs.map gateD)]
theorem dp_gate {K : PySem.W.Frag} {H : Hp} {a : Addr} {g : Gt} (h : GateAt H a g) : Dp K H (.ref a) (gateD g) := by
  obtain ⟨i, h1, h2⟩ := h
  exact .tup (SqT.of h1) (.cons (.str _) (.cons (.tup (SqT.of h2) (dp_strs _)) (.cons (.str _) .nil)))
theorem alikeAll_strs : ∀ xs ys : List Str, PySem.W.alikeAll (xs.map PyData.str) (ys.map PyData.str) = true
  | [], _ => by rw [List.map_nil, PySem.W.alikeAll]
  | _ :: _, [] => by rw [List.map_cons, List.map_nil, PySem.W.alikeAll]
  | x :: xs, y :: ys => by
    rw [List.map_cons, List.map_cons, PySem.W.alikeAll, alikeAll_strs xs ys, PySem.W.alike]
    rfl
theorem alike_gate (g g' : Gt) : PySem.W.alike (gateD g) (gateD g') = true := by
  unfold gateD
  rw [PySem.W.alike, PySem.W.alikeAll, PySem.W.alikeAll, PySem.W.alikeAll, PySem.W.alike, PySem.W.alike, PySem.W.alike, alikeAll_strs, PySem.W.alikeAll]
  rfl
theorem depthAll_strs : ∀ ss : List Str, PyData.depthAll (ss.map PyData.str) = 0
  | [] => by rw [List.map_nil, PyData.depthAll]
  | s :: ss => by
    rw [List.map_cons, PyData.depthAll, depthAll_strs ss, PyData.depth]
    rfl
theorem depth_gate (g : Gt) : (gateD g).depth ≤ 2 := by
  unfold gateD
  rw [PyData.depth, PyData.depthAll, PyData.depthAll, PyData.depthAll, PyData.depthAll, PyData.depth, PyData.depth, PyData.depth, depthAll_strs]
  decide
mutual
theorem Dp.dt {K : PySem.W.Frag} {H : Hp} : ∀ {v : V} {d : PyData}, Dp K H v d → Dt K H v d
  | _, _, .non => .non
  | _, _, .bl b => .bl b
  | _, _, .int i => .int i
  | _, _, .str x => .str x
  | _, _, .lst h t => .lst h (DpAll.dt t)
  | _, _, .tup h t => .tup h (DpAll.dt t)
theorem DpAll.dt {K : PySem.W.Frag} {H : Hp} : ∀ {vs : List V} {ds : List PyData}, DpAll K H vs ds → DtAll K H vs ds
  | _, _, .nil => .nil
  | _, _, .cons h t => .cons (Dp.dt h) (DpAll.dt t)
end
theorem dp_gates {K : PySem.W.Frag} {H : Hp} : ∀ {as : List Addr} {gs : List Gt}, Paired (GateAt H) as gs → DpAll K H (as.map V.ref) (gs.map gateD)
  | _, _, .nil => .nil
  | _, _, .cons r t => .cons (dp_gate r) (dp_gates t)
theorem dp_world {K : PySem.W.Frag} {H : Hp} {a r g : Addr} {as : List Addr} {rs : List Str} {gs : List Gt} (h : WorldAt H a r g as rs gs) : Dp K H (.ref a) (worldD rs gs) :=
  .tup (SqT.of h.top) (.cons (.tup (SqT.of h.reg) (dp_strs _)) (.cons (.tup (SqT.of h.gat) (dp_gates h.each)) .nil))
end WT

set_option Elab.async false
set_option linter.all false
set_option maxRecDepth 100000
set_option maxHeartbeats 4000000
namespace WT
open PySem PySem.Spec PyProof.Rows L2
theorem lastD_mem {α : Type} : ∀ (l : List α) (d : α), l.getLastD d ∈ d :: l
  | [], d => by simp
  | a :: l, d => by
    rw [List.getLastD_cons]
    exact List.mem_cons_of_mem _ (lastD_mem l a)
theorem lastOf_mem (one : Str) (l : List (Str × Str)) : lastOf one l ∈ one :: l.map (·.2) := lastD_mem _ _
section
variable {gs : List Gt} {bar rs : List Str} {one : Str}
theorem SPath.names {x y : Str} {l : List (Str × Str)} (h : SPath gs bar x l y) : ∀ n ∈ l.map (·.1), n ∈ gs.map (·.1) := by
  induction h with
  | nil => intro n hn; cases hn
  | cons s _ ih =>
    obtain ⟨g, hg, e, _⟩ := s
    intro n hn
    rw [List.map_cons] at hn
    rcases List.mem_cons.mp hn with e2 | hn
    · rw [e2]
      exact List.mem_map.mpr ⟨g, hg, e⟩
    · exact ih n hn
theorem GoodP.lenG {l : List (Str × Str)} (h : GoodP gs bar rs one l) : l.length ≤ gs.length := by
  obtain ⟨z, hz⟩ := h.path
  have := nodup_le (rs := gs.map (·.1)) h.gat hz.names
  rw [List.length_map, List.length_map] at this
  exact this
theorem kidsOf_len {B : Nat} {g : Gt} (hg : g.2.1.length ≤ B + 1) (l : List (Str × Str)) : (kidsOf bar one l g).length ≤ B := by
  unfold kidsOf
  by_cases c : lastOf one l ∈ g.2.1 ∧ g.1 ∉ l.map (·.1) ∧ g.1 ∉ bar
  · rw [if_pos c, List.length_map]
    have : (g.2.1.filter fun z => decide (z ∉ one :: l.map (·.2))).length < g.2.1.length :=
      List.length_filter_lt_length_iff_exists.mpr ⟨lastOf one l, c.1, by
        have := lastOf_mem one l
        simp only [decide_eq_true_eq]
        exact fun z => z this⟩
    omega
  · rw [if_neg c]
    exact Nat.zero_le _
theorem kids_lenX {B : Nat} {gx : Gt} (hx : gx ∈ gs) (hB : ∀ g ∈ gs, g.2.1.length ≤ B + 1) (l : List (Str × Str)) : (kids gs [gx.1] one l).length ≤ (gs.length - 1) * B := by
  have gen : ∀ (hs : List Gt), (∀ g ∈ hs, g.2.1.length ≤ B + 1) → (kids hs [gx.1] one l).length ≤ hs.length * B := fun hs => by
    induction hs with
    | nil => intro _; exact Nat.zero_le _
    | cons g hs ih =>
      intro h
      have a := ih fun y hy => h y (List.mem_cons_of_mem _ hy)
      have b := kidsOf_len (bar := [gx.1]) (one := one) (h g List.mem_cons_self) l
      unfold kids at a ⊢
      rw [List.flatMap_cons, List.length_append, List.length_cons, Nat.add_mul]
      omega
  obtain ⟨g1, g2, rfl⟩ := List.append_of_mem hx
  have e : kids (g1 ++ gx :: g2) [gx.1] one l = kids (g1 ++ g2) [gx.1] one l := by
    unfold kids
    rw [List.flatMap_append, List.flatMap_append, List.flatMap_cons]
    have : kidsOf [gx.1] one l gx = [] := by
      unfold kidsOf
      rw [if_neg fun z => z.2.2 (by simp)]
    rw [this, List.nil_append]
  rw [e]
  have := gen (g1 ++ g2) fun g hg => hB g (by
    rcases List.mem_append.mp hg with h | h
    · exact List.mem_append_left _ h
    · exact List.mem_append_right _ (List.mem_cons_of_mem _ h))
  rw [List.length_append] at this ⊢
  rw [List.length_cons]
  rw [show g1.length + (g2.length + 1) - 1 = g1.length + g2.length by omega]
  exact this
end
/-- a world that is small enough for the search through all paths -/
def Small (rs : List Str) (gs : List Gt) : Prop := ∃ M D : Nat, (M + 1) ^ D < sizeLine ∧ ∀ gx ∈ gs, gx.2.1.length * gx.2.1.length * (M + 1) ^ D < sizeLine ∧ ∀ one ∈ rs, (∀ k, GoodP gs [gx.1] rs one k → k.length ≤ D) ∧ ∀ l, (kids gs [gx.1] one l).length ≤ M
theorem small_of {rs : List Str} {gs : List Gt} (hr : rs.length ≤ 6) (hg : gs.length ≤ 4) (hm : ∀ g ∈ gs, g.2.1.length ≤ rs.length) : Small rs gs := by
  refine ⟨15, 4, by decide, fun gx hx => ⟨?_, fun one ho => ⟨fun k hk => Nat.le_trans hk.lenG hg, fun l => Nat.le_trans (kids_lenX (B := 5) hx (fun g h => Nat.le_trans (hm g h) hr) l) ?_⟩⟩⟩
  · have h6 : gx.2.1.length ≤ 6 := Nat.le_trans (hm gx hx) hr
    have : gx.2.1.length * gx.2.1.length ≤ 6 * 6 := Nat.mul_le_mul h6 h6
    exact Nat.lt_of_le_of_lt (Nat.mul_le_mul_right _ this) (by decide)
  · omega
theorem small_ring {rs : List Str} {gs : List Gt} (hr : rs.length = 8) (hg : gs.length = 8) (hm : ∀ g ∈ gs, g.2.1.length = 2) : Small rs gs := by
  refine ⟨7, 7, by decide, fun gx hx => ⟨?_, fun one ho => ⟨fun k hk => ?_, fun l => Nat.le_trans (kids_lenX (B := 1) hx (fun g h => by rw [hm g h]; decide) l) ?_⟩⟩⟩
  · rw [hm gx hx]
    decide
  · have := hk.len ho
    omega
  · omega
/-! what repr shows of names, gateways, worlds -/
theorem nm_of {s : Str} (h : s.length ≤ 8) (k : s.cps.toList.all (fun c => decide (97 ≤ c) && decide (c ≤ 122)) = true) : NmOk s := by
  refine ⟨h, fun c hc => ?_⟩
  have := List.all_eq_true.mp k c hc
  rw [Bool.and_eq_true] at this
  exact ⟨of_decide_eq_true this.1, of_decide_eq_true this.2⟩
theorem nm_wrap : NmOk "wrap" := nm_of (by decide +kernel) (by decide +kernel)
theorem nm_open : NmOk "open" := nm_of (by decide +kernel) (by decide +kernel)
theorem fit_str {s : Str} (h : NmOk s) : Fit 0 200 (.str s) := by
  refine ⟨rfl, by rw [PyData.depth]; exact Nat.le_refl _, ?_⟩
  have h1 := PyData.shown_le 8 (by decide) (.str s) (by
    rw [PyData.leavesShort, List.all_eq_true]
    intro c hc
    have := h.low c hc
    unfold Low at this
    have e : (16 : Nat) ^ 8 = 4294967296 := by decide
    exact decide_eq_true (by omega))
  have h2 : s.cps.size ≤ 8 := h.len
  rw [PyData.weight] at h1
  omega
theorem fit_strs {ss : List Str} (h : ∀ s ∈ ss, NmOk s) : Fit 1 (ss.length * 202 + 3) (.tuple (ss.map PyData.str)) := by
  have := fit_tuple (n := 0) (L := 200) (ds := ss.map PyData.str) fun d hd => by
    obtain ⟨s, hs, rfl⟩ := List.mem_map.mp hd
    exact fit_str (h s hs)
  rw [List.length_map] at this
  exact this
/-- a world as laws draw it -/
structure WFine (rs : List Str) (gs : List Gt) : Prop where
  rl : rs.length ≤ 10
  gl : gs.length ≤ 10
  rok : ∀ s ∈ rs, NmOk s
  nd : (gs.map (·.1)).Nodup
  each : ∀ g ∈ gs, NmOk g.1 ∧ g.2.1.length ≤ 10 ∧ (∀ y ∈ g.2.1, y ∈ rs) ∧ NmOk g.2.2
theorem fit_gate {rs : List Str} {gs : List Gt} (h : WFine rs gs) {g : Gt} (hg : g ∈ gs) : Fit 2 7000 (gateD g) := by
  obtain ⟨h1, h2, h3, h4⟩ := h.each g hg
  have a := fit_strs fun s hs => h.rok s (h3 s hs)
  have := fit_tuple (n := 1) (L := 2100) (ds := [.str g.1, .tuple (g.2.1.map PyData.str), .str g.2.2]) fun d hd => by
    simp only [List.mem_cons, List.not_mem_nil, or_false] at hd
    rcases hd with rfl | rfl | rfl
    · exact (fit_str h1).mono (by decide) (by decide)
    · exact a.mono (by decide) (by omega)
    · exact (fit_str h4).mono (by decide) (by decide)
  exact this.mono (by decide) (by show 3 * (2100 + 2) + 3 ≤ 7000; decide)
theorem fit_world {rs : List Str} {gs : List Gt} (h : WFine rs gs) : Fit 60 sizeLine (worldD rs gs) := by
  have a := fit_strs h.rok
  have b := fit_tuple (n := 2) (L := 7000) (ds := gs.map gateD) fun d hd => by
    obtain ⟨g, hg, rfl⟩ := List.mem_map.mp hd
    exact fit_gate h hg
  rw [List.length_map] at b
  have l1 := h.rl
  have l2 := h.gl
  have := fit_tuple (n := 3) (L := 80000) (ds := [.tuple (rs.map PyData.str), .tuple (gs.map gateD)]) fun d hd => by
    simp only [List.mem_cons, List.not_mem_nil, or_false] at hd
    rcases hd with rfl | rfl
    · exact a.mono (by decide) (by omega)
    · exact b.mono (by decide) (by omega)
  exact this.mono (by decide) (by show 2 * (80000 + 2) + 3 ≤ sizeLine; decide)
theorem WorldOk.fine {rs : List Str} {gs : List Gt} (h : WorldOk rs gs) : WFine rs gs := by
  obtain ⟨n, h1, h2, h3⟩ := h.reg
  obtain ⟨m, h4, h5⟩ := h.gat
  have l1 := h3.length
  have l2 := h5.length
  rw [List.length_map] at l2
  refine ⟨by omega, by omega, h3.nm, names_nodup h5, fun g hg => ?_⟩
  have k := h.each g hg
  refine ⟨k.nm, by have := k.len; omega, k.sub, ?_⟩
  rcases k.kind with e | e
  · rw [e]
    exact nm_wrap
  · rw [e]
    exact nm_open
theorem lay_ints : ∀ ns : List Int, PyData.canLayAll0 (ns.map PyData.int) = true ∧ PyData.depthAll (ns.map PyData.int) = 0
  | [] => ⟨by rw [List.map_nil, PyData.canLayAll0], by rw [List.map_nil, PyData.depthAll]⟩
  | n :: ns => by
    obtain ⟨h1, h2⟩ := lay_ints ns
    rw [List.map_cons, PyData.canLayAll0, PyData.depthAll, h1, h2, PyData.canLay0, PyData.depth]
    exact ⟨rfl, rfl⟩
theorem shaped_ints (ns : List Int) : SeqAt.shaped (.list (ns.map PyData.int)) = true := by
  obtain ⟨h1, h2⟩ := lay_ints ns
  unfold SeqAt.shaped
  rw [PyData.canLay0, PyData.depth, h1, h2]
  rfl
theorem dp_ints {K : PySem.W.Frag} {H : Hp} : ∀ ns : List Int, DpAll K H (ns.map V.int) (ns.map PyData.int)
  | [] => .nil
  | n :: ns => .cons (.int n) (dp_ints ns)
theorem str_tri (a b : Str) : a.cps.toList < b.cps.toList ∨ a = b ∨ b.cps.toList < a.cps.toList := by
  by_cases h1 : a.cps.toList < b.cps.toList
  · exact .inl h1
  · by_cases h2 : b.cps.toList < a.cps.toList
    · exact .inr (.inr h2)
    · have e : a.cps.toList = b.cps.toList := List.le_antisymm (List.not_lt.mp h2) (List.not_lt.mp h1)
      refine .inr (.inl ?_)
      obtain ⟨⟨x⟩⟩ := a
      obtain ⟨⟨y⟩⟩ := b
      have e : x = y := e
      rw [e]
theorem str_irrefl {a b : Str} (h : a.cps.toList < b.cps.toList) : a ≠ b := fun e => by
  rw [e] at h
  exact List.lt_irrefl _ h
end WT

set_option Elab.async false
set_option linter.all false
set_option maxRecDepth 100000
set_option maxHeartbeats 4000000
namespace WT
open PySem PySem.Spec PyProof.Rows L2
/-! ### the search for a shortest path: what it does, as a function, and that what it finds is shortest -/
abbrev Pth := List (Str × Str)
abbrev Tab := List (Str × Pth)
def keysT (t : Tab) : List Str := t.map (·.1)
def tabGet : Tab → Str → Option Pth
  | [], _ => none
  | p :: t, x => if p.1 = x then some p.2 else tabGet t x
def bfsOne (lr : Pth) (st : Tab × List Str) (e : Str × Str) : Tab × List Str := if e.2 ∈ keysT st.1 then st else (st.1 ++ [(e.2, lr ++ [e])], st.2 ++ [e.2])
def bfsReg (gs : List Gt) (bar : List Str) (st : Tab × List Str) (r : Str) : Tab × List Str := (exitsL gs bar r).foldl (bfsOne ((tabGet st.1 r).getD [])) st
def bfsLev (gs : List Gt) (bar : List Str) (t : Tab) (far : List Str) : Tab × List Str := far.foldl (bfsReg gs bar) (t, [])
def bfs (gs : List Gt) (bar : List Str) (other : Str) : Nat → Tab → List Str → Tab
  | 0, t, _ => t
  | n + 1, t, far => if far = [] ∨ other ∈ keysT t then t else bfs gs bar other n (bfsLev gs bar t far).1 (bfsLev gs bar t far).2
/-- the path that shortest_path hands back -/
def spath (gs : List Gt) (bar rs : List Str) (one other : Str) : Option Pth := tabGet (bfs gs bar other (2 * rs.length + 2) [(one, [])] [one]) other
theorem get_mem : ∀ {t : Tab} {x : Str} {l : Pth}, tabGet t x = some l → (x, l) ∈ t
  | [], _, _, h => by cases h
  | p :: t, x, l, h => by
    unfold tabGet at h
    by_cases c : p.1 = x
    · rw [if_pos c] at h
      cases h
      rw [← c]
      exact List.mem_cons_self
    · rw [if_neg c] at h
      exact List.mem_cons_of_mem _ (get_mem h)
theorem get_some : ∀ {t : Tab} {x : Str}, x ∈ keysT t → ∃ l, tabGet t x = some l
  | [], _, h => by cases h
  | p :: t, x, h => by
    unfold tabGet
    by_cases c : p.1 = x
    · exact ⟨_, by rw [if_pos c]⟩
    · rw [if_neg c]
      rcases List.mem_cons.mp h with e | h
      · exact absurd e.symm c
      · exact get_some h
theorem get_none : ∀ {t : Tab} {x : Str}, x ∉ keysT t → tabGet t x = none
  | [], _, _ => rfl
  | p :: t, x, h => by
    unfold tabGet
    rw [if_neg fun e => h (by rw [← e]; exact List.mem_cons_self)]
    exact get_none fun z => h (List.mem_cons_of_mem _ z)
theorem get_app {t u : Tab} {x : Str} (h : x ∈ keysT t) : tabGet (t ++ u) x = tabGet t x := by
  induction t with
  | nil => cases h
  | cons p t ih =>
    rw [List.cons_append]
    unfold tabGet
    by_cases c : p.1 = x
    · rw [if_pos c, if_pos c]
    · rw [if_neg c, if_neg c]
      rcases List.mem_cons.mp h with e | h
      · exact absurd e.symm c
      · exact ih h
theorem keys_app (t u : Tab) : keysT (t ++ u) = keysT t ++ keysT u := List.map_append
theorem mem_keys {t : Tab} {p : Str × Pth} (h : p ∈ t) : p.1 ∈ keysT t := List.mem_map.mpr ⟨p, h, rfl⟩
section
variable {gs : List Gt} {bar rs : List Str} {one other : Str}
/-- the table after d rounds -/
structure BOk (gs : List Gt) (bar rs : List Str) (one : Str) (d : Nat) (t : Tab) (far : List Str) : Prop where
  nod : (keysT t).Nodup
  sub : ∀ x ∈ keysT t, x ∈ rs
  ok : ∀ p ∈ t, SPath gs bar one p.2 p.1 ∧ p.2.length ≤ d ∧ ∀ m, SPath gs bar one m p.1 → p.2.length ≤ m.length
  all : ∀ x m, SPath gs bar one m x → m.length ≤ d → x ∈ keysT t
  ffar : ∀ p ∈ t, p.1 ∈ far ↔ p.2.length = d
  fsub : ∀ x ∈ far, x ∈ keysT t
/-- what a round has added so far -/
structure BMid (gs : List Gt) (bar rs : List Str) (one : Str) (d : Nat) (t add : Tab) : Prop where
  nod : (keysT (t ++ add)).Nodup
  sub : ∀ x ∈ keysT add, x ∈ rs
  ok : ∀ p ∈ add, SPath gs bar one p.2 p.1 ∧ p.2.length = d + 1
theorem BOk.first (h : one ∈ rs) : BOk gs bar rs one 0 [(one, [])] [one] := by
  refine ⟨by simp [keysT], fun x hx => ?_, fun p hp => ?_, fun x m hm hl => ?_, fun p hp => ?_, fun x hx => ?_⟩
  · rw [List.mem_singleton.mp hx]
    exact h
  · rw [List.mem_singleton.mp hp]
    exact ⟨.nil one, Nat.le_refl _, fun m _ => Nat.zero_le _⟩
  · have : m = [] := List.length_eq_zero_iff.mp (by omega)
    subst this
    cases hm
    exact List.mem_cons_self
  · rw [List.mem_singleton.mp hp]
    simp
  · exact hx
theorem BMid.first {d : Nat} {t : Tab} {far : List Str} (h : BOk gs bar rs one d t far) : BMid gs bar rs one d t [] := ⟨by rw [List.append_nil]; exact h.nod, fun x hx => (nomatch hx), fun p hp => (nomatch hp)⟩
theorem exits_step {x : Str} {e : Str × Str} (h : e ∈ exitsL gs bar x) : Step gs bar x e.1 e.2 := by
  unfold exitsL at h
  obtain ⟨g, hg, he⟩ := List.mem_flatMap.mp h
  by_cases c : x ∈ g.2.1 ∧ g.1 ∉ bar
  · rw [if_pos c] at he
    obtain ⟨y, hy, rfl⟩ := List.mem_map.mp he
    exact ⟨g, hg, rfl, c.2, c.1, (List.mem_filter.mp hy).1⟩
  · rw [if_neg c] at he
    cases he
theorem BMid.one_ {d : Nat} {t add : Tab} {far : List Str} {r : Str} {lr : Pth} {e : Str × Str} (hm : ∀ g ∈ gs, ∀ z ∈ g.2.1, z ∈ rs) (B : BOk gs bar rs one d t far) (h : BMid gs bar rs one d t add) (hr : (r, lr) ∈ t) (hl : lr.length = d) (he : e ∈ exitsL gs bar r) :
    ∃ add', bfsOne lr (t ++ add, keysT add) e = (t ++ add', keysT add') ∧ BMid gs bar rs one d t add' ∧ e.2 ∈ keysT (t ++ add') ∧ ∀ x ∈ keysT (t ++ add), x ∈ keysT (t ++ add') := by
  unfold bfsOne
  by_cases c : e.2 ∈ keysT (t ++ add)
  · rw [if_pos c]
    exact ⟨add, rfl, h, c, fun x hx => hx⟩
  · rw [if_neg c]
    refine ⟨add ++ [(e.2, lr ++ [e])], ?_, ⟨?_, fun x hx => ?_, fun p hp => ?_⟩, ?_, fun x hx => ?_⟩
    · rw [List.append_assoc, keys_app]
      rfl
    · rw [← List.append_assoc, keys_app]
      refine List.nodup_append.mpr ⟨h.nod, by simp [keysT], fun a ha b hb q => ?_⟩
      have hb : b = e.2 := by simpa [keysT] using hb
      exact c (hb ▸ q ▸ ha)
    · rw [keys_app] at hx
      rcases List.mem_append.mp hx with hx | hx
      · exact h.sub x hx
      · have hx : x = e.2 := by simpa [keysT] using hx
        obtain ⟨g, hg, _, _, _, h4⟩ := exits_step he
        rw [hx]
        exact hm g hg _ h4
    · rcases List.mem_append.mp hp with hp | hp
      · exact h.ok p hp
      · rw [List.mem_singleton.mp hp]
        refine ⟨(B.ok _ hr).1.app ?_, by simp [hl]⟩
        have := exits_step he
        exact .cons this (.nil _)
    · rw [← List.append_assoc, keys_app]
      exact List.mem_append_right _ (by simp [keysT])
    · rw [← List.append_assoc, keys_app]
      exact List.mem_append_left _ hx
/-- a region's exits, j of them -/
theorem BMid.reg {d : Nat} {t add : Tab} {far : List Str} {r : Str} {lr : Pth} (hm : ∀ g ∈ gs, ∀ z ∈ g.2.1, z ∈ rs) (B : BOk gs bar rs one d t far) (h : BMid gs bar rs one d t add) (hr : (r, lr) ∈ t) (hl : lr.length = d) :
    ∀ es : List (Str × Str), (∀ e ∈ es, e ∈ exitsL gs bar r) → ∃ add', es.foldl (bfsOne lr) (t ++ add, keysT add) = (t ++ add', keysT add') ∧ BMid gs bar rs one d t add' ∧ (∀ e ∈ es, e.2 ∈ keysT (t ++ add')) ∧ ∀ x ∈ keysT (t ++ add), x ∈ keysT (t ++ add') := by
  intro es
  induction es generalizing add with
  | nil => exact fun _ => ⟨add, rfl, h, fun e he => (nomatch he), fun x hx => hx⟩
  | cons e es ih =>
    intro hes
    obtain ⟨a1, e1, h1, k1, s1⟩ := BMid.one_ hm B h hr hl (hes e List.mem_cons_self)
    obtain ⟨a2, e2, h2, k2, s2⟩ := ih h1 fun x hx => hes x (List.mem_cons_of_mem _ hx)
    refine ⟨a2, by rw [List.foldl_cons, e1, e2], h2, fun x hx => ?_, fun x hx => s2 x (s1 x hx)⟩
    rcases List.mem_cons.mp hx with q | hx
    · rw [q]
      exact s2 _ k1
    · exact k2 x hx
theorem BOk.at_far {d : Nat} {t : Tab} {far : List Str} (B : BOk gs bar rs one d t far) {r : Str} (h : r ∈ far) : ∃ lr, tabGet t r = some lr ∧ (r, lr) ∈ t ∧ lr.length = d := by
  obtain ⟨lr, e⟩ := get_some (B.fsub r h)
  have m := get_mem e
  exact ⟨lr, e, m, (B.ffar _ m).mp h⟩
theorem BMid.lev {d : Nat} {t add : Tab} {far : List Str} (hm : ∀ g ∈ gs, ∀ z ∈ g.2.1, z ∈ rs) (B : BOk gs bar rs one d t far) (h : BMid gs bar rs one d t add) :
    ∀ fs : List Str, (∀ r ∈ fs, r ∈ far) → ∃ add', fs.foldl (bfsReg gs bar) (t ++ add, keysT add) = (t ++ add', keysT add') ∧ BMid gs bar rs one d t add' ∧ (∀ r ∈ fs, ∀ e ∈ exitsL gs bar r, e.2 ∈ keysT (t ++ add')) ∧ ∀ x ∈ keysT (t ++ add), x ∈ keysT (t ++ add') := by
  intro fs
  induction fs generalizing add with
  | nil => exact fun _ => ⟨add, rfl, h, fun e he => (nomatch he), fun x hx => hx⟩
  | cons r fs ih =>
    intro hf
    obtain ⟨lr, e0, m0, l0⟩ := B.at_far (hf r List.mem_cons_self)
    obtain ⟨a1, e1, h1, k1, s1⟩ := BMid.reg hm B h m0 l0 (exitsL gs bar r) fun e he => he
    obtain ⟨a2, e2, h2, k2, s2⟩ := ih h1 fun x hx => hf x (List.mem_cons_of_mem _ hx)
    have er : bfsReg gs bar (t ++ add, keysT add) r = (t ++ a1, keysT a1) := by
      unfold bfsReg
      rw [get_app (B.fsub r (hf r List.mem_cons_self)), e0]
      exact e1
    refine ⟨a2, by rw [List.foldl_cons, er, e2], h2, fun x hx e he => ?_, fun x hx => s2 x (s1 x hx)⟩
    rcases List.mem_cons.mp hx with q | hx
    · rw [q] at he
      exact s2 _ (k1 e he)
    · exact k2 x hx e he
theorem BOk.next {d : Nat} {t : Tab} {far : List Str} (hm : ∀ g ∈ gs, ∀ z ∈ g.2.1, z ∈ rs) (B : BOk gs bar rs one d t far) : ∃ add, bfsLev gs bar t far = (t ++ add, keysT add) ∧ BOk gs bar rs one (d + 1) (t ++ add) (keysT add) := by
  obtain ⟨add, e, h, k, _⟩ := BMid.lev hm B (.first B) far fun r hr => hr
  rw [List.append_nil] at e
  refine ⟨add, e, h.nod, fun x hx => ?_, fun p hp => ?_, fun x m hx hl => ?_, fun p hp => ?_, fun x hx => ?_⟩
  · rw [keys_app] at hx
    rcases List.mem_append.mp hx with hx | hx
    · exact B.sub x hx
    · exact h.sub x hx
  · rcases List.mem_append.mp hp with hp | hp
    · obtain ⟨h1, h2, h3⟩ := B.ok p hp
      exact ⟨h1, by omega, h3⟩
    · obtain ⟨h1, h2⟩ := h.ok p hp
      refine ⟨h1, by omega, fun m hq => ?_⟩
      rcases Nat.lt_or_ge d m.length with q | q
      · omega
      · exfalso
        have n := h.nod
        rw [keys_app] at n
        exact (List.nodup_append.mp n).2.2 _ (B.all _ m hq q) _ (mem_keys hp) rfl
  · rw [keys_app]
    rcases Nat.lt_or_ge d m.length with q | q
    · rcases List.eq_nil_or_concat m with rfl | ⟨m', p, rfl⟩
      · simp at q
      · obtain ⟨n, z⟩ := p
        rw [List.concat_eq_append] at hx hl q
        obtain ⟨y, h1, h2⟩ := hx.split
        cases h2 with
        | cons s s2 =>
          cases s2
          have ml : m'.length = d := by
            simp at hl q
            omega
          obtain ⟨ly, ey⟩ := get_some (B.all y m' h1 (by omega))
          have my := get_mem ey
          obtain ⟨o1, o2, o3⟩ := B.ok _ my
          rcases Nat.lt_or_ge ly.length d with q2 | q2
          · exact List.mem_append_left _ (B.all _ (ly ++ [(n, x)]) (o1.app (.cons s (.nil _))) (by simp; omega))
          · have q3 : ly.length = d := Nat.le_antisymm o2 q2
            have yf : y ∈ far := (B.ffar _ my).mpr q3
            by_cases c : x = y
            · rw [c]
              exact List.mem_append_left _ (mem_keys my)
            · obtain ⟨g, hg, e1, e2, e3, e4⟩ := s
              obtain ⟨ex, hex, q4⟩ := adj_exits (gs := gs) (bar := bar) (x := y) (y := x) ⟨g, hg, by rw [e1]; exact e2, e3, e4⟩ c
              have := k y yf ex hex
              rw [q4, keys_app] at this
              exact this
    · exact List.mem_append_left _ (B.all x m hx q)
  · rcases List.mem_append.mp hp with hp | hp
    · obtain ⟨h1, h2, h3⟩ := B.ok p hp
      constructor
      · intro z
        have n := h.nod
        rw [keys_app] at n
        exact absurd rfl ((List.nodup_append.mp n).2.2 _ (mem_keys hp) _ z)
      · intro z
        omega
    · exact ⟨fun _ => (h.ok p hp).2, fun _ => mem_keys hp⟩
  · rw [keys_app]
    exact List.mem_append_right _ hx
/-- how far the search still can go -/
def bmeas (rs : List Str) (t : Tab) (far : List Str) : Nat := 2 * (rs.length - t.length) + (if far = [] then 0 else 1)
theorem BOk.len {d : Nat} {t : Tab} {far : List Str} (B : BOk gs bar rs one d t far) : t.length ≤ rs.length := by
  have := nodup_le B.nod B.sub
  unfold keysT at this
  rw [List.length_map] at this
  exact this
theorem BOk.less {d : Nat} {t add : Tab} {far : List Str} (B : BOk gs bar rs one d t far) (hf : far ≠ []) (C : BOk gs bar rs one (d + 1) (t ++ add) (keysT add)) : bmeas rs (t ++ add) (keysT add) < bmeas rs t far := by
  have l1 := C.len
  unfold bmeas
  rw [if_neg hf]
  rw [List.length_append] at l1 ⊢
  by_cases e : add = []
  · subst e
    simp [keysT]
  · have : keysT add ≠ [] := fun z => e (by unfold keysT at z; exact List.map_eq_nil_iff.mp z)
    rw [if_neg this]
    have : 0 < add.length := List.length_pos_iff.mpr e
    omega
theorem bfs_stop {t : Tab} {far : List Str} (h : far = [] ∨ other ∈ keysT t) : ∀ n, bfs gs bar other n t far = t
  | 0 => rfl
  | n + 1 => by
    unfold bfs
    rw [if_pos h]
/-- where the search stops, it has found what there is -/
theorem BOk.stop {d : Nat} {t : Tab} {far : List Str} (B : BOk gs bar rs one d t far) (h : far = [] ∨ other ∈ keysT t) : Conn gs bar one other → other ∈ keysT t := by
  intro c
  rcases h with h | h
  · obtain ⟨l, hl⟩ := c.path
    clear c
    have key : ∀ {x : Str} {l : Pth}, SPath gs bar one l x → x ∈ keysT t := fun {x l} h' => by
      have : ∀ (k : Nat) (x : Str) (l : Pth), l.length = k → SPath gs bar one l x → x ∈ keysT t := fun k => by
        induction k with
        | zero => exact fun x l e hx => B.all x l hx (by omega)
        | succ k ih =>
          intro x l e hx
          rcases List.eq_nil_or_concat l with rfl | ⟨m', p, rfl⟩
          · simp at e
          · obtain ⟨n, z⟩ := p
            rw [List.concat_eq_append] at hx e
            obtain ⟨y, h1, h2⟩ := hx.split
            cases h2 with
            | cons s s2 =>
              cases s2
              have yk := ih y m' (by simp at e; omega) h1
              obtain ⟨ly, ey⟩ := get_some yk
              have my := get_mem ey
              obtain ⟨o1, o2, o3⟩ := B.ok _ my
              have nf : ly.length ≠ d := fun q => by
                have := (B.ffar _ my).mpr q
                rw [h] at this
                cases this
              have o2 : ly.length ≤ d := o2
              exact B.all _ (ly ++ [(n, x)]) (o1.app (.cons s (.nil _))) (by simp; omega)
      exact this _ x l rfl h'
    exact key hl
  · exact h
/-- the mirror's run is the invariant's -/
theorem bfs_ok (hm : ∀ g ∈ gs, ∀ z ∈ g.2.1, z ∈ rs) : ∀ (n d : Nat) (t : Tab) (far : List Str), BOk gs bar rs one d t far → bmeas rs t far ≤ n → ∃ d' far', BOk gs bar rs one d' (bfs gs bar other n t far) far' ∧ (far' = [] ∨ other ∈ keysT (bfs gs bar other n t far))
  | 0, d, t, far, B, h => by
    refine ⟨d, far, B, .inl ?_⟩
    unfold bmeas at h
    by_cases c : far = []
    · exact c
    · rw [if_neg c] at h
      omega
  | n + 1, d, t, far, B, h => by
    by_cases c : far = [] ∨ other ∈ keysT t
    · rw [bfs_stop c]
      exact ⟨d, far, B, c⟩
    · obtain ⟨add, e, C⟩ := B.next hm
      have l := B.less (fun z => c (.inl z)) C
      unfold bfs
      rw [if_neg c, e]
      exact bfs_ok hm n (d + 1) (t ++ add) (keysT add) C (Nat.le_of_lt_succ (Nat.lt_of_lt_of_le l h))
theorem bmeas_first : bmeas rs [(one, [])] [one] ≤ 2 * rs.length + 2 := by
  unfold bmeas
  simp
  omega
/-- shortest, or none where there is no path -/
theorem spath_none (hm : ∀ g ∈ gs, ∀ z ∈ g.2.1, z ∈ rs) (ho : one ∈ rs) : spath gs bar rs one other = none ↔ ¬ Conn gs bar one other := by
  obtain ⟨d, far, B, s⟩ := bfs_ok (other := other) hm _ 0 _ _ (BOk.first (gs := gs) (bar := bar) ho) bmeas_first
  unfold spath
  constructor
  · intro h c
    obtain ⟨l, e⟩ := get_some (B.stop s c)
    rw [e] at h
    cases h
  · intro h
    refine get_none fun z => h ?_
    obtain ⟨l, e⟩ := get_some z
    exact (B.ok _ (get_mem e)).1.conn
theorem spath_some (hm : ∀ g ∈ gs, ∀ z ∈ g.2.1, z ∈ rs) (ho : one ∈ rs) {l : Pth} (h : spath gs bar rs one other = some l) : SPath gs bar one l other ∧ ∀ m, SPath gs bar one m other → l.length ≤ m.length := by
  obtain ⟨d, far, B, s⟩ := bfs_ok (other := other) hm _ 0 _ _ (BOk.first (gs := gs) (bar := bar) ho) bmeas_first
  obtain ⟨h1, _, h3⟩ := B.ok _ (get_mem h)
  exact ⟨h1, h3⟩
theorem SPath.good (nd : (gs.map (·.1)).Nodup) {x y : Str} {l : Pth} (h : SPath gs bar x l y) (hl : ∀ m, SPath gs bar x m y → l.length ≤ m.length) : (x :: l.map (·.2)).Nodup ∧ (l.map (·.1)).Nodup := by
  obtain ⟨m, h1, h2, h3⟩ := simple_of nd l.length l rfl h
  by_cases c1 : (x :: l.map (·.2)).Nodup
  · by_cases c2 : (l.map (·.1)).Nodup
    · exact ⟨c1, c2⟩
    · exfalso
      obtain ⟨n, l1, l2, l3, e⟩ := twice c2
      obtain ⟨m1, p, r, rfl, e1, e2, e3⟩ := cut_map e
      obtain ⟨m2, p', m3, rfl, e4, e5, e6⟩ := cut_map e3
      obtain ⟨u, hu, hr⟩ := h.split
      obtain ⟨n1, z1⟩ := p
      obtain ⟨n2, z2⟩ := p'
      cases hr with
      | cons s1 t1 =>
        obtain ⟨v, hv, hr2⟩ := t1.split
        cases hr2 with
        | cons s2 t2 =>
          obtain ⟨g1, hg1, a1, b1, c1, d1⟩ := s1
          obtain ⟨g2, hg2, a2, b2, c2, d2⟩ := s2
          have en : n1 = n2 := by
            have e2 : n1 = n := e2
            have e5 : n2 = n := e5
            rw [e2, e5]
          obtain rfl : g1 = g2 := by_name nd hg1 hg2 (by rw [a1, a2, en])
          have := hl (m1 ++ (n1, z2) :: m3) (hu.app (.cons ⟨g1, hg1, a1, b1, c1, d2⟩ t2))
          simp at this
          omega
  · exfalso
    obtain ⟨z, l1, l2, l3, e⟩ := twice c1
    cases l1 with
    | nil =>
      rw [List.nil_append] at e
      obtain ⟨ex, er⟩ := List.cons.inj e
      subst ex
      obtain ⟨m1, p, m2, rfl, e1, e2, e3⟩ := cut_map er
      obtain ⟨n1, z1⟩ := p
      obtain rfl : z1 = x := e2
      obtain ⟨u, hu, hr⟩ := h.split
      cases hr with
      | cons s1 t1 =>
        have := hl m2 t1
        simp at this
        omega
    | cons a l1 =>
      obtain ⟨_, er⟩ := List.cons.inj e
      obtain ⟨m1, p, r, rfl, e1, e2, e3⟩ := cut_map er
      obtain ⟨m2, p', m3, rfl, e4, e5, e6⟩ := cut_map e3
      obtain ⟨n1, z1⟩ := p
      obtain ⟨n2, z2⟩ := p'
      obtain rfl : z1 = z := e2
      obtain rfl : z2 = z1 := e5
      obtain ⟨u, hu, hr⟩ := h.split
      cases hr with
      | cons s1 t1 =>
        obtain ⟨v, hv, hr2⟩ := t1.split
        cases hr2 with
        | cons s2 t2 =>
          have := hl (m1 ++ (n1, z2) :: m3) (hu.app (.cons s1 t2))
          simp at this
          omega
/-- a shortest path is a path in which nothing comes twice -/
theorem spath_good (nd : (gs.map (·.1)).Nodup) (hm : ∀ g ∈ gs, ∀ z ∈ g.2.1, z ∈ rs) (ho : one ∈ rs) {l : Pth} (h : spath gs bar rs one other = some l) : GoodP gs bar rs one l ∧ lastOf one l = other := by
  obtain ⟨h1, h2⟩ := spath_some hm ho h
  obtain ⟨h3, h4⟩ := h1.good nd h2
  exact ⟨⟨⟨_, h1⟩, h3, h4, h1.sub hm⟩, h1.end_.symm⟩
end
end WT

set_option Elab.async false
set_option linter.all false
namespace WT
open PySem PySem.Spec PyProof.Rows L2
/-- the dict of the search in memory -/
def TabAt (one : Str) (H : Hp) (kvs : List (Key × V)) (t : Tab) : Prop := Paired (fun (kv : Key × V) (p : Str × Pth) => kv.1 = Sum.inr p.1 ∧ ∃ a, kv.2 = .ref a ∧ H a = some (.tup (pathV one p.2))) kvs t
theorem TabAt.same {one : Str} {H H' : Hp} {kvs : List (Key × V)} {t : Tab} (h : TabAt one H kvs t) (s : ∀ c xs, H c = some (.tup xs) → H' c = some (.tup xs)) : TabAt one H' kvs t :=
  Paired.mapP h fun _ _ ⟨e, a, e1, e2⟩ => ⟨e, a, e1, s _ _ e2⟩
theorem TabAt.none_ {one : Str} {H : Hp} {x : Str} : ∀ {kvs : List (Key × V)} {t : Tab}, TabAt one H kvs t → x ∉ keysT t → valV kvs (Sum.inr x) = none
  | _, _, .nil, _ => rfl
  | _, _, .cons (a := kv) (b := p) r t, h => by
    rw [valV_neg fun e => h (by
      rw [r.1] at e
      cases e
      exact List.mem_cons_self)]
    exact TabAt.none_ t fun z => h (List.mem_cons_of_mem _ z)
theorem TabAt.some_ {one : Str} {H : Hp} {x : Str} {l : Pth} : ∀ {kvs : List (Key × V)} {t : Tab}, TabAt one H kvs t → tabGet t x = some l → ∃ a, valV kvs (Sum.inr x) = some (.ref a) ∧ H a = some (.tup (pathV one l))
  | _, _, .nil, h => by cases h
  | _, _, .cons (a := kv) (b := p) r t, h => by
    unfold tabGet at h
    by_cases c : p.1 = x
    · rw [if_pos c] at h
      cases h
      obtain ⟨e, a, e1, e2⟩ := r
      exact ⟨a, by rw [valV_pos (by rw [e, c]), e1], e2⟩
    · rw [if_neg c] at h
      rw [valV_neg fun e => c (by
        rw [r.1] at e
        cases e
        rfl)]
      exact TabAt.some_ t h
theorem TabAt.put {one : Str} {H : Hp} {kvs : List (Key × V)} {t : Tab} {x : Str} {l : Pth} {a : Addr} (h : TabAt one H kvs t) (hx : x ∉ keysT t) (ha : H a = some (.tup (pathV one l))) : putK kvs (Sum.inr x) (.ref a) = kvs ++ [(Sum.inr x, .ref a)] ∧ TabAt one H (kvs ++ [(Sum.inr x, .ref a)]) (t ++ [(x, l)]) :=
  ⟨putK_new _ (h.none_ hx), pair_snoc h ⟨rfl, a, rfl, ha⟩⟩
theorem BMid.len {gs : List Gt} {bar rs : List Str} {one : Str} {d : Nat} {t add : Tab} {far : List Str} (h : BMid gs bar rs one d t add) (B : BOk gs bar rs one d t far) : (t ++ add).length ≤ rs.length := by
  have := nodup_le (rs := rs) h.nod fun x hx => by
    rw [keys_app] at hx
    rcases List.mem_append.mp hx with hx | hx
    · exact B.sub x hx
    · exact h.sub x hx
  unfold keysT at this
  rw [List.length_map] at this
  exact this
/-- a path, or None -/
def PathRes (one : Str) (H : Hp) (v : V) : Option Pth → Prop
  | none => v = .non
  | some l => ∃ t, v = .ref t ∧ H t = some (.tup (pathV one l))
theorem PathRes.same {one : Str} {H H' : Hp} {v : V} {o : Option Pth} (h : PathRes one H v o) (s : Same H H') : PathRes one H' v o := by
  cases o with
  | none => exact h
  | some l =>
    obtain ⟨t, e1, e2⟩ := h
    exact ⟨t, e1, s _ _ e2⟩
end WT

set_option Elab.async false
set_option linter.all false
set_option maxRecDepth 100000
set_option maxHeartbeats 4000000
/-! min(xs, key=len, default=None), xs a list of tuples. -/
namespace WT
open PySem PySem.Spec PyProof.Rows L2
def lenAt (ts : List (Addr × List V)) (i : Nat) : Int := ((ts[i]?).map fun t => (t.2.length : Int)).getD 0
/-- the first of the shortest, or None -/
def tMinLen (K : PySem.W.Frag) (ta : TA) : TE := fun σ H Q => ta σ H fun vs H1 => ∃ (a : Addr) (ts : List (Addr × List V)), vs = [.ref a] ∧ SqL K H1 a (ts.map fun t => V.ref t.1) ∧ (∀ t ∈ ts, SqT K H1 t.1 t.2) ∧ (ts = [] → Q .non H1) ∧ ∀ t ∈ ts, (∀ u ∈ ts, t.2.length ≤ u.2.length) → Q (.ref t.1) H1
section
variable {X : Cx}
/-- what stood, stands -/
def Grown (s s' : Shared) : Prop := ∃ (h' : Heap) (tk : Nat), s' = { s with heap := h', toks := tk } ∧ ∀ b o, s.heap.get? b = some o → h'.get? b = some o
theorem Grown.moved {s s1 s2 : Shared} {ch : List Addr} (g : Grown s s1) (m : Moved ch (fun a b => b = a) s1 s2) (hc : ∀ b ∈ ch, s.heap.objs.size ≤ b) : Grown s s2 := by
  obtain ⟨h', tk, rfl, k⟩ := g
  refine ⟨s2.heap, s2.toks, ?_, fun b o e => m.heap b o (fun hb => absurd (Heap.lt_size e) (Nat.not_lt.mpr (hc b hb))) (k b o e)⟩
  obtain ⟨h2, g2, d2, t2, o2⟩ := s2
  have e1 := m.gens
  have e2 := m.drawn
  have e3 := m.os
  simp only at e1 e2 e3
  subst e1 e2 e3
  rfl
theorem run_minLen {pins : List (Addr × Obj)} {σ : L2.St} {H : Hp} {s : Shared} {Q : VK} {a : Addr} {ts : List (Addr × List V)} (hh : X.A.handled = none) (I : Inv X pins σ H s) (hl : SqL X.K H a (ts.map fun t => V.ref t.1)) (ht : ∀ t ∈ ts, SqT X.K H t.1 t.2)
    (h0 : ts = [] → Q .non H) (h1 : ∀ t ∈ ts, (∀ u ∈ ts, t.2.length ≤ u.2.length) → Q (.ref t.1) H) :
    wpAny (model X.prog X.w) X.A (call (.builtin "min") [.ref a] [(Str.ofString "key", .builtin "len"), (Str.ofString "default", .none)]) (EP X pins σ Q) X.xe s := by
  obtain ⟨its, rv, pl, hz⟩ := I.list hl
  have hlen : its.length = ts.length := by
    have := rv.length
    rw [List.length_map] at this
    exact this.symm
  have at_ : ∀ (i : Nat) (v : Value), its.toArray[i]? = some v → ∃ t, ts[i]? = some t ∧ v = .ref t.1 := fun i v hv => by
    have hv : its[i]? = some v := by simpa using hv
    have hi : i < ts.length := by
      have := (List.getElem?_eq_some_iff.mp hv).1
      omega
    obtain ⟨u, hu, ru⟩ := rv.get (i := i) (x := .ref ts[i].1) (by rw [List.getElem?_map, List.getElem?_eq_getElem hi]; rfl)
    rw [hv] at hu
    cases hu
    exact ⟨ts[i], List.getElem?_eq_getElem hi, ru⟩
  refine call_min_walkKBD (PySem.W.iter_listW (A := X.A.in1) hh pl.isList fun s2 e2 W hst hfp hnew hold => ?_)
  have hbig : ∀ b ∈ s2.heap.objs.size :: [s.heap.objs.size], s.heap.objs.size ≤ b := fun b hb => by
    rcases List.mem_cons.mp hb with rfl | hb
    · rw [e2]
      show s.heap.objs.size ≤ (s.heap.push _).objs.size
      rw [Heap.size_push]
      exact Nat.le_succ _
    · rw [List.mem_singleton.mp hb]
      exact Nat.le_refl _
  refine ⟨s.heap.objs.size, _, _, _, _, _, _, Grown s, fun i k _ => ∃ t, k = .int (lenAt ts i) t, fun i j => decide (lenAt ts i < lenAt ts j), rfl, W, hst, hfp, ?_, ⟨s2.heap, s2.toks, by rw [e2], hold⟩, fun hn s' g => ?_, fun hn v s' hv g => ?_⟩
  · refine ⟨fun s1 s' g m => g.moved m hbig, fun i k s1 s' h _ => h, fun i v s1 o Q' E' hi hv g st hS hQ => ?_, fun i j ki kj s1 Q' E' g hi hj hQ => ?_⟩
    · obtain ⟨t, hti, rfl⟩ := at_ i v hv
      obtain ⟨us, ru, pt, hz2⟩ := I.tuple (ht t (List.mem_of_getElem? hti))
      obtain ⟨h', tk, rfl, k⟩ := g
      refine len_tuple (pt.keeps k) ?_ (hQ _ _ ⟨h', tk + 1 + 1, rfl, k⟩ st hS ⟨tk + 1, ?_⟩ fun j k' hj => hj)
      · have l1 := ru.length
        have l2 := line63
        simp
        omega
      · have l1 := ru.length
        unfold lenAt
        rw [hti]
        simp [l1]
    · obtain ⟨t, rfl⟩ := hi
      obtain ⟨u, rfl⟩ := hj
      exact wpAny_lt_int hQ
  · have : ts = [] := by
      rw [List.size_toArray] at hn
      exact List.length_eq_zero_iff.mp (by omega)
    obtain ⟨h', tk, rfl, k⟩ := g
    exact ⟨.non, H, I.kept (t' := tk) k, rfl, h0 this⟩
  · obtain ⟨t, hti, rfl⟩ := at_ _ v hv
    obtain ⟨h', tk, rfl, k⟩ := g
    have best := argBest_lt (lenAt ts) (its.toArray.size - 1)
    refine ⟨.ref t.1, H, I.kept (t' := tk) k, rfl, h1 t (List.mem_of_getElem? hti) fun u hu => ?_⟩
    obtain ⟨j, hj, ej⟩ := List.getElem_of_mem hu
    have b := best.2 j (by rw [List.size_toArray]; omega)
    have e1 : lenAt ts j = (u.2.length : Int) := by
      unfold lenAt
      rw [List.getElem?_eq_getElem hj, ej]
      rfl
    have e2 : lenAt ts (argBest (fun i j => decide (lenAt ts i < lenAt ts j)) (its.toArray.size - 1)) = (t.2.length : Int) := by
      unfold lenAt at hti ⊢
      rw [hti]
      rfl
    rw [e1, e2] at b
    omega
theorem pe_minLen {e : Expr} {ta : TA} {p p2 k1 k2 k3 pos : Pos} {j : Nat} (hcalm : X.calm = true) (hg : Gl X "min") (hm : X.mg "min" = none) (hg2 : Gl X "len") (hm2 : X.mg "len" = none) (ha : PA X [e] ta)
    (hst : backTo pos (starEach [e] X.env) = (false, eval e X.env) :: backTo pos (starEach [] X.env) := by rfl) (hpl : (backTo pos (starEach [e] X.env)).any (·.1) = false := by rfl) :
    PE X (.Call (.Name "min" p) [e] [⟨some "key", .Name "len" p2, k1⟩, ⟨some "default", .Constant .none j k2, k3⟩] pos) (tMinLen X.K ta) := by
  refine ⟨fun pins s σ H Q I h => ?_⟩
  refine wpAny_Call_Name_kw (ld_blt I hg hm boot_min ?_)
  refine PyProof.Rows.callWith_kw (thn (ha.run pos pins s σ H _ I h) fun us s1 ⟨vs, H1, I1, r1, q1⟩ => ?_) hst hpl
  obtain ⟨a, ts, rfl, hl, ht, h0, h1⟩ := q1
  have ea := Vals.ref1 r1
  subst ea
  show wpAny _ _ (evalAll ((do let v ← eval (.Name "len" p2) X.env; standAt pos; pure v) :: (backToKw pos (keywordEach [⟨some "default", .Constant .none j k2, k3⟩] X.env)).map (·.2))) _ _ s1
  refine wpAny_evalAll_cons (wpAny_bind (ld_blt I1 hg2 hm2 boot_len (wpAny_bind (wpAny_standAt (wpAny_pure ?_)))))
  refine thn ((pk_cons pe_non pk_nil).run pos pins s1 σ H1 (fun vs H2 => vs = [.non] ∧ H2 = H1) I1 ⟨rfl, rfl⟩) fun ws s2 ⟨zs, H2, I2, r2, e2, e3⟩ => ?_
  subst e2 e3
  obtain ⟨u, rfl, ru⟩ := vals1 r2
  obtain rfl : u = Value.none := ru
  exact run_minLen (I2.ok.hd hcalm) I2 hl ht h0 h1
end
end WT

set_option Elab.async false
set_option linter.all false
set_option maxRecDepth 100000
set_option maxHeartbeats 4000000
/-! min(xs, key=len, default=None), told by the place: the first of the shortest. -/
namespace WT
open PySem PySem.Spec PyProof.Rows L2
def lenL (ns : List Nat) (i : Nat) : Int := ((ns[i]?).map fun n => (n : Int)).getD 0
/-- the place of the first of the least -/
def bestIx (ns : List Nat) : Nat := argBest (fun i j => decide (lenL ns i < lenL ns j)) (ns.length - 1)
theorem bestIx_ok (ns : List Nat) (h : ns ≠ []) : ∃ n, ns[bestIx ns]? = some n ∧ ∀ m ∈ ns, n ≤ m := by
  have b := argBest_lt (lenL ns) (ns.length - 1)
  have hl : 0 < ns.length := List.length_pos_iff.mpr h
  have hi : bestIx ns < ns.length := by
    have := b.1
    unfold bestIx
    omega
  refine ⟨ns[bestIx ns], List.getElem?_eq_getElem hi, fun m hm => ?_⟩
  obtain ⟨j, hj, ej⟩ := List.getElem_of_mem hm
  have c := b.2 j (by omega)
  have e1 : lenL ns j = (m : Int) := by
    unfold lenL
    rw [List.getElem?_eq_getElem hj, ej]
    rfl
  have e2 : lenL ns (bestIx ns) = (ns[bestIx ns] : Int) := by
    conv => lhs; unfold lenL
    rw [List.getElem?_eq_getElem hi]
    rfl
  have c2 : lenL ns (bestIx ns) ≤ lenL ns j := c
  rw [e1, e2] at c2
  omega
theorem lenAt_L (ts : List (Addr × List V)) : lenAt ts = lenL (ts.map fun t => t.2.length) := by
  funext i
  unfold lenAt lenL
  rw [List.getElem?_map]
  cases ts[i]? <;> rfl
def tMinLenI (K : PySem.W.Frag) (ta : TA) : TE := fun σ H Q => ta σ H fun vs H1 => ∃ (a : Addr) (ts : List (Addr × List V)), vs = [.ref a] ∧ SqL K H1 a (ts.map fun t => V.ref t.1) ∧ (∀ t ∈ ts, SqT K H1 t.1 t.2) ∧ (ts = [] → Q .non H1) ∧ ∀ t, ts[bestIx (ts.map fun t => t.2.length)]? = some t → Q (.ref t.1) H1
section
variable {X : Cx}
theorem run_minLenI {pins : List (Addr × Obj)} {σ : L2.St} {H : Hp} {s : Shared} {Q : VK} {a : Addr} {ts : List (Addr × List V)} (hh : X.A.handled = none) (I : Inv X pins σ H s) (hl : SqL X.K H a (ts.map fun t => V.ref t.1)) (ht : ∀ t ∈ ts, SqT X.K H t.1 t.2)
    (h0 : ts = [] → Q .non H) (h1 : ∀ t, ts[bestIx (ts.map fun t => t.2.length)]? = some t → Q (.ref t.1) H) :
    wpAny (model X.prog X.w) X.A (call (.builtin "min") [.ref a] [(Str.ofString "key", .builtin "len"), (Str.ofString "default", .none)]) (EP X pins σ Q) X.xe s := by
  obtain ⟨its, rv, pl, hz⟩ := I.list hl
  have hlen : its.length = ts.length := by
    have := rv.length
    rw [List.length_map] at this
    exact this.symm
  have at_ : ∀ (i : Nat) (v : Value), its.toArray[i]? = some v → ∃ t, ts[i]? = some t ∧ v = .ref t.1 := fun i v hv => by
    have hv : its[i]? = some v := by simpa using hv
    have hi : i < ts.length := by
      have := (List.getElem?_eq_some_iff.mp hv).1
      omega
    obtain ⟨u, hu, ru⟩ := rv.get (i := i) (x := .ref ts[i].1) (by rw [List.getElem?_map, List.getElem?_eq_getElem hi]; rfl)
    rw [hv] at hu
    cases hu
    exact ⟨ts[i], List.getElem?_eq_getElem hi, ru⟩
  refine call_min_walkKBD (PySem.W.iter_listW (A := X.A.in1) hh pl.isList fun s2 e2 W hst hfp hnew hold => ?_)
  have hbig : ∀ b ∈ s2.heap.objs.size :: [s.heap.objs.size], s.heap.objs.size ≤ b := fun b hb => by
    rcases List.mem_cons.mp hb with rfl | hb
    · rw [e2]
      show s.heap.objs.size ≤ (s.heap.push _).objs.size
      rw [Heap.size_push]
      exact Nat.le_succ _
    · rw [List.mem_singleton.mp hb]
      exact Nat.le_refl _
  refine ⟨s.heap.objs.size, _, _, _, _, _, _, Grown s, fun i k _ => ∃ t, k = .int (lenAt ts i) t, fun i j => decide (lenAt ts i < lenAt ts j), rfl, W, hst, hfp, ?_, ⟨s2.heap, s2.toks, by rw [e2], hold⟩, fun hn s' g => ?_, fun hn v s' hv g => ?_⟩
  · refine ⟨fun s1 s' g m => g.moved m hbig, fun i k s1 s' h _ => h, fun i v s1 o Q' E' hi hv g st hS hQ => ?_, fun i j ki kj s1 Q' E' g hi hj hQ => ?_⟩
    · obtain ⟨t, hti, rfl⟩ := at_ i v hv
      obtain ⟨us, ru, pt, hz2⟩ := I.tuple (ht t (List.mem_of_getElem? hti))
      obtain ⟨h', tk, rfl, k⟩ := g
      refine len_tuple (pt.keeps k) ?_ (hQ _ _ ⟨h', tk + 1 + 1, rfl, k⟩ st hS ⟨tk + 1, ?_⟩ fun j k' hj => hj)
      · have l1 := ru.length
        have l2 := line63
        simp
        omega
      · have l1 := ru.length
        unfold lenAt
        rw [hti]
        simp [l1]
    · obtain ⟨t, rfl⟩ := hi
      obtain ⟨u, rfl⟩ := hj
      exact wpAny_lt_int hQ
  · have : ts = [] := by
      rw [List.size_toArray] at hn
      exact List.length_eq_zero_iff.mp (by omega)
    obtain ⟨h', tk, rfl, k⟩ := g
    exact ⟨.non, H, I.kept (t' := tk) k, rfl, h0 this⟩
  · obtain ⟨t, hti, rfl⟩ := at_ _ v hv
    obtain ⟨h', tk, rfl, k⟩ := g
    refine ⟨.ref t.1, H, I.kept (t' := tk) k, rfl, h1 t ?_⟩
    unfold bestIx
    rw [← lenAt_L, List.length_map, ← hlen]
    exact hti
theorem pe_minLenI {e : Expr} {ta : TA} {p p2 k1 k2 k3 pos : Pos} {j : Nat} (hcalm : X.calm = true) (hg : Gl X "min") (hm : X.mg "min" = none) (hg2 : Gl X "len") (hm2 : X.mg "len" = none) (ha : PA X [e] ta)
    (hst : backTo pos (starEach [e] X.env) = (false, eval e X.env) :: backTo pos (starEach [] X.env) := by rfl) (hpl : (backTo pos (starEach [e] X.env)).any (·.1) = false := by rfl) :
    PE X (.Call (.Name "min" p) [e] [⟨some "key", .Name "len" p2, k1⟩, ⟨some "default", .Constant .none j k2, k3⟩] pos) (tMinLenI X.K ta) := by
  refine ⟨fun pins s σ H Q I h => ?_⟩
  refine wpAny_Call_Name_kw (ld_blt I hg hm boot_min ?_)
  refine PyProof.Rows.callWith_kw (thn (ha.run pos pins s σ H _ I h) fun us s1 ⟨vs, H1, I1, r1, q1⟩ => ?_) hst hpl
  obtain ⟨a, ts, rfl, hl, ht, h0, h1⟩ := q1
  have ea := Vals.ref1 r1
  subst ea
  show wpAny _ _ (evalAll ((do let v ← eval (.Name "len" p2) X.env; standAt pos; pure v) :: (backToKw pos (keywordEach [⟨some "default", .Constant .none j k2, k3⟩] X.env)).map (·.2))) _ _ s1
  refine wpAny_evalAll_cons (wpAny_bind (ld_blt I1 hg2 hm2 boot_len (wpAny_bind (wpAny_standAt (wpAny_pure ?_)))))
  refine thn ((pk_cons pe_non pk_nil).run pos pins s1 σ H1 (fun vs H2 => vs = [.non] ∧ H2 = H1) I1 ⟨rfl, rfl⟩) fun ws s2 ⟨zs, H2, I2, r2, e2, e3⟩ => ?_
  subst e2 e3
  obtain ⟨u, rfl, ru⟩ := vals1 r2
  obtain rfl : u = Value.none := ru
  exact run_minLenI (I2.ok.hd hcalm) I2 hl ht h0 h1
end
end WT

set_option Elab.async false
set_option linter.all false
set_option maxRecDepth 100000
set_option maxHeartbeats 4000000
namespace WT
open PySem PySem.Spec PyProof.Rows L2
/-! ### the cycle that cycle_through finds, as a function -/
def ltS (a b : Str) : Bool := decide (a.cps.toList < b.cps.toList)
def rowP (ms : List Str) (a : Str) : List (Str × Str) := (ms.filter (ltS a)).map fun b => (a, b)
def pairsP (ms : List Str) : List (Str × Str) := ms.flatMap (rowP ms)
def askP (gs : List Gt) (rs : List Str) (x : Str) (p : Str × Str) : Str × Option Pth := (p.1, spath gs [x] rs p.1 p.2)
def fsOf (ps : List (Str × Option Pth)) : List (Str × Pth) := ps.filterMap fun p => p.2.map fun l => (p.1, l)
def plen (f : Str × Pth) : Nat := (pathV f.1 f.2).length
def bestF (fs : List (Str × Pth)) : Option (Str × Pth) := fs[bestIx (fs.map plen)]?
def cycOf (x : Str) (f : Str × Pth) : List (Str × Str) := (lastOf f.1 f.2, x) :: ((f.1 :: f.2.map (·.2)).dropLast.zip (f.2.map (·.1)))
def cycT (gs : List Gt) (rs : List Str) (g : Gt) : Option (List (Str × Str)) := (bestF (fsOf ((pairsP g.2.1).map (askP gs rs g.1)))).map (cycOf g.1)
def wrapsG (gs : List Gt) : List Gt := gs.filter fun g : Gt => decide (g.2.2 = ("wrap" : Str))
def cycsW (gs : List Gt) (rs : List Str) : List (List (Str × Str)) := (wrapsG gs).filterMap (cycT gs rs)
def scyc (gs : List Gt) (rs : List Str) : Option (List (Str × Str)) := (cycsW gs rs)[bestIx ((cycsW gs rs).map List.length)]?
theorem best_none {fs : List (Str × Pth)} : bestF fs = none ↔ fs = [] := by
  constructor
  · intro h
    by_cases c : fs = []
    · exact c
    · obtain ⟨n, h1, _⟩ := bestIx_ok (fs.map plen) (by simpa using c)
      rw [List.getElem?_map] at h1
      unfold bestF at h
      rw [h] at h1
      cases h1
  · rintro rfl
    rfl
theorem best_some {fs : List (Str × Pth)} {f : Str × Pth} (h : bestF fs = some f) : f ∈ fs ∧ ∀ u ∈ fs, f.2.length ≤ u.2.length := by
  refine ⟨List.mem_of_getElem? h, fun u hu => ?_⟩
  obtain ⟨n, h1, h2⟩ := bestIx_ok (fs.map plen) (by
    intro z
    rw [List.map_eq_nil_iff.mp z] at hu
    cases hu)
  rw [List.getElem?_map] at h1
  unfold bestF at h
  rw [h] at h1
  cases h1
  have := h2 (plen u) (List.mem_map.mpr ⟨u, hu, rfl⟩)
  unfold plen at this
  rw [pathV_len, pathV_len] at this
  omega
theorem mem_pairs {ms : List Str} {a b : Str} : (a, b) ∈ pairsP ms ↔ a ∈ ms ∧ b ∈ ms ∧ a.cps.toList < b.cps.toList := by
  unfold pairsP rowP
  rw [List.mem_flatMap]
  constructor
  · rintro ⟨x, hx, h⟩
    obtain ⟨y, hy, e⟩ := List.mem_map.mp h
    cases e
    obtain ⟨h1, h2⟩ := List.mem_filter.mp hy
    exact ⟨hx, h1, of_decide_eq_true h2⟩
  · rintro ⟨h1, h2, h3⟩
    exact ⟨a, h1, List.mem_map.mpr ⟨b, List.mem_filter.mpr ⟨h2, decide_eq_true h3⟩, rfl⟩⟩
theorem mem_fs {gs : List Gt} {rs : List Str} {x : Str} {ms : List Str} {a : Str} {l : Pth} : (a, l) ∈ fsOf ((pairsP ms).map (askP gs rs x)) ↔ ∃ b, a ∈ ms ∧ b ∈ ms ∧ a.cps.toList < b.cps.toList ∧ spath gs [x] rs a b = some l := by
  unfold fsOf
  rw [List.mem_filterMap]
  constructor
  · rintro ⟨p, hp, h⟩
    obtain ⟨⟨a', b⟩, hq, rfl⟩ := List.mem_map.mp hp
    obtain ⟨l', e1, e2⟩ := Option.map_eq_some_iff.mp h
    cases e2
    obtain ⟨h1, h2, h3⟩ := mem_pairs.mp hq
    exact ⟨b, h1, h2, h3, e1⟩
  · rintro ⟨b, h1, h2, h3, h4⟩
    refine ⟨(a, some l), List.mem_map.mpr ⟨(a, b), mem_pairs.mpr ⟨h1, h2, h3⟩, ?_⟩, rfl⟩
    unfold askP
    rw [h4]
section
variable {gs : List Gt} {bar rs : List Str}
theorem Step.rev {x n z : Str} (h : Step gs bar x n z) : Step gs bar z n x := by
  obtain ⟨g, h1, h2, h3, h4, h5⟩ := h
  exact ⟨g, h1, h2, h3, h5, h4⟩
theorem SPath.rev {x y : Str} {l : Pth} (h : SPath gs bar x l y) : ∃ l', l'.length = l.length ∧ SPath gs bar y l' x := by
  induction h with
  | nil x => exact ⟨[], rfl, .nil x⟩
  | @cons x n z y l s _ ih =>
    obtain ⟨l', h1, h2⟩ := ih
    exact ⟨l' ++ [(n, x)], by simp [h1], h2.app (.cons s.rev (.nil _))⟩
theorem SPath.at_ {x y : Str} {l : Pth} (h : SPath gs bar x l y) : ∀ (i : Nat) (n z : Str), l[i]? = some (n, z) → ∃ u, (x :: l.map (·.2))[i]? = some u ∧ Step gs bar u n z := by
  induction h with
  | nil x => intro i n z h; cases h
  | @cons x n0 z0 y l s _ ih =>
    intro i n z h
    cases i with
    | zero =>
      cases h
      exact ⟨x, rfl, s⟩
    | succ i =>
      obtain ⟨u, h1, h2⟩ := ih i n z h
      exact ⟨u, h1, h2⟩
end
/-- the length of some cycle through the gateway -/
def CycLn (gs : List Gt) (rs : List Str) (g : Gt) (n : Nat) : Prop := ∃ a ∈ g.2.1, ∃ b ∈ g.2.1, b ≠ a ∧ ∃ l, GoodP gs [g.1] rs a l ∧ lastOf a l = b ∧ n = 1 + l.length
/-- the gateway called n has the regions a and b as members -/
def Has (gs : List Gt) (n a b : Str) : Prop := ∃ g ∈ gs, g.1 = n ∧ a ∈ g.2.1 ∧ b ∈ g.2.1
structure IsCyc (gs : List Gt) (rs : List Str) (c : List (Str × Str)) : Prop where
  two : 2 ≤ c.length
  reg : (c.map (·.1)).Nodup
  gat : (c.map (·.2)).Nodup
  join : ∀ (i : Nat) (q : Str × Str) (z : Str), c[i]? = some q → ((c.map (·.1)).tail ++ (c.map (·.1)).take 1)[i]? = some z → Has gs q.2 q.1 z
  short : c.length ≤ rs.length
theorem last_initD {α : Type} : ∀ (l : List α) (d : α), (d :: l).dropLast ++ [l.getLastD d] = d :: l
  | [], d => rfl
  | x :: l, d => by
    rw [List.getLastD_cons]
    show d :: ((x :: l).dropLast ++ [l.getLastD x]) = _
    rw [last_initD l x]
theorem last_init (a : Str) (l : Pth) : (a :: l.map (·.2)).dropLast ++ [lastOf a l] = a :: l.map (·.2) := last_initD _ _
theorem zip_maps (a : Str) (l : Pth) : ((a :: l.map (·.2)).dropLast.zip (l.map (·.1))).map (·.1) = (a :: l.map (·.2)).dropLast ∧ ((a :: l.map (·.2)).dropLast.zip (l.map (·.1))).map (·.2) = l.map (·.1) := by
  have e : (a :: l.map (·.2)).dropLast.length = (l.map (·.1)).length := by simp
  exact ⟨List.map_fst_zip (Nat.le_of_eq e), List.map_snd_zip (Nat.le_of_eq e.symm)⟩
section
variable {gs : List Gt} {rs : List Str}
theorem cycOf_len (x : Str) (f : Str × Pth) : (cycOf x f).length = 1 + f.2.length := by
  unfold cycOf
  rw [List.length_cons, List.length_zip]
  simp
  omega
theorem cycOf_ok (nd : (gs.map (·.1)).Nodup) (hm : ∀ g ∈ gs, ∀ z ∈ g.2.1, z ∈ rs) {g : Gt} (hg : g ∈ gs) {a b : Str} {l : Pth} (ha : a ∈ g.2.1) (hb : b ∈ g.2.1) (ne : a ≠ b) (G : GoodP gs [g.1] rs a l) (e : lastOf a l = b) : IsCyc gs rs (cycOf g.1 (a, l)) := by
  obtain ⟨m1, m2⟩ := zip_maps a l
  have i1 := last_init a l
  have lpos : 0 < l.length := by
    cases l with
    | nil => exact absurd e ne
    | cons _ _ => simp
  have sp : SPath gs [g.1] a l b := by
    rw [← e]
    exact G.last
  refine ⟨by rw [cycOf_len]; show 2 ≤ 1 + l.length; omega, ?_, ?_, fun i q z hq hz => ?_, ?_⟩
  · unfold cycOf
    rw [List.map_cons, m1]
    have p : (lastOf a l :: (a :: l.map (·.2)).dropLast).Perm (a :: l.map (·.2)) := by
      have := List.perm_append_comm (l₁ := [lastOf a l]) (l₂ := (a :: l.map (·.2)).dropLast)
      rw [i1] at this
      exact this
    exact p.nodup_iff.mpr G.reg
  · unfold cycOf
    rw [List.map_cons, m2]
    refine List.nodup_cons.mpr ⟨fun z => ?_, G.gat⟩
    obtain ⟨p, hp, ep⟩ := List.mem_map.mp z
    obtain ⟨i, hi, ei⟩ := List.getElem_of_mem hp
    obtain ⟨n, z2⟩ := p
    obtain ⟨u, _, g2, _, e3, e4, _⟩ := sp.at_ i n z2 (by rw [List.getElem?_eq_getElem hi, ei])
    have ep : n = g.1 := ep
    exact e4 (by rw [ep]; simp)
  · unfold cycOf at hq hz
    rw [List.map_cons, m1, List.tail_cons] at hz
    have hz : ((a :: l.map (·.2)).dropLast ++ [lastOf a l])[i]? = some z := hz
    rw [i1] at hz
    cases i with
    | zero =>
      cases hq
      cases hz
      refine ⟨g, hg, rfl, ?_, ha⟩
      show lastOf a l ∈ g.2.1
      rw [e]
      exact hb
    | succ i =>
      have hq : ((a :: l.map (·.2)).dropLast.zip (l.map (·.1)))[i]? = some q := hq
      have hz : (l.map (·.2))[i]? = some z := hz
      obtain ⟨h1, h2⟩ := List.getElem?_zip_eq_some.mp hq
      rw [List.getElem?_map] at hz h2
      obtain ⟨⟨n, z'⟩, e1, e2⟩ := Option.map_eq_some_iff.mp hz
      rw [e1] at h2
      have e2 : z' = z := e2
      have h2 : n = q.2 := Option.some.inj h2
      obtain ⟨u, e3, g2, f1, f2, f3, f4, f5⟩ := sp.at_ i n z' e1
      have hu : u = q.1 := by
        have : (a :: l.map (·.2)).dropLast[i]? = (a :: l.map (·.2))[i]? := by
          have hlt := (List.getElem?_eq_some_iff.mp h1).1
          rw [List.getElem?_dropLast]
          rw [if_pos]
          rw [List.length_dropLast] at hlt
          exact hlt
        rw [this, e3] at h1
        exact Option.some.inj h1
      exact ⟨g2, f1, by rw [f2, h2], by rw [← hu]; exact f4, by rw [← e2]; exact f5⟩
  · rw [cycOf_len]
    have := G.len (hm g hg a ha)
    show 1 + l.length ≤ rs.length
    omega
theorem cycT_none (hm : ∀ g ∈ gs, ∀ z ∈ g.2.1, z ∈ rs) {g : Gt} (hg : g ∈ gs) : cycT gs rs g = none ↔ ¬ ∃ a ∈ g.2.1, ∃ b ∈ g.2.1, a.cps.toList < b.cps.toList ∧ Conn gs [g.1] a b := by
  unfold cycT
  rw [Option.map_eq_none_iff, best_none]
  constructor
  · rintro h ⟨a, ha, b, hb, lt, c⟩
    cases e : spath gs [g.1] rs a b with
    | none => exact (spath_none hm (hm g hg a ha)).mp e c
    | some l =>
      have : (a, l) ∈ fsOf ((pairsP g.2.1).map (askP gs rs g.1)) := mem_fs.mpr ⟨b, ha, hb, lt, e⟩
      rw [h] at this
      cases this
  · intro h
    refine List.eq_nil_iff_forall_not_mem.mpr fun f hf => h ?_
    obtain ⟨a, l⟩ := f
    obtain ⟨b, h1, h2, h3, h4⟩ := mem_fs.mp hf
    exact ⟨a, h1, b, h2, h3, (spath_some hm (hm g hg a h1) h4).1.conn⟩
/-- what cycle_through finds is a shortest cycle through the gateway -/
theorem cycT_some (nd : (gs.map (·.1)).Nodup) (hm : ∀ g ∈ gs, ∀ z ∈ g.2.1, z ∈ rs) {g : Gt} (hg : g ∈ gs) {c : List (Str × Str)} (h : cycT gs rs g = some c) : IsCyc gs rs c ∧ g.1 ∈ c.map (·.2) ∧ CycLn gs rs g c.length ∧ ∀ n, CycLn gs rs g n → c.length ≤ n := by
  unfold cycT at h
  obtain ⟨⟨a, l⟩, hb, rfl⟩ := Option.map_eq_some_iff.mp h
  obtain ⟨hf, hmin⟩ := best_some hb
  obtain ⟨b, h1, h2, h3, h4⟩ := mem_fs.mp hf
  obtain ⟨G, e⟩ := spath_good nd hm (hm g hg a h1) h4
  refine ⟨cycOf_ok nd hm hg h1 h2 (str_irrefl h3) G e, by unfold cycOf; simp, ⟨a, h1, b, h2, (str_irrefl h3).symm, l, G, e, by rw [cycOf_len]⟩, fun n hn => ?_⟩
  obtain ⟨a', ha', b', hb', ne, m, Gm, em, rfl⟩ := hn
  have sp : SPath gs [g.1] a' m b' := by
    rw [← em]
    exact Gm.last
  rw [cycOf_len]
  show 1 + l.length ≤ 1 + m.length
  rcases str_tri a' b' with q | q | q
  · cases e2 : spath gs [g.1] rs a' b' with
    | none => exact absurd sp.conn ((spath_none hm (hm g hg a' ha')).mp e2)
    | some l2 =>
      have k1 := hmin (a', l2) (mem_fs.mpr ⟨b', ha', hb', q, e2⟩)
      have k2 := (spath_some hm (hm g hg a' ha') e2).2 m sp
      have k1 : l.length ≤ l2.length := k1
      omega
  · exact absurd q.symm ne
  · obtain ⟨m', el, sp'⟩ := sp.rev
    cases e2 : spath gs [g.1] rs b' a' with
    | none => exact absurd sp'.conn ((spath_none hm (hm g hg b' hb')).mp e2)
    | some l2 =>
      have k1 := hmin (b', l2) (mem_fs.mpr ⟨a', hb', ha', q, e2⟩)
      have k2 := (spath_some hm (hm g hg b' hb') e2).2 m' sp'
      have k1 : l.length ≤ l2.length := k1
      omega
theorem scyc_none : scyc gs rs = none ↔ ∀ g ∈ wrapsG gs, cycT gs rs g = none := by
  unfold scyc
  constructor
  · intro h g hg
    cases e : cycT gs rs g with
    | none => rfl
    | some c =>
      have hc : c ∈ cycsW gs rs := List.mem_filterMap.mpr ⟨g, hg, e⟩
      obtain ⟨n, h1, _⟩ := bestIx_ok ((cycsW gs rs).map List.length) (by
        intro z
        rw [List.map_eq_nil_iff.mp z] at hc
        cases hc)
      rw [List.getElem?_map, h] at h1
      cases h1
  · intro h
    have : cycsW gs rs = [] := by
      refine List.eq_nil_iff_forall_not_mem.mpr fun c hc => ?_
      obtain ⟨g, hg, e⟩ := List.mem_filterMap.mp hc
      rw [h g hg] at e
      cases e
    rw [this]
    rfl
theorem scyc_some {c : List (Str × Str)} (h : scyc gs rs = some c) : (∃ g ∈ wrapsG gs, cycT gs rs g = some c) ∧ ∀ g ∈ wrapsG gs, ∀ c', cycT gs rs g = some c' → c.length ≤ c'.length := by
  unfold scyc at h
  have hc := List.mem_of_getElem? h
  obtain ⟨g, hg, e⟩ := List.mem_filterMap.mp hc
  refine ⟨⟨g, hg, e⟩, fun g' hg' c' e' => ?_⟩
  have hc' : c' ∈ cycsW gs rs := List.mem_filterMap.mpr ⟨g', hg', e'⟩
  obtain ⟨n, h1, h2⟩ := bestIx_ok ((cycsW gs rs).map List.length) (by
    intro z
    rw [List.map_eq_nil_iff.mp z] at hc
    cases hc)
  rw [List.getElem?_map, h] at h1
  cases h1
  exact h2 _ (List.mem_map.mpr ⟨c', hc', rfl⟩)
end
theorem pick_same {α β : Type} {f g : α → Option β} : ∀ l : List α, (∀ m ∈ l, f m = g m) → l.filterMap f = l.filterMap g
  | [], _ => rfl
  | x :: l, h => by
    rw [List.filterMap_cons, List.filterMap_cons, h x List.mem_cons_self, pick_same l fun m hm => h m (List.mem_cons_of_mem _ hm)]
theorem step_init (one : Str) (l : Pth) : stepL (pathV one l) none (some (-1)) 2 = ((one :: l.map (·.2)).dropLast).map V.str := by
  have h := pick_all (((one :: l.map (·.2)).dropLast).map V.str)
  have dl : (((one :: l.map (·.2)).dropLast).map V.str).length = l.length := by simp
  have e0 : (Builtin.Slice.sliceAdjust none (some (-1)) 2 ((pathV one l).length : Int)).1 = 0 := rfl
  have e : Builtin.Slice.slicePlaces (Builtin.Slice.sliceAdjust none (some (-1)) 2 ((pathV one l).length : Int)).1 (Builtin.Slice.sliceAdjust none (some (-1)) 2 ((pathV one l).length : Int)).2 2 = l.length := by
    rw [e0, pathV_len]
    unfold Builtin.Slice.slicePlaces Builtin.Slice.sliceAdjust
    simp
    omega
  unfold stepL
  rw [e]
  rw [dl] at h
  refine Eq.trans (pick_same _ fun m hm => ?_) h
  have hm := List.mem_range.mp hm
  rw [e0, show ((0 : Int) + (m : Int) * 2).toNat = 2 * m by omega, pathV_even, List.getElem?_map, List.getElem?_map, List.getElem?_dropLast, if_pos (by simp; omega)]
/-- a cycle in memory, or None -/
def CycRes (H : Hp) (v : V) : Option (List (Str × Str)) → Prop
  | none => v = .non
  | some c => ∃ p us, v = .ref p ∧ H p = some (.tup (us.map V.ref)) ∧ Paired (fun u (q : Str × Str) => H u = some (.tup [.str q.1, .str q.2])) us c
theorem CycRes.same {H H' : Hp} {v : V} {o : Option (List (Str × Str))} (h : CycRes H v o) (s : Same H H') : CycRes H' v o := by
  cases o with
  | none => exact h
  | some l =>
    obtain ⟨p, us, e1, e2, e3⟩ := h
    exact ⟨p, us, e1, s _ _ e2, Paired.mapP e3 fun _ _ z => s _ _ z⟩
theorem pair_zip {H : Hp} : ∀ {us : List Addr} {rs ns : List Str}, Paired (fun t (q : V × V) => H t = some (.tup [q.1, q.2])) us ((rs.map V.str).zip (ns.map V.str)) → Paired (fun u (q : Str × Str) => H u = some (.tup [.str q.1, .str q.2])) us (rs.zip ns)
  | us, [], ns, h => by
    simp at h ⊢
    cases h
    exact .nil
  | us, r :: rs, [], h => by
    simp at h ⊢
    cases h
    exact .nil
  | us, r :: rs, n :: ns, h => by
    rw [List.map_cons, List.map_cons, List.zip_cons_cons] at h
    cases h with
    | cons h t => exact .cons h (pair_zip t)
end WT

set_option Elab.async false
set_option linter.all false
set_option maxRecDepth 100000
set_option maxHeartbeats 4000000
namespace WT
open PySem PySem.Spec PyProof.Rows L2
section
variable {X : Cx}
/-- b is not c, two booleans -/
theorem op_notB : OpR X (compareOp .IsNot) (fun x y H Q => ∃ c d : Bool, x = .bl c ∧ y = .bl d ∧ Q (.bl (c != d)) H) := by
  intro pins s σ H x y v u Q I rx ry h
  obtain ⟨c, d, rfl, rfl, q⟩ := h
  cases rx
  cases ry
  exact isnot_bool (fin_bl I q rfl)
theorem op_eqDK {K : PySem.W.Frag} (hu : X.A.units + 64 < cLine) (hK : X.K = K := by rfl) : OpR X (compareOp .Eq) (rEqD K) := by
  subst hK
  exact op_eqD hu
end
theorem merge_new : ∀ (more kvs : List (Key × V)), ((kvs ++ more).map (·.1)).Nodup → mergeK kvs more = kvs ++ more
  | [], kvs, _ => by
    rw [List.append_nil]
    rfl
  | m :: more, kvs, h => by
    have hn : m.1 ∉ kvs.map (·.1) := fun z => by
      rw [List.map_append] at h
      exact (List.nodup_append.mp h).2.2 _ z m.1 (by simp) rfl
    have e : putK kvs m.1 m.2 = kvs ++ [m] := putK_new _ (valV_none hn)
    have := merge_new more (kvs ++ [m]) (by rw [List.append_assoc]; exact h)
    rw [List.append_assoc] at this
    show mergeK (putK kvs m.1 m.2) more = _
    rw [e]
    exact this
theorem next_mod {c : List (Str × Str)} {i : Nat} (hi : i < c.length) : ((c.map (·.1)).tail ++ (c.map (·.1)).take 1)[i]? = (c[(i + 1) % c.length]?).map (·.1) := by
  cases c with
  | nil => simp at hi
  | cons c0 ct =>
    rw [List.length_cons] at hi ⊢
    show (ct.map (·.1) ++ [c0.1])[i]? = _
    by_cases h : i < ct.length
    · rw [Nat.mod_eq_of_lt (by omega), List.getElem?_append_left (by rw [List.length_map]; exact h), List.getElem?_map]
      rfl
    · obtain rfl : i = ct.length := by omega
      rw [Nat.mod_self, List.getElem?_append_right (by rw [List.length_map]; exact Nat.le_refl _), List.length_map, Nat.sub_self]
      rfl
def cycD (c : List (Str × Str)) : PyData := .tuple (c.map fun q => .tuple [.str q.1, .str q.2])
theorem dp_pairs {K : PySem.W.Frag} {H : Hp} : ∀ {us : List Addr} {c : List (Str × Str)}, Paired (fun u (q : Str × Str) => H u = some (.tup [.str q.1, .str q.2])) us c → DpAll K H (us.map V.ref) (c.map fun q => PyData.tuple [.str q.1, .str q.2])
  | _, _, .nil => .nil
  | _, _, .cons h t => .cons (.tup (SqT.of h) (.cons (.str _) (.cons (.str _) .nil))) (dp_pairs t)
theorem lay_pairs : ∀ c : List (Str × Str), (∀ q ∈ c, PyData.strOk q.1 = true ∧ PyData.strOk q.2 = true) → PyData.canLayAll0 (c.map fun q => PyData.tuple [.str q.1, .str q.2]) = true ∧ PyData.depthAll (c.map fun q => PyData.tuple [.str q.1, .str q.2]) ≤ 1
  | [], _ => ⟨by rw [List.map_nil, PyData.canLayAll0], by rw [List.map_nil, PyData.depthAll]; exact Nat.zero_le _⟩
  | q :: c, h => by
    obtain ⟨h1, h2⟩ := lay_pairs c fun x hx => h x (List.mem_cons_of_mem _ hx)
    obtain ⟨g1, g2⟩ := h q List.mem_cons_self
    have d := lay_strs [q.1, q.2] fun s hs => by
      have : s = q.1 ∨ s = q.2 := by simpa using hs
      rcases this with e | e
      · rw [e]; exact g1
      · rw [e]; exact g2
    have e : ([PyData.str q.1, PyData.str q.2] : List PyData) = [q.1, q.2].map PyData.str := rfl
    rw [List.map_cons, PyData.canLayAll0, PyData.depthAll, h1, PyData.canLay0, PyData.depth, e, d.1, d.2]
    exact ⟨rfl, Nat.max_le.mpr ⟨by decide, h2⟩⟩
theorem shaped_cyc {c : List (Str × Str)} (h : ∀ q ∈ c, PyData.strOk q.1 = true ∧ PyData.strOk q.2 = true) : SeqAt.shaped (cycD c) = true := by
  obtain ⟨h1, h2⟩ := lay_pairs c h
  unfold SeqAt.shaped cycD
  rw [PyData.canLay0, PyData.depth, h1]
  simp
  omega
theorem fit_small : ∀ n : Nat, n < 20 → (PyData.int (n : Int)).showable = true ∧ (PyData.int (n : Int)).depth ≤ 60 ∧ (PyData.int (n : Int)).shown.length ≤ sizeLine := by
  have : ∀ n : Fin 20, (PyData.int ((n.1 : Nat) : Int)).showable = true ∧ (PyData.int ((n.1 : Nat) : Int)).depth ≤ 60 ∧ (PyData.int ((n.1 : Nat) : Int)).shown.length ≤ sizeLine := by decide +kernel
  exact fun n h => this ⟨n, h⟩
end WT

set_option Elab.async false
set_option linter.all false
set_option maxRecDepth 100000
set_option maxHeartbeats 4000000
/-! values of any kind: x in a list or tuple of texts, isinstance. -/
namespace PySem.SeqAt
open AutoSeq1 (wpAny_loadPart')
open MeetsSeq
/-- a text declines to be compared with a dict -/
theorem txt_declines (b : Str) (u : Tok) (l : Addr) (di : Option Addr) (es : Array DictEntry) (ep : Nat) (sl : Array (Option Value)) : Meets (Builtin.«str.__eq__» ⟨[.str b u, .ref l], []⟩) (fun _ Rr st => st.heap.get? l = some { cls := .type "dict", dict := di, data := .dict es ep, slots := sl } ∧ Rr (.ok (.ret .notImplemented)) st) :=
  .of_wp fun pr wd Ar Rr st hyp => by
    obtain ⟨hh, gg, dd, tt, oo⟩ := st
    obtain ⟨hl, hyp⟩ := hyp
    wp_walk using wpAny_loadPart' hl, wpAny_load hl
    exact ⟨_, rfl, hyp⟩
theorem dict_declines (l : Addr) (b : Str) (u : Tok) (ob : Obj) : Meets (Builtin.«dict.__eq__» ⟨[.ref l, .str b u], []⟩) (fun _ Rr st => st.heap.get? l = some ob ∧ ob.cls = .type "dict" ∧ Rr (.ok (.ret .notImplemented)) st) :=
  .of_wp fun pr wd Ar Rr st hyp => by
    obtain ⟨hh, gg, dd, tt, oo⟩ := st
    obtain ⟨hl, hc, hyp⟩ := hyp
    obtain ⟨cl, di, da, sl⟩ := ob
    have hc : cl = .type "dict" := hc
    subst hc
    have f1 := F.sub_str_dict
    wp_walk using wpAny_loadPart' hl, wpAny_load hl
    exact ⟨_, rfl, hyp⟩
end PySem.SeqAt
namespace PySem.SeqAt
section
variable {A : Around} {s : Shared}
theorem eqAt_txt_dict {l : Addr} {ob : Obj} {es : Array DictEntry} {ep : Nat} (b : Str) (u : Tok) (ho : s.heap.get? l = some ob) (hc : ob.cls = .type "dict") (hd : ob.data = .dict es ep) (hu : A.units < cLine) : EqAt A s (.str b u) (.ref l) false := fun pr wd Er Q hq => by
  have rc : ∀ Q' : Value → Shared → Prop, Q' (.bool false) s → wpAny (model pr wd) A (richCompare .Eq (.str b u) (.ref l)) Q' Er s := fun Q' hq' => by
    obtain ⟨cl, di, da, sl⟩ := ob
    simp only at hc hd
    subst hc hd
    refine rc_eq_decline_or (k := false) (typeIs_str s b u) ⟨_, ho, rfl⟩ (by decide) F.sub_dict_str F.slot_str_eq F.slot_dict_eq_refl (fun _ z => ?_) (fun _ z => ?_) (fun _ z => wpAny_of_eq (rfl : isSame (.str b u) (.ref l) = pure false) z) (.inr hu) hq'
    · exact call_meets F.slot_str_eq (typeIs_str s b u) F.entry_str_eq (F.args_str_eq_2 _ _) (txt_declines b u l di es ep sl) ⟨ho, z⟩
    · exact call_meets F.slot_dict_eq_refl ⟨_, ho, rfl⟩ F.entry_dict_eq (F.args_dict_eq_2 _ _) (dict_declines l b u _) ⟨ho, rfl, z⟩
  unfold eqBool
  refine wpAny_holding (wpAny_ite_split (fun hab => absurd (eq_of_beq hab) nofun) (fun _ => ?_))
  exact wpAny_bind (rc _ (wpAny_truthy_bool hq))
end
end PySem.SeqAt
namespace WT
open PySem PySem.Spec PyProof.Rows L2
/-- the data is a text among these -/
def isIn (d : PyData) (ss : List Str) : Bool := match d with
  | .str s => decide (s ∈ ss)
  | _ => false
/-- what an item, a text, answers -/
def eqT (d : PyData) (u : Value) : Bool := match d, u with
  | .str s, .str z _ => z == s
  | _, _ => false
theorem any_eqT (d : PyData) : ∀ {ss : List Str} {us : List Value}, Vals (ss.map V.str) us → us.any (eqT d) = isIn d ss
  | [], _, r => by
    cases r
    cases d <;> rfl
  | s :: ss, _, r => by
    cases r with
    | @cons _ u _ us r t =>
      obtain ⟨tk, rfl⟩ := r
      rw [List.any_cons, any_eqT d t]
      cases d <;> first | rfl | skip
      rename_i z
      show ((s == z) || decide (z ∈ ss)) = decide (z ∈ s :: ss)
      by_cases c : s = z
      · subst c
        simp
      · have c2 : ¬ z = s := fun q => c q.symm
        simp [c, c2]
section
variable {X : Cx} {pins : List (Addr × Obj)} {σ : L2.St} {H : Hp} {s : Shared}
theorem all_eqT (I : Inv X pins σ H s) (hu : X.A.units < cLine) {x : V} {d : PyData} {v : Value} (hd : Dt X.K H x d) (rx : RelV x v) {A : Around} (hA : A.units < cLine) : ∀ {ss : List Str} {us : List Value}, Vals (ss.map V.str) us → ∀ u ∈ us, SeqAt.EqAt A s u v (eqT d u)
  | [], _, r => by
    cases r
    exact fun u hu => by cases hu
  | z :: ss, _, r => by
    cases r with
    | @cons _ u0 _ us r t =>
      intro u hu'
      rcases List.mem_cons.mp hu' with rfl | hu'
      · obtain ⟨tk, rfl⟩ := r
        cases hd with
        | non =>
          cases rx
          exact SeqAt.EqAt.str_none z tk
        | bl b =>
          cases rx
          exact SeqAt.EqAt.str_bool z tk b
        | int i =>
          obtain ⟨t2, rfl⟩ := rx
          exact SeqAt.EqAt.str_int z tk i t2
        | str y =>
          obtain ⟨t2, rfl⟩ := rx
          exact SeqAt.EqAt.str_str z tk y t2
        | lst h _ =>
          cases rx
          obtain ⟨its, _, pl, _⟩ := I.list h
          exact SeqAt.EqAt.str_list z tk pl.isList hA
        | tup h _ =>
          cases rx
          obtain ⟨its, _, pl, _⟩ := I.tuple h
          exact SeqAt.EqAt.str_tuple z tk pl hA
        | dic h _ =>
          cases rx
          obtain ⟨_, _, us2, _, o, es, ep, ho, hx, hdt, _⟩ := dk_rd I.hok h
          exact SeqAt.eqAt_txt_dict z tk ho hx.1 hdt hA
      · exact all_eqT I hu hd rx hA t u hu'
/-- x in a list or a tuple of texts, x any value -/
def rInA (K : PySem.W.Frag) (neg : Bool) : R2 := fun x y H Q => ∃ (p : Addr) (ss : List Str) (d : PyData), y = .ref p ∧ (SqL K H p (ss.map V.str) ∨ SqT K H p (ss.map V.str)) ∧ Dt K H x d ∧ Q (.bl (if neg then !isIn d ss else isIn d ss)) H
theorem op_inA {K : PySem.W.Frag} (hu : X.A.units + 64 < cLine) (hK : X.K = K := by rfl) : OpR X (compareOp .In) (rInA K false) := by
  subst hK
  intro pins s σ H x y v u Q I rx ry h
  obtain ⟨p, ss, d, rfl, hq, hd, q⟩ := h
  cases ry
  have hu' : X.A.units < cLine := by omega
  rcases hq with hq | hq
  · obtain ⟨its, r, pl, _⟩ := I.list hq
    refine SeqAt.in_listAt (eqT d) pl.isList (fun w hw => all_eqT I hu' hd rx ?_ r w (by simpa using hw)) ⟨.bl _, H, I, rfl, ?_⟩
    · simp
      omega
    · rw [show its.toArray.any (eqT d) = its.any (eqT d) by simp, any_eqT d r]
      exact q
  · obtain ⟨its, r, pl, _⟩ := I.tuple hq
    refine SeqAt.in_tupleAt (eqT d) pl (fun w hw => all_eqT I hu' hd rx ?_ r w (by simpa using hw)) ⟨.bl _, H, I, rfl, ?_⟩
    · simp
      omega
    · rw [show its.toArray.any (eqT d) = its.any (eqT d) by simp, any_eqT d r]
      exact q
theorem op_notInA {K : PySem.W.Frag} (hu : X.A.units + 64 < cLine) (hK : X.K = K := by rfl) : OpR X (compareOp .NotIn) (rInA K true) := by
  subst hK
  intro pins s σ H x y v u Q I rx ry h
  obtain ⟨p, ss, d, rfl, hq, hd, q⟩ := h
  cases ry
  have hu' : X.A.units < cLine := by omega
  rcases hq with hq | hq
  · obtain ⟨its, r, pl, _⟩ := I.list hq
    refine SeqAt.notIn_listAt (eqT d) pl.isList (fun w hw => all_eqT I hu' hd rx ?_ r w (by simpa using hw)) ⟨.bl _, H, I, rfl, ?_⟩
    · simp
      omega
    · rw [show its.toArray.any (eqT d) = its.any (eqT d) by simp, any_eqT d r]
      exact q
  · obtain ⟨its, r, pl, _⟩ := I.tuple hq
    refine SeqAt.notIn_tupleAt (eqT d) pl (fun w hw => all_eqT I hu' hd rx ?_ r w (by simpa using hw)) ⟨.bl _, H, I, rfl, ?_⟩
    · simp
      omega
    · rw [show its.toArray.any (eqT d) = its.any (eqT d) by simp, any_eqT d r]
      exact q
end
/-- the kind of data -/
def tyD : PyData → String
  | .none => "NoneType"
  | .bool _ => "bool"
  | .int _ => "int"
  | .str _ => "str"
  | .list _ => "list"
  | .tuple _ => "tuple"
  | .dict _ => "dict"
theorem tyX_of {K : PySem.W.Frag} {H : Hp} {x : V} {d : PyData} (h : Dt K H x d) : TyX K H x (.type (tyD d)) := by
  cases h with
  | non => exact .base .non
  | bl b => exact .base (.bl b)
  | int i => exact .base (.int i)
  | str z => exact .base (.str z)
  | lst h _ =>
    rcases h with (h | ⟨o, h⟩) | ⟨o, its, n, h, hc, _⟩
    · exact .base (.lst h)
    · exact .base (.frz h)
    · exact .kList h hc
  | tup h _ =>
    rcases h with (h | ⟨o, h⟩) | ⟨o, its, n, h, hc, _⟩
    · exact .base (.tup h)
    · exact .fTuple h
    · exact .kTuple h hc
  | dic h _ =>
    rcases h with h | ⟨o, h⟩
    · exact .base (.dK h)
    · exact .fDict h
/-- isinstance(x, T), x any value -/
def rIsiA (K : PySem.W.Frag) : List V → Hp → VK → Prop := fun xs H Q => ∃ (x : V) (T : String) (d : PyData) (b : Bool), xs = [x, .ty T] ∧ Dt K H x d ∧ kitB (tyD d) T = some b ∧ Q (.bl b) H
theorem call_isiA {X : Cx} {K : PySem.W.Frag} (hK : X.K = K := by rfl) : CallR X (.builtin "isinstance") (rIsiA K) := by
  subst hK
  intro pins s σ H xs us Q I r h
  obtain ⟨x, T, d, b, rfl, hd, hk, q⟩ := h
  exact call_isi pins s σ H _ us Q I r ⟨x, .ty T, _, _, b, rfl, .ty T, tyX_of hd, kit_ty hk, q⟩
def isTup : PyData → Bool
  | .tuple _ => true
  | _ => false
def isTxt : PyData → Bool
  | .str _ => true
  | _ => false
theorem kit_tuple : ∀ d : PyData, kitB (tyD d) "tuple" = some (isTup d)
  | .none => show kitB "NoneType" "tuple" = some false by decide +kernel
  | .bool _ => show kitB "bool" "tuple" = some false by decide +kernel
  | .int _ => show kitB "int" "tuple" = some false by decide +kernel
  | .str _ => show kitB "str" "tuple" = some false by decide +kernel
  | .list _ => show kitB "list" "tuple" = some false by decide +kernel
  | .tuple _ => show kitB "tuple" "tuple" = some true by decide +kernel
  | .dict _ => show kitB "dict" "tuple" = some false by decide +kernel
theorem kit_str : ∀ d : PyData, kitB (tyD d) "str" = some (isTxt d)
  | .none => show kitB "NoneType" "str" = some false by decide +kernel
  | .bool _ => show kitB "bool" "str" = some false by decide +kernel
  | .int _ => show kitB "int" "str" = some false by decide +kernel
  | .str _ => show kitB "str" "str" = some true by decide +kernel
  | .list _ => show kitB "list" "str" = some false by decide +kernel
  | .tuple _ => show kitB "tuple" "str" = some false by decide +kernel
  | .dict _ => show kitB "dict" "str" = some false by decide +kernel
end WT

set_option Elab.async false
set_option linter.all false
set_option maxRecDepth 100000
set_option maxHeartbeats 2000000
/-! an error that is caught under a name and kept beyond the clause. -/
namespace WT
open PySem PySem.Spec PyProof.Rows L2
/-- an object that was caught stands at a: its class, its dict -/
def cxo (a : Addr) (cls : Value) (d : Option Addr) : HO := .ext fun h => ∃ (oe : Obj) (vs : Array Value), h.get? a = some oe ∧ Zc cls d oe ∧ oe.data = .fields vs
theorem cxo_ok {P : Program} {w : World} {H : Hp} {h : Heap} {a : Addr} {cls : Value} {d : Option Addr} {oe : Obj} {vs : Array Value} (e : h.get? a = some oe) (z : Zc cls d oe) (hd : oe.data = .fields vs) : ObjOk P w H h a (cxo a cls d) :=
  ⟨⟨oe, vs, e, z, hd⟩, ⟨oe, e⟩, fun _ _ ⟨o, v, q, r⟩ k => ⟨o, v, k o q, r⟩⟩
section
variable {X : Cx} {pins : List (Addr × Obj)} {σ : L2.St} {H : Hp} {s : Shared}
/-- an object that nobody tracks, and that was not there at the start, may be tracked from now on -/
theorem inv_track {a : Addr} {u : HO} (I : Inv X pins σ H s) (na : H a = none) (n0 : X.s_0.heap.get? a = none) (nL : a ≠ X.env.locals) (nC : ∀ x c, X.env.cells.lookup x = some c → c ≠ a) (nP : ∀ p ∈ X.pn ++ pins, p.1 ≠ a)
    (ho : ObjOk X.prog X.w (upd H a u) s.heap a u) : Inv X pins σ (upd H a u) s := by
  have ne0 : ∀ b o, X.s_0.heap.get? b = some o → b ≠ a := fun b o e z => by
    rw [z, n0] at e
    cases e
  have neS : ∀ b o, H b = some o → b ≠ a := fun b o e => ne_of_none e na
  refine ⟨I.ok, I.os, I.bare, ⟨I.base.keep, I.base.slot, fun b o e n hq => ?_, I.base.there, fun b xs e => ?_, fun b o v e => ?_, fun b ps e => ?_⟩, I.loc, I.cell, ?_, fun x c e => ?_, fun p hp => ?_, fun b v e => ?_, I.len⟩
  · rw [upd_ne (ne0 b o e)]
    exact I.base.free b o e n hq
  · have q := I.base.tups b xs e
    rw [upd_ne (neS _ _ q)]
    exact q
  · have q := I.base.frzs b o v e
    rw [upd_ne (neS _ _ q)]
    exact q
  · obtain ⟨m, q⟩ := I.base.tbls b ps e
    exact ⟨m, by rw [upd_ne (neS _ _ q)]; exact q⟩
  · rw [upd_ne (Ne.symm nL)]
    exact I.free
  · rw [upd_ne (nC x c e)]
    exact I.freeC x c e
  · obtain ⟨e, n, r⟩ := I.pin p hp
    exact ⟨e, by rw [upd_ne (nP p hp)]; exact n, r⟩
  · by_cases hb : b = a
    · subst hb
      rw [upd_same] at e
      cases e
      exact ho
    · rw [upd_ne hb] at e
      exact (I.hok b v e).stay (fun c w _ q => q) (fun c q => by rw [upd_ne (neS _ _ q)]; exact q) fun c xs q => by rw [upd_ne (neS _ _ q)]; exact q
end
/-- an error of the body is of the class c, is bound to slot i, and is tracked when the suite is through -/
def wKeep (K : PySem.W.Frag) (c : Value) (i n : Nat) (ts : Addr → Value → Option Addr → L2.TS) (D : Ends) : WX := fun cls d σ H => PySem.W.exmOne K cls c = some true ∧
  (σ.length = n → ∀ a, H a = none → ts a cls d { nx := fun σ' H' => H' a = none → D.nx (σ'.set i none) (upd H' a (cxo a cls d)), rt := fun _ _ => False, bk := fun _ _ => False, ct := fun _ _ => False } (σ.set i (some (.ref a))) H)
section
variable {X : Cx} {x n : Str} {c : Value} {i : Nat} {body suite : List Stmt} {b₀ : Stmt} {np pos pos' : Pos} {tb : WX → L2.TS} {ts : Addr → Value → Option Addr → L2.TS}
/-- where the object of an error in the air stands: none of the frames, none of the start, none of the pinned ones -/
theorem sky_new {pins : List (Addr × Obj)} {σ : L2.St} {H : Hp} {sI : Shared} {B h : Heap} {a : Addr} {Z : Obj → Prop} (J : Inv X pins σ H sI) (hs : X.stack = X.env :: X.outer) (hf : X.env.frame = some X.env.locals) (hex : X.ex = [])
    (nb : ∀ b o, sI.heap.get? b = some o → b ∉ frs X.stack → B.get? b = some o) (fl : HandSPX.FlyingZ B (X.env :: X.outer) a Z h) : a ≠ X.env.locals ∧ a ∉ X.fs ∧ X.s_0.heap.get? a = none ∧ ∀ p ∈ X.pn ++ pins, p.1 ≠ a := by
  have nfr : a ∉ frs (X.env :: X.outer) := fun hm => by
    obtain ⟨o, vs, e, _, hd⟩ := fl.there
    obtain ⟨_, o', e', q⟩ := fl.2.2.1.mem hm
    rw [e] at e'
    cases e'
    exact q _ hd
  have nI : sI.heap.get? a = none := by
    cases e : sI.heap.get? a with
    | none => rfl
    | some o =>
      have z := nb a o e (by rw [hs]; exact nfr)
      rw [show B.get? a = none from fl.2.1] at z
      cases z
  refine ⟨fun z => nfr (List.mem_filterMap.mpr ⟨X.env, List.mem_cons_self, by rw [hf, z]⟩), fun hm => ?_, ?_, fun p hp z => ?_⟩
  · obtain ⟨e, he, q⟩ := List.mem_filterMap.mp hm
    exact nfr (List.mem_filterMap.mpr ⟨e, List.mem_cons_of_mem _ he, q⟩)
  · cases e : X.s_0.heap.get? a with
    | none => rfl
    | some o =>
      obtain ⟨o', z⟩ := J.base.there a o e (by rw [hex]; exact fun z => nomatch z)
      rw [nI] at z
      cases z
  · have e := (J.pin p hp).1
    rw [z, nI] at e
    cases e
/-- behind the suite: the name goes, the object that was held apart is tracked -/
theorem keep_end {pins : List (Addr × Obj)} {σ : L2.St} {H : Hp} {s : Shared} {a : Addr} {oe : Obj} {vs : Array Value} {cls : Value} {d : Option Addr} {Q : L2.St → Hp → Prop} (ok : X.Ok) (hN : X.N.Nodup) (hi : X.N[i]? = some n) (hln : X.env.kindOf n = some .local)
    (S : Inv (X.suite a ((a, oe) :: (X.pn ++ pins))) [] σ H s) (hz : Zc cls d oe) (hd : oe.data = .fields vs) (n0 : X.s_0.heap.get? a = none) (nL : a ≠ X.env.locals) (nP : ∀ p ∈ X.pn ++ pins, p.1 ≠ a) (q : H a = none → Q (σ.set i none) (upd H a (cxo a cls d))) :
    wpAny (model X.prog X.w) X.A (do bindName X.env n .none; unbindBehindTheSuite X.env n pos') (fun _ s' => ∃ σ' H', Inv X pins σ' H' s' ∧ Q σ' H') X.xe s := by
  refine gone_ok (X := X.suite a ((a, oe) :: (X.pn ++ pins))) S hN hi hln fun s' S' => ?_
  obtain ⟨e, na, _, _, nc⟩ := S'.pin (a, oe) (List.mem_append_left _ List.mem_cons_self)
  have J : Inv X pins (σ.set i none) H s' := S'.unsuite ok
  refine ⟨_, _, inv_track J na n0 nL (fun y c' ec z => ?_) nP (cxo_ok e hz hd), q na⟩
  obtain ⟨v, o, ho, hv⟩ := J.cell y c' ec
  rw [z, show s'.heap.get? a = some oe from e] at ho
  cases ho
  exact nc v hv
theorem ps_try_keep (hs : X.stack = X.env :: X.outer) (hf : X.env.frame = some X.env.locals) (hex : X.ex = []) (hN : X.N.Nodup) (hi : X.N[i]? = some n) (hln : X.env.kindOf n = some .local) (hg : Gl X x) (hdb : (x == ("__debug__" : Str)) = false) (hm : X.mg x = some c)
    (hb : ∀ (W : WX) (pn : List (Addr × Obj)) (xe : Value → Shared → Prop), Takes (X.tr pn xe) W → PassesOwn (model X.prog X.w) X.A X.env xe → PSs (X.tr pn xe) body (tb W))
    (hsu : ∀ (a : Addr) (oe : Obj) (cls : Value) (d : Option Addr) (pn : List (Addr × Obj)), Zc cls d oe → (∃ vs, oe.data = .fields vs) → PSs (X.suite a ((a, oe) :: pn)) (b₀ :: suite) (ts a cls d)) :
    PS X (.Try body [.ExceptHandler (some (.Name x np)) (some n) (b₀ :: suite) pos'] [] [] pos) (fun D σ H => tb (wKeep X.K c i X.N.length ts D) D σ H) := by
  refine ⟨fun pins s σ H D I h => ?_⟩
  have ok := I.ok
  refine wpAny_Try_except (wpAny_mono ((hb (wKeep X.K c i X.N.length ts D) (X.pn ++ pins) _ (fun u s' xx => ?_) PassesOwn.looking).run [] s σ H D (I.toTry _) h) (fun fl s1 hsp => ?_) fun e s1 he => he)
  · obtain ⟨a, B, sI, _, σ', H', cls, d, rfl, J', nb, up, sky, na, os, ag, hx, hyes⟩ := xx
    have J : Inv X pins σ' H' sI := J'.ofTry ok
    refine Sky.land Zc.steady (by rw [ok.frames, hs]) hf (by rw [← hs]; exact sky) fun h3 fl3 up3 => ?_
    have J3 : Inv X pins σ' H' { s' with heap := h3 } := J.landed nb fl3.1 (up.trans up3) os ag
    obtain ⟨nL, nF, n0, nP⟩ := sky_new J hs hf hex nb fl3
    obtain ⟨o3, v3, e3, z3, d3⟩ := fl3.there
    refine wpAny_handleBy_cons (codeAny_handlers_test ?_) (by intro q; cases q)
    refine ld_glob (X := X.suite a ((a, o3) :: (X.pn ++ pins))) (J3.suite e3 d3 na nL nF) hg hm ?_ hdb
    refine (PySem.W.exm_one (M := model X.prog X.w) J3.kIn (fun A Q E s k q => wpAny_typeOf_ref (k _ _ e3) (by rw [z3.1]; exact q)) hx).here ?_
    refine codeAny_handlers_suite_as (HandSPX.lands_againZ fl3 fun h4 fl4 up4 => ?_)
    have J4 : Inv X pins σ' H' { s' with heap := h4 } := J.landed nb fl4.1 ((up.trans up3).trans up4) os ag
    obtain ⟨o4, v4, e4, z4, d4⟩ := fl4.there
    refine store_ok (X := X.suite a ((a, o4) :: (X.pn ++ pins))) (v := .ref a) (J4.suite e4 d4 na nL nF) hN hi (.inl hln) rfl (fun s5 S5 => ?_) (.inr hln)
    refine wpAny_mono ((hsu a o4 cls d (X.pn ++ pins) z4 ⟨_, d4⟩).run [] s5 _ H' _ S5 (hyes J.len a na)) (fun fl s6 hsp => ?_) fun _ _ z => False.elim z
    match fl, hsp with
    | .next, ⟨σ6, H6, S6, q6⟩ => exact keep_end ok hN hi hln S6 z4 d4 n0 nL nP q6
    | .brk, ⟨_, _, _, q6⟩ => exact q6.elim
    | .cont, ⟨_, _, _, q6⟩ => exact q6.elim
    | .ret _, ⟨_, _, _, _, _, q6⟩ => exact q6.elim
  · match fl, hsp with
    | .next, ⟨σ', H', J', q⟩ => exact wpAny_execs_nil ⟨σ', H', J'.ofTry ok, q⟩
    | .brk, ⟨σ', H', J', q⟩ => exact ⟨σ', H', J'.ofTry ok, q⟩
    | .cont, ⟨σ', H', J', q⟩ => exact ⟨σ', H', J'.ofTry ok, q⟩
    | .ret _, ⟨v, σ', H', J', r, q⟩ => exact ⟨v, σ', H', J'.ofTry ok, r, q⟩
end
/-! ### the error that was kept -/
/-- an error of the class at C, caught and kept, stands at a; its fields -/
def Cgt (H : Hp) (a C : Addr) (fs : List (Str × V)) : Prop := (fs = [] ∧ ∃ d, H a = some (cxo a (.ref C) d) ∧ (d = none ∨ ∃ b gs, d = some b ∧ H b = some (.xd gs))) ∨ ∃ d, H a = some (cxo a (.ref C) (some d)) ∧ H d = some (.xd fs)
theorem Cgt.same {H H' : Hp} {a C : Addr} {fs : List (Str × V)} (e : Cgt H a C fs) (s : Same H H') : Cgt H' a C fs := by
  rcases e with ⟨z, d, e, q⟩ | ⟨d, e1, e2⟩
  · refine .inl ⟨z, d, s _ _ e, ?_⟩
    rcases q with q | ⟨b, gs, q1, q2⟩
    · exact .inl q
    · exact .inr ⟨b, gs, q1, s _ _ q2⟩
  · exact .inr ⟨d, s _ _ e1, s _ _ e2⟩
section
variable {X : Cx}
theorem Cgt.at {pins : List (Addr × Obj)} {σ : L2.St} {H : Hp} {s : Shared} {a C : Addr} {fs : List (Str × V)} (e : Cgt H a C fs) (I : Inv X pins σ H s) :
    ∃ (ox : Obj) (od : Option Obj), PySem.W.InstAt s.heap a ox C od ∧ (fs ≠ [] → ∃ o, od = some o ∧ ∀ n : Str, ∃ u, PySem.W.lookIn n o = some u ∧ RelO (fs.lookup n) u) := by
  rcases e with ⟨z, d, e, q⟩ | ⟨d, e1, e2⟩
  · obtain ⟨⟨ox, vs, ho, hz, hd⟩, _, _⟩ := I.hok a _ e
    rcases q with rfl | ⟨b, gs, rfl, q⟩
    · exact ⟨ox, none, ⟨ho, hz.1, by unfold PySem.W.notCls; rw [hd], by rw [hz.2]; trivial⟩, fun y => absurd z y⟩
    · obtain ⟨mA, hns, rel⟩ := I.hok b _ q
      obtain ⟨od, hod, hl⟩ := lookIn_ns hns
      exact ⟨ox, some od, ⟨ho, hz.1, by unfold PySem.W.notCls; rw [hd], by rw [hz.2]; exact hod⟩, fun y => absurd z y⟩
  · obtain ⟨⟨ox, vs, ho, hz, hd⟩, _, _⟩ := I.hok a _ e1
    obtain ⟨mA, hns, rel⟩ := I.hok d _ e2
    obtain ⟨od, hod, hl⟩ := lookIn_ns hns
    exact ⟨ox, some od, ⟨ho, hz.1, by unfold PySem.W.notCls; rw [hd], by rw [hz.2]; exact hod⟩, fun _ => ⟨od, rfl, fun n => ⟨mA n, hl n, rel n⟩⟩⟩
/-- isinstance(e, c), e an error that was kept -/
def rIsCgt (K : PySem.W.Frag) : List V → Hp → VK → Prop := fun xs H Q => ∃ (a C : Addr) (fs : List (Str × V)) (c : V) (cv : Value) (b : Bool), xs = [.ref a, c] ∧ Cgt H a C fs ∧ ExcC K C ∧ (∀ u, RelV c u → u = cv) ∧ PySem.W.kitOne K (.ref C) cv = some b ∧ Q (.bl b) H
theorem call_isCgt : CallR X (.builtin "isinstance") (rIsCgt X.K) := by
  intro pins s σ H xs us Q I r h
  obtain ⟨a, C, fs, c, cv, b, rfl, e, T, hc, hk, q⟩ := h
  obtain ⟨u, u', rfl, rx, rt⟩ := vals2 r
  obtain rfl : u = Value.ref a := rx
  obtain rfl := hc _ rt
  obtain ⟨ox, od, J, _⟩ := e.at I
  have hcl : (PySem.W.clsIn X.K C).isSome = true := by
    obtain ⟨cd, h1, _⟩ := PySem.W.any_some T.hd
    rw [h1]
    rfl
  exact PySem.W.kia_one (PySem.W.kitx_exc (ox := ox) (od := od) hcl T.hg T.hk T.hs T.ha T.hn T.ht T.hm) I.kIn J hk (fun z => nomatch z) fun tk => ⟨.bl b, H, I.kept (t' := tk) fun _ _ z => z, rfl, q⟩
/-- e.f, e an error that was kept -/
def tCgtF (K : PySem.W.Frag) (n : Str) (te : TE) : TE := fun σ H Q => te σ H fun x H1 => ∃ (a C : Addr) (fs : List (Str × V)) (v : V), x = .ref a ∧ Cgt H1 a C fs ∧ ExcC K C ∧ PySem.W.findIn K (.ref C) n = some none ∧ fs.lookup n = some v ∧ Q v H1
theorem pe_cgtF {e : Expr} {te : TE} {pos : Pos} {n : Str} (he : PE X e te) (hb : attributeBase e n X.env (eval e X.env) = eval e X.env := by rfl) : PE X (.Attribute e n pos) (tCgtF X.K n te) := by
  refine ⟨fun pins s σ H Q I h => ?_⟩
  refine attr_of hb (thn (he.run pins s σ H _ I h) fun u s1 hh => ?_)
  obtain ⟨x, H1, I1, rx, a, C, fs, v, rfl, e1, T, hno, hl, q⟩ := hh
  obtain rfl : u = Value.ref a := rx
  obtain ⟨ox, od, J, k⟩ := e1.at I1
  obtain ⟨o, rfl, k2⟩ := k (fun z => by rw [z] at hl; cases hl)
  obtain ⟨u, hu, ru⟩ := k2 n
  rw [hl] at ru
  cases u with
  | none => exact ru.elim
  | some u =>
    exact HandSPX.exc_get I1.kIn J T.hg T.hk T.hs (PySem.W.findObj_own T.hd hno rfl hu) (handed_of ru) ⟨v, H1, I1.tok _, ru, q⟩
end
end WT
namespace WT
open PySem PySem.Spec PyProof.Rows L2 LamX
/-- a(), the lambda that was handed over, as a statement: tl is what its body's reading makes of it -/
def tAct (f c' : Addr) (q : Str) (tl : XK → Hp → VK → Prop) (W : WX) : L2.TS := fun D σ H =>
  ∃ E : XK, (∀ cls d σ' H', E cls d H' → W cls d σ' H') ∧ σ[0]? = some (some (.ref f)) ∧ H c' = some (CodeO c' q) ∧ tl E H fun _ H1 => D.nx σ H1
theorem pss_act {Z : Cx} {f c' : Addr} {q a : Str} {tl : XK → Hp → VK → Prop} {W : WX} {p1 p2 p3 : Pos}
    (act : ∀ E : XK, (∀ cls d σ' H', E cls d H' → W cls d σ' H') → PE Z (.Call (.Name a p1) [] [] p2) (fun σZ HZ Q => σZ[0]? = some (some (.ref f)) ∧ HZ c' = some (CodeO c' q) ∧ tl E HZ Q)) :
    PSs Z [.Expr (.Call (.Name a p1) [] [] p2) p3] (tAct f c' q tl W) := by
  refine ⟨fun pins s σ H D I h => ?_⟩
  obtain ⟨E, hW, h1, h2, h3⟩ := h
  exact (pss_one (ps_expr (act E hW))).run pins s σ H D I ⟨h1, h2, h3⟩
end WT

set_option Elab.async false
set_option linter.all false
set_option maxRecDepth 100000
set_option maxHeartbeats 2000000
/-! text == any value; a def that raises an own error. -/
namespace PySem.SeqAt
theorem rcAt_txt_dict {A : Around} {s : Shared} {l : Addr} {ob : Obj} {es : Array DictEntry} {ep : Nat} (b : Str) (u : Tok) (ho : s.heap.get? l = some ob) (hc : ob.cls = .type "dict") (hd : ob.data = .dict es ep) (hu : A.units < cLine) : RcAt A s (.str b u) (.ref l) false := fun pr wd Er Q' hq' => by
  obtain ⟨cl, di, da, sl⟩ := ob
  simp only at hc hd
  subst hc hd
  refine rc_eq_decline_or (k := false) (typeIs_str s b u) ⟨_, ho, rfl⟩ (by decide) F.sub_dict_str F.slot_str_eq F.slot_dict_eq_refl (fun _ z => ?_) (fun _ z => ?_) (fun _ z => wpAny_of_eq (rfl : isSame (.str b u) (.ref l) = pure false) z) (.inr hu) hq'
  · exact call_meets F.slot_str_eq (typeIs_str s b u) F.entry_str_eq (F.args_str_eq_2 _ _) (txt_declines b u l di es ep sl) ⟨ho, z⟩
  · exact call_meets F.slot_dict_eq_refl ⟨_, ho, rfl⟩ F.entry_dict_eq (F.args_dict_eq_2 _ _) (dict_declines l b u _) ⟨ho, rfl, z⟩
end PySem.SeqAt
namespace WT
open PySem PySem.Spec PyProof.Rows L2
/-- the data is this text -/
def isT (d : PyData) (z : Str) : Bool := match d with
  | .str s => z == s
  | _ => false
theorem isT_iff {d : PyData} {z : Str} : isT d z = true ↔ d = .str z := by
  cases d with
  | str s =>
    show (z == s) = true ↔ _
    rw [beq_iff_eq]
    exact ⟨fun h => by rw [h], fun h => by cases h; rfl⟩
  | _ => exact ⟨fun h => Bool.noConfusion h, fun h => PyData.noConfusion h⟩
section
variable {X : Cx}
def rEqT (K : PySem.W.Frag) : R2 := fun x y H Q => ∃ (z : Str) (d : PyData), x = .str z ∧ Dt K H y d ∧ Q (.bl (isT d z)) H
theorem op_eqTA {K : PySem.W.Frag} (hu : X.A.units + 64 < cLine) (hK : X.K = K := by rfl) : OpR X (compareOp .Eq) (rEqT K) := by
  subst hK
  intro pins s σ H x y v u Q I rx ry h
  obtain ⟨z, d, rfl, hd, q⟩ := h
  obtain ⟨tk, rfl⟩ := rx
  have hA : X.A.units < cLine := by omega
  have rc : SeqAt.RcAt X.A s (.str z tk) u (isT d z) := by
    cases hd with
    | non =>
      cases ry
      exact SeqAt.RcAt.str_none z tk
    | bl b =>
      cases ry
      exact SeqAt.RcAt.str_bool z tk b
    | int i =>
      obtain ⟨t2, rfl⟩ := ry
      exact SeqAt.RcAt.str_int z tk i t2
    | str y =>
      obtain ⟨t2, rfl⟩ := ry
      exact SeqAt.RcAt.str_str z tk y t2
    | lst h _ =>
      cases ry
      obtain ⟨its, _, pl, _⟩ := I.list h
      exact SeqAt.RcAt.str_list z tk pl.isList hA
    | tup h _ =>
      cases ry
      obtain ⟨its, _, pl, _⟩ := I.tuple h
      exact SeqAt.RcAt.str_tuple z tk pl hA
    | dic h _ =>
      cases ry
      obtain ⟨_, _, us2, _, o, es, ep, ho, hx, hdt, _⟩ := dk_rd I.hok h
      exact SeqAt.rcAt_txt_dict z tk ho hx.1 hdt hA
  exact rc _ _ _ _ ⟨.bl _, H, I, rfl, q⟩
end
/-- a def that may raise, as a caller knows it -/
structure DfX (P : Program) (w : World) (K : PySem.W.Frag) (mg : Str → Option Value) (base : Heap) (x : Str) (k : Nat) (f : Addr) (fd : FuncData) (ps : List Str) (sp : Sp) : Prop where
  g : mg x = some (.ref f)
  kp : PySem.W.keepIn K (.ref f) = true
  bd : Binds K fd ps []
  G : FnOk P w K mg base (L2.CX P w) k f fd ps sp
def sp1 (C : Addr) (f : Str) : Sp := fun vs H Q _ => ∃ (a : Addr) (v : V), vs = [.ref a, v] ∧ H a = some (exo a C none) ∧ ∀ dx, H dx = none → dx ≠ a → Q .non (upd (upd H dx (exd dx [(f, v)])) a (exo a C (some dx)))
/-- an own error with one field, as its maker knows it -/
structure Mk1 (P : Program) (w : World) (K : PySem.W.Frag) (mg : Str → Option Value) (base : Heap) (x n : Str) (C fI : Addr) (fd : FuncData) : Prop where
  g : mg x = some (.ref C)
  oex : OexC K C
  i : PySem.W.findIn K (.ref C) "__init__" = some (some (.ref fI))
  t : PySem.W.typeIn K (.ref fI) = some (.type "function")
  bd : Binds K fd ["self", n] []
  G : FnOk P w K mg base CX0 1 fI fd ["self", n] (sp1 C n)
/-- what __init__ of an own error with one field keeps -/
theorem rz_at {C : Addr} {n : Str} {v : V} {H1 : Hp} {Q : XK} (h : ∀ dx, H1 dx = none → Q (.ref C) (some dx) (upd H1 dx (.xd [(n, v)]))) : ∀ a, H1 a = none → sp1 C n (.ref a :: ([v] ++ [])) (upd H1 a (exo a C none))
    (fun u H2 => u = .non ∧ ∃ (d : Addr) (fs : List (Str × V)), H2 a = some (exo a C (some d)) ∧ H2 d = some (exd d fs) ∧ H1 d = none ∧ Q (.ref C) (some d) (upd (L2.del H2 a) d (.xd fs))) (fun _ _ _ => False) := by
  intro a na
  refine ⟨a, v, rfl, upd_same, fun dx nd ne => ⟨rfl, dx, [(n, v)], upd_same, by rw [upd_ne ne]; exact upd_same, ?_, ?_⟩⟩
  · rw [upd_ne ne] at nd
    exact nd
  · rw [upd_ne ne] at nd
    have e : upd (L2.del (upd (upd (upd H1 a (exo a C none)) dx (exd dx [(n, v)])) a (exo a C (some dx))) a) dx (.xd [(n, v)]) = upd H1 dx (.xd [(n, v)]) := by
      funext b
      by_cases h1 : b = dx
      · rw [h1, upd_same, upd_same]
      · rw [upd_ne h1, upd_ne h1]
        by_cases h2 : b = a
        · rw [h2, L2.del_same, na]
        · rw [L2.del_ne h2, upd_ne h2, upd_ne h1, upd_ne h2]
    rw [e]
    exact h dx nd
end WT

set_option Elab.async false
set_option linter.all false
set_option maxRecDepth 100000
set_option maxHeartbeats 1000000
/-! defs that raise nothing, known without the guards. -/
namespace WT
open PySem PySem.Spec PyProof.Rows L2
structure DfO (P : Program) (w : World) (K : PySem.W.Frag) (mg : Str → Option Value) (base : Heap) (x : Str) (k : Nat) (f : Addr) (fd : FuncData) (ps : List Str) (sp : Sp) : Prop where
  g : mg x = some (.ref f)
  kp : PySem.W.keepIn K (.ref f) = true
  bd : Binds K fd ps []
  G : FnOk P w K mg base CX0 k f fd ps sp
/-- a def known without the guards is known with them -/
theorem DfO.df {P : Program} {w : World} {K : PySem.W.Frag} {mg : Str → Option Value} {base : Heap} {x : Str} {k : Nat} {f : Addr} {fd : FuncData} {ps : List Str} {sp : Sp} (D : DfO P w K mg base x k f fd ps sp) : Df P w K mg base x k f fd ps sp := ⟨D.g, D.kp, D.bd, .of D.G⟩
end WT

set_option Elab.async false
set_option linter.all false
set_option maxRecDepth 100000
set_option maxHeartbeats 4000000
namespace K13
open PySem PySem.Spec PyProof.Rows L2 WT
abbrev st_exits : Stmt := top 8
theorem sc_exits : FnScope ["world", "region", "without", "ways", "name", "those", "kind", "other"] ["world", "region", "without"] (defScope st_exits) := ⟨rfl, rfl, rfl, by decide +kernel, rfl, by decide +kernel, by decide +kernel⟩
section
variable {P : Program} {w : World} {K : PySem.W.Frag} {mg : Str → Option Value} {base : Heap} {f : Addr} {fd : FuncData}
def PairAt (H : Hp) (t : Addr) (e : Str × Str) : Prop := H t = some (.tup [.str e.1, .str e.2])
/-- exits(world, region, without) -/
def spExits (K : PySem.W.Frag) : Sp := fun vs H Q _ => ∃ (wa r g wo : Addr) (as : List Addr) (rs : List Str) (gs : List Gt) (x : Str) (bar : List Str), vs = [.ref wa, .str x, .ref wo] ∧ WorldAt H wa r g as rs gs ∧ SqT K H wo (bar.map V.str) ∧ gs.length ≤ 100 ∧ (∀ g ∈ gs, g.2.1.length ≤ 100) ∧
  ∀ (H' : Hp) (p : Addr) (ts : List Addr), Same H H' → H p = none → H' p = some (.lst (ts.map V.ref)) → Paired (PairAt H') ts (exitsL gs bar x) → Q (.ref p) H'
theorem ok_exits (F : Fun K "exits" "exits" st_exits f fd) : FnOk P w K mg base CX0 1 f fd ["world", "region", "without"] (spExits K) := by
  refine F.ok sc_exits (fun vs H Q E h => ?_) (fun cdv A outer s H vs Q E hr h => ?_)
  · obtain ⟨_, _, _, _, _, _, _, _, _, rfl, _⟩ := h
    rfl
  · obtain ⟨wa, r, g, wo, as, rs, gs, x, bar, rfl, hw, hwo, hgl, hil, q⟩ := h
    refine ⟨_, (pss_cons (ps_set (i := 3) sc_exits.nd rfl (.inl rfl) (pe_lst pa_nil))
      (pss_cons (ps_for PassesOwn.never rfl (pi_tup (pe_ix ix_tup (pv 0) pe_int (fun _ _ => rfl))) (pg_tup rfl (pgs_cons (pg_name (i := 4) sc_exits.nd rfl (.inr rfl)) (pgs_cons (pg_name (i := 5) sc_exits.nd rfl (.inl rfl)) (pgs_cons (pg_name (i := 6) sc_exits.nd rfl (.inl rfl)) pgs_nil))))
       (pss_one (ps_if (PW.pt (pw_and (pt_cmpR op_in_seq (pv 1) (pv 5) (by rfl)) (pw_and1 (pt_cmpR op_notIn_seq (pv 4) (pv 2) (by rfl)))))
        (pss_one (ps_expr (pe_bm PySem.F.plainAttrs_list PySem.F.slot_list_extend PySem.F.type_list_extend mt_extend (pv 3) (pa_cons (pe_lc (own := [("other", 7)]) (by rfl) sc_exits.nd (pi_tup (pv 5)) (blkOk_by (own := [("other", 7)]) (N := ["world", "region", "without", "ways", "name", "those", "kind", "other"]) (sc := defScope st_exits) (by decide +kernel)) (fun _ _ _ _ _ => (pg_name (i := 7) sc_exits.nd rfl (.inl rfl))) (fun _ _ _ _ _ => (pts_one (pt_cmpR op_ne (pv 7) (pv 1) (nomark _)))) (fun _ _ _ _ _ => (pe_tup (pa_cons (pv 4) (pa_cons (pv 7) pa_nil))))) pa_nil))))
        pss_nil)))
      (pss_one (ps_ret (pv 3))))), ?_⟩
    refine ⟨(by show 0 ≤ sizeLine; decide), fun D nD => ?_⟩
    have z0 := same_new nD (o := .lst [])
    have hw0 := hw.same z0
    have hlen := Paired.length hw.each
    refine ⟨_, rfl, wa, _, 1, .ref g, rfl, rfl, SqT.of hw0.top, atI_nat (j := 1) rfl, g, rfl, ⟨_, SqT.of hw0.gat⟩, for_it (walk_tup (xs := as.map V.ref))
      (fun j σ H' => ∃ (v4 v5 v6 : Option V) (ts : List Addr), σ = [some (.ref wa), some (.str x), some (.ref wo), some (.ref D), v4, v5, v6, none] ∧ Same H H' ∧ H' D = some (.lst (ts.map V.ref)) ∧ Paired (PairAt H') ts (exitsL (gs.take j) bar x))
      ⟨none, none, none, [], rfl, z0, upd_same, .nil⟩ (fun j σ H' _ ⟨_, _, _, _, _, sm, _⟩ => SqT.of (hw.same sm).gat) (fun j v σ H2 H3 hj hP hY => ?_) (fun σ H' hP => ?_)⟩
    · obtain ⟨v4, v5, v6, ts, rfl, sm, hD, prs⟩ := hP
      obtain ⟨rfl, hv⟩ := hY
      rw [List.length_map] at hj
      rw [List.getElem?_map, List.getElem?_eq_getElem hj] at hv
      cases hv
      have hj2 : j < gs.length := by omega
      obtain ⟨gg, hgg, ia, e1, e2⟩ := pair_at (hw.same sm).each (List.getElem?_eq_getElem hj)
      rw [List.getElem?_eq_getElem hj2] at hgg
      have hgj : gs[j] = gg := Option.some.inj hgg
      have step : exitsL (gs.take (j + 1)) bar x = exitsL (gs.take j) bar x ++ (if x ∈ gg.2.1 ∧ gg.1 ∉ bar then (gg.2.1.filter fun y => decide (y ≠ x)).map fun y => (gg.1, y) else []) := by
        unfold exitsL
        rw [List.take_add_one, List.getElem?_eq_getElem hj2, hgj, List.flatMap_append]
        simp
      refine ⟨_, [.str gg.1, .ref ia, .str gg.2.2], rfl, SqT.of e1, rfl, .str gg.1, _, rfl, .ref ia, _, rfl, .str gg.2.2, [], rfl, rfl, ?_⟩
      -- region in those and name not in without
      refine ⟨_, rfl, _, rfl, ia, _, rfl, .inr (SqT.of e2), rfl, WT.flat_strs _, _, rfl, ?_⟩
      rw [inV_str]
      by_cases c1 : x ∈ gg.2.1
      · rw [decide_eq_true c1]
        refine iteT ⟨_, rfl, _, rfl, wo, _, rfl, .inr (sameT sm hwo), rfl, WT.flat_strs _, _, rfl, ?_⟩
        rw [inV_str]
        by_cases c2 : gg.1 ∈ bar
        · rw [decide_eq_true c2]
          refine iteF ⟨_, _, _, ts, rfl, sm, hD, ?_⟩
          rw [step, if_neg fun z => z.2 c2, List.append_nil]
          exact prs
        · rw [decide_eq_false c2]
          refine iteT ?_
          rw [if_pos ⟨c1, c2⟩] at step
          refine ⟨_, rfl, .inl ⟨rfl, _, SqL.of hD⟩, _, rfl, ia, rfl, ⟨_, SqT.of e2⟩, fun L nL => lc_tup (K := K) (a := ia) (xs := gg.2.1.map V.str) (fun m H' => Same H3 H' ∧ ∃ us : List Addr, H' L = some (.lst (us.map V.ref)) ∧ Paired (PairAt H') us (((gg.2.1.take m).filter fun y => decide (y ≠ x)).map fun y => (gg.1, y)))
            ⟨same_new nL, [], upd_same, .nil⟩ (fun m H' _ ⟨s', _⟩ => SqT.of (s' _ _ e2)) (fun m v H4 hm hP => ?_) fun H4 hP => ?_⟩
          · obtain ⟨s4, us, hL, pu⟩ := hP
            rw [List.getElem?_map] at hm
            obtain ⟨y, hy, rfl⟩ := Option.map_eq_some_iff.mp hm
            have stp : (gg.2.1.take (m + 1)).filter (fun y => decide (y ≠ x)) = (gg.2.1.take m).filter (fun y => decide (y ≠ x)) ++ (if y ≠ x then [y] else []) := by
              rw [List.take_add_one, hy, List.filter_append]
              by_cases c : y = x
              · rw [if_neg fun z => z c]
                simp [c]
              · rw [if_pos c]
                simp [c]
            refine ⟨rfl, _, rfl, _, rfl, rfl, _, rfl, ?_⟩
            by_cases c : y = x
            · subst c
              rw [show (!decide (V.str y = V.str y)) = false by simp]
              refine iteF ⟨s4, us, hL, ?_⟩
              rw [stp, if_neg fun z => z rfl, List.append_nil]
              exact pu
            · rw [show (!decide (V.str y = V.str x)) = true by simp [c]]
              refine iteT ⟨_, rfl, _, rfl, (by show 2 ≤ sizeLine; decide), fun t nt => ?_⟩
              have z5 := same_new nt (o := .tup [.str gg.1, .str y])
              have hul : us.length ≤ 100 := by
                have e := Paired.length pu
                rw [List.length_map] at e
                have l1 := List.length_filter_le (fun y => decide (y ≠ x)) (gg.2.1.take m)
                have l2 : (gg.2.1.take m).length ≤ gg.2.1.length := by rw [List.length_take]; exact Nat.min_le_right _ _
                have l3 := hil gg (hgj ▸ List.getElem_mem hj2)
                omega
              have keepL : ∀ (c : Addr) (xs : List V) (o : HO), upd H4 t (.tup [.str gg.1, .str y]) c = some (.tup xs) → upd (upd H4 t (.tup [.str gg.1, .str y])) L o c = some (.tup xs) := fun c xs o e => by
                rw [upd_ne (ne_of e (z5 _ _ hL) (by intro z; cases z))]
                exact e
              refine ⟨_, z5 _ _ hL, ?_, ?_, us ++ [t], ?_, ?_⟩
              · rw [List.length_map]
                exact Nat.lt_of_le_of_lt hul (by decide)
              · intro c o ec
                rw [upd_ne (ne_of_none ec nL)]
                exact z5 _ _ (s4 _ _ ec)
              · rw [upd_same, List.map_append]
                rfl
              · rw [stp, if_pos c, List.map_append]
                exact pair_snoc (Paired.mapP pu fun c e h => keepL _ _ _ (z5 _ _ h)) (keepL _ _ _ upd_same)
          · obtain ⟨s4, us, hL, pu⟩ := hP
            rw [List.length_map, List.take_length] at pu
            have hD4 := s4 _ _ hD
            have nLD : L ≠ D := Ne.symm (ne_of_none hD nL)
            refine ⟨D, L, _, _, rfl, rfl, hD4, hL, ?_, ?_⟩
            · rw [List.length_map, List.length_map]
              have a1 := Paired.length prs
              have a2 := Paired.length pu
              have b1 := exits_len (gs := gs.take j) (bar := bar) (x := x) fun g hg => hil g (List.mem_of_mem_take hg)
              have b2 : (gs.take j).length ≤ gs.length := by rw [List.length_take]; exact Nat.min_le_right _ _
              have b3 : ((gg.2.1.filter fun y => decide (y ≠ x)).map fun y => (gg.1, y)).length ≤ 100 := by
                rw [List.length_map]
                exact Nat.le_trans (List.length_filter_le _ _) (hil gg (hgj ▸ List.getElem_mem hj2))
              have b4 : (gs.take j).length * 100 ≤ 100 * 100 := Nat.mul_le_mul (by omega) (by omega)
              exact Nat.le_trans (show ts.length + us.length ≤ 20000 by omega) (by decide)
            · have keepD : ∀ (c : Addr) (xs : List V) (o : HO), H4 c = some (.tup xs) → upd H4 D o c = some (.tup xs) := fun c xs o e => by
                rw [upd_ne (ne_of e hD4 (by intro z; cases z))]
                exact e
              refine ⟨_, _, _, ts ++ us, rfl, ?_, ?_, ?_⟩
              · intro c o ec
                rw [upd_ne (ne_of_none ec nD)]
                exact s4 _ _ (sm _ _ ec)
              · rw [upd_same, List.map_append]
              · rw [step]
                exact pair_app (Paired.mapP prs fun c e h => keepD _ _ _ (s4 _ _ h)) (Paired.mapP pu fun c e h => keepD _ _ _ h)
      · rw [decide_eq_false c1]
        refine iteF (iteF ⟨_, _, _, ts, rfl, sm, hD, ?_⟩)
        rw [step, if_neg fun z => c1 z.1, List.append_nil]
        exact prs
    · obtain ⟨v4, v5, v6, ts, rfl, sm, hD, prs⟩ := hP
      rw [List.length_map, hlen, List.take_length] at prs
      exact ⟨_, rfl, q _ D ts sm nD hD prs⟩
end
end K13

set_option Elab.async false
set_option linter.all false
set_option maxRecDepth 100000
set_option maxHeartbeats 4000000
namespace K13
open PySem PySem.Spec PyProof.Rows L2 WT
abbrev st_shortest_path : Stmt := top 9
theorem sc_shortest_path : FnScope ["world", "one", "other", "without", "paths", "farthest", "reached", "region", "name", "behind"] ["world", "one", "other", "without"] (defScope st_shortest_path) := ⟨rfl, rfl, rfl, by decide +kernel, rfl, by decide +kernel, by decide +kernel⟩
section
variable {P : Program} {w : World} {K : PySem.W.Frag} {mg : Str → Option Value} {base : Heap} {f fE : Addr} {fd fdE : FuncData}
/-- shortest_path(world, one, other, without): the path that the search finds -/
def spShort (K : PySem.W.Frag) : Sp := fun vs H Q _ => ∃ (wa r g wo : Addr) (as : List Addr) (rs : List Str) (gs : List Gt) (one other : Str) (bar : List Str), vs = [.ref wa, .str one, .str other, .ref wo] ∧ WorldAt H wa r g as rs gs ∧ SqT K H wo (bar.map V.str) ∧ rs.length ≤ 100 ∧ gs.length ≤ 100 ∧ (gs.map (·.1)).Nodup ∧
  (∀ g ∈ gs, g.2.1.length ≤ 100 ∧ ∀ y ∈ g.2.1, y ∈ rs) ∧ one ∈ rs ∧ ∀ (H' : Hp) (v : V), Same H H' → PathRes one H' v (spath gs bar rs one other) → Q v H'
theorem ok_shortest_path (F : Fun K "shortest_path" "shortest_path" st_shortest_path f fd) (F_exits : DfO P w K mg base "exits" 1 fE fdE ["world", "region", "without"] (spExits K)) : FnOk P w K mg base CX0 2 f fd ["world", "one", "other", "without"] (spShort K) := by
  refine F.ok sc_shortest_path (fun vs H Q E h => ?_) (fun cdv A outer s H vs Q E hr h => ?_)
  · obtain ⟨_, _, _, _, _, _, _, _, _, _, rfl, _⟩ := h
    rfl
  · obtain ⟨wa, r, g, wo, as, rs, gs, one, other, bar, rfl, hw, hwo, hrl, hgl, nd0, hil, hone, q⟩ := h
    refine ⟨_, (pss_cons (ps_set (i := 4) sc_shortest_path.nd rfl (.inl rfl) (pe_disp (pps_cons (pv 1) (pe_tup (pa_cons (pv 1) pa_nil)) pps_nil) (by rfl) (by rfl) (fun z => by cases z) (by decide)))
      (pss_cons (ps_set (i := 5) sc_shortest_path.nd rfl (.inl rfl) (pe_lst (pa_cons (pv 1) pa_nil)))
      (pss_cons (ps_while PassesOwn.never (PW.pt (pw_and (pt_truth (pv 5) (by intro _; rfl)) (pw_and1 (pt_cmp (pc_dnotin (hu_of hr) (pv 2) (pv 4))))))
       (pss_cons (ps_set (i := 6) sc_shortest_path.nd rfl (.inl rfl) (pe_lst pa_nil))
       (pss_cons (ps_for PassesOwn.never rfl (pi_list (pv 5)) (pg_name (i := 7) sc_shortest_path.nd rfl (.inl rfl))
        (pss_one (ps_for PassesOwn.never rfl (pi_list (pe_call F_exits.G (hr.mono (by decide)) (by rfl) F_exits.g F_exits.kp F_exits.bd .nil pass0 (pa_cons (pv 0) (pa_cons (pv 7) (pa_cons (pv 3) pa_nil))))) (pg_tup rfl (pgs_cons (pg_name (i := 8) sc_shortest_path.nd rfl (.inl rfl)) (pgs_cons (pg_name (i := 9) sc_shortest_path.nd rfl (.inl rfl)) pgs_nil)))
         (pss_one (ps_if (pt_cmp (pc_dnotin (hu_of hr) (pv 9) (pv 4)))
          (pss_cons (ps_dput (hu_of hr) (pv 4) (pv 9) (pe_op op_catT (pe_dget (hu_of hr) (pv 4) (pv 7) (fun _ _ => rfl)) (pe_tup (pa_cons (pv 8) (pa_cons (pv 9) pa_nil)))) rfl)
          (pss_one (ps_expr (pe_bm PySem.F.plainAttrs_list PySem.F.slot_list_append PySem.F.type_list_append mt_append (pv 6) (pa_cons (pv 9) pa_nil)))))
          pss_nil)))))
       (pss_one (ps_set (i := 5) sc_shortest_path.nd rfl (.inl rfl) (pv 6))))))
      (pss_one (ps_ret (pe_dget1 (hu_of hr) (pv 4) (pv 2) ⟨by rfl, by rfl, by rfl, by rfl⟩)))))), ?_⟩
    have hm : ∀ g ∈ gs, ∀ z ∈ g.2.1, z ∈ rs := fun g hg => (hil g hg).2
    -- paths = {one: (one,)}
    intro d nd
    refine ⟨_, rfl, _, rfl, (by show 1 ≤ sizeLine; decide), fun t0 nt0 => ?_⟩
    have z0 := same_new nd (o := .dK [])
    have z1 := same_new nt0 (o := .tup [.str one])
    have hd1 := z1 _ _ (show (upd H d (.dK [])) d = some (.dK []) from upd_same)
    refine ⟨hd1, [(Sum.inr one, .ref t0)], rfl, (by show 1 ≤ 15; decide), ?_⟩
    -- farthest = [one]
    refine ⟨_, rfl, (by show 1 ≤ sizeLine; decide), fun fl0 nfl0 => ?_⟩
    have ntd : t0 ≠ d := Ne.symm (ne_of_none (show (upd H d (.dK [])) d = some (.dK []) from upd_same) nt0)
    have ht2 : (upd (upd (upd H d (.dK [])) t0 (.tup [.str one])) d (.dK (mergeK [] [(Sum.inr one, .ref t0)]))) t0 = some (.tup [.str one]) := by
      rw [upd_ne ntd]
      exact upd_same
    have z2 := same_new nfl0 (o := .lst [.str one])
    have sm0 : Same H (upd (upd (upd (upd H d (.dK [])) t0 (.tup [.str one])) d (.dK (mergeK [] [(Sum.inr one, .ref t0)]))) fl0 (.lst [.str one])) := fun c o e => by
      refine z2 _ _ ?_
      rw [upd_ne (ne_of_none e nd)]
      exact z1 _ _ (z0 _ _ e)
    refine ⟨fun m σ H' => ∃ (kvs : List (Key × V)) (t : Tab) (far : List Str) (dd n : Nat) (fl : Addr) (v6 v7 v8 v9 : Option V), σ = [some (.ref wa), some (.str one), some (.str other), some (.ref wo), some (.ref d), some (.ref fl), v6, v7, v8, v9] ∧ Same H H' ∧ H fl = none ∧ H' d = some (.dK kvs) ∧ H' fl = some (.lst (far.map V.str)) ∧
        TabAt one H' kvs t ∧ BOk gs bar rs one dd t far ∧ bmeas rs t far ≤ n ∧ bfs gs bar other n t far = bfs gs bar other (2 * rs.length + 2) [(one, [])] [one] ∧ m = bmeas rs t far,
      ⟨_, [(Sum.inr one, .ref t0)], [(one, [])], [one], 0, _, fl0, none, none, none, none, rfl, sm0, ?_, ?_, upd_same, .cons ⟨rfl, t0, rfl, z2 _ _ ht2⟩ .nil, .first hone, bmeas_first, rfl, rfl⟩, fun m σ H' hW => ?_⟩
    · cases e : H fl0 with
      | none => rfl
      | some o =>
        have : (upd (upd (upd H d (.dK [])) t0 (.tup [.str one])) d (.dK (mergeK [] [(Sum.inr one, .ref t0)]))) fl0 = some o := by
          rw [upd_ne (ne_of_none e nd)]
          exact z1 _ _ (z0 _ _ e)
        rw [nfl0] at this
        cases this
    · exact z2 _ _ upd_same
    obtain ⟨kvs, t, far, dd, n, fl, v6, v7, v8, v9, rfl, sm, nfl, hd, hfl, tb, BO, hn, hR, rfl⟩ := hW
    -- while farthest and other not in paths
    have ret : (far = [] ∨ other ∈ keysT t) → Q ((valV kvs (Sum.inr other)).getD .non) H' := fun hdn => q _ _ sm (by
      have e : spath gs bar rs one other = tabGet t other := by
        unfold spath
        rw [← hR, bfs_stop hdn]
      rw [e]
      by_cases ho : other ∈ keysT t
      · obtain ⟨l, el⟩ := get_some ho
        obtain ⟨a, ea, ha⟩ := tb.some_ el
        rw [el, ea]
        exact ⟨a, rfl, ha⟩
      · rw [get_none ho, tb.none_ ho]
        rfl)
    refine ⟨_, rfl, _, .inl ⟨_, SqL.of hfl, rfl⟩, ?_⟩
    cases far with
    | nil =>
      refine ifF rfl (ifF rfl ?_)
      exact ⟨_, rfl, d, rfl, .inl ⟨_, .inl hd⟩, _, rfl, _, DGet.k (k := Sum.inr other) hd, ret (.inl rfl)⟩
    | cons y far =>
      refine ifT rfl ⟨_, rfl, _, rfl, d, _, rfl, DGet.k (k := Sum.inr other) hd, _, rfl, ?_⟩
      by_cases ho : other ∈ keysT t
      · obtain ⟨l, el⟩ := get_some ho
        obtain ⟨a, ea, ha⟩ := tb.some_ el
        refine ifF (by rw [ea]; rfl) ?_
        exact ⟨_, rfl, d, rfl, .inl ⟨_, .inl hd⟩, _, rfl, _, DGet.k (k := Sum.inr other) hd, ret (.inr ho)⟩
      · refine ifT (by rw [tb.none_ ho]; rfl) ?_
        generalize hfr : y :: far = fr at *
        have frn : fr ≠ [] := by
          rw [← hfr]
          simp
        clear hfr
        refine ⟨fun σ' H2 => ∃ (kvs2 : List (Key × V)) (add : Tab) (rl : Addr) (v6 v7 v8 v9 : Option V), σ' = [some (.ref wa), some (.str one), some (.str other), some (.ref wo), some (.ref d), some (.ref rl), v6, v7, v8, v9] ∧ Same H H2 ∧ H rl = none ∧ H2 d = some (.dK kvs2) ∧ H2 rl = some (.lst ((keysT add).map V.str)) ∧
            TabAt one H2 kvs2 (t ++ add) ∧ bfsLev gs bar t fr = (t ++ add, keysT add), ?_, ?_⟩
        · intro σ' H2 hN
          obtain ⟨kvs2, add, rl, u6, u7, u8, u9, rfl, sm2, nrl, hd2, hrl2, tb2, hlev⟩ := hN
          obtain ⟨add', e', C⟩ := BO.next hm
          rw [hlev] at e'
          have ea : t ++ add = t ++ add' := congrArg Prod.fst e'
          obtain rfl : add = add' := List.append_cancel_left ea
          have less := BO.less frn C
          have nn : n ≠ 0 := by omega
          obtain ⟨n', rfl⟩ : ∃ n', n = n' + 1 := ⟨n - 1, by omega⟩
          refine ⟨_, less, kvs2, t ++ add, keysT add, dd + 1, n', rl, u6, u7, u8, u9, rfl, sm2, nrl, hd2, hrl2, tb2, C, by omega, ?_, rfl⟩
          rw [← hR]
          conv => rhs; unfold bfs
          rw [if_neg (fun z => z.elim frn ho), hlev]
        -- reached = []
        refine ⟨(by show 0 ≤ sizeLine; decide), fun rl nrl => ?_⟩
        have z3 := same_new nrl (o := .lst [])
        have nrlH : H rl = none := sm.free nrl
        have nlf : fl ≠ rl := ne_of_none hfl nrl
        have nld : d ≠ rl := ne_of_none hd nrl
        have nfd : fl ≠ d := ne_of hfl hd (by intro z; cases z)
        refine ⟨_, rfl, fl, rfl, ⟨_, SqL.of (z3 _ _ hfl)⟩, for_it (walk_list (xs := fr.map V.str))
          (fun i σ' H2 => ∃ (kvs2 : List (Key × V)) (add : Tab) (v7 v8 v9 : Option V), σ' = [some (.ref wa), some (.str one), some (.str other), some (.ref wo), some (.ref d), some (.ref fl), some (.ref rl), v7, v8, v9] ∧ Same H H2 ∧ H2 d = some (.dK kvs2) ∧ H2 fl = some (.lst (fr.map V.str)) ∧ H2 rl = some (.lst ((keysT add).map V.str)) ∧
            TabAt one H2 kvs2 (t ++ add) ∧ BMid gs bar rs one dd t add ∧ (fr.take i).foldl (bfsReg gs bar) (t, []) = (t ++ add, keysT add))
          ⟨kvs, [], v7, v8, v9, rfl, sm.trans z3, z3 _ _ hd, z3 _ _ hfl, upd_same, by rw [List.append_nil]; exact tb.same fun t xs e => z3 _ _ e, .first BO, by rw [List.append_nil]; rfl⟩ (fun i σ' H2 _ ⟨_, _, _, _, _, _, _, _, h, _⟩ => SqL.of h) (fun i v σ' H2 H3 hi hP hY => ?_) (fun σ' H2 hP => ?_)⟩
        · obtain ⟨kvs2, add, u7, u8, u9, rfl, sm2, hd2, hfl2, hrl2, tb2, md2, fo2⟩ := hP
          obtain ⟨rfl, hv⟩ := hY
          rw [List.getElem?_map] at hv
          obtain ⟨x, hx, rfl⟩ := Option.map_eq_some_iff.mp hv
          have hxf : x ∈ fr := List.mem_of_getElem? hx
          obtain ⟨lr, el, ml, ll⟩ := BO.at_far hxf
          have xk := BO.fsub x hxf
          have lrl : lr.length + 1 ≤ rs.length := by
            obtain ⟨o1, o2, o3⟩ := BO.ok _ ml
            obtain ⟨g1, g2⟩ := o1.good nd0 o3
            exact GoodP.len ⟨⟨_, o1⟩, g1, g2, o1.sub hm⟩ hone
          refine ⟨_, rfl, _, rfl, _, rfl, wa, r, g, wo, as, rs, gs, x, bar, rfl, hw.same sm2, sameT sm2 hwo, hgl, fun g hg => (hil g hg).1, fun H4 p ts s4 np hp prs => ?_⟩
          have hlp := Paired.length prs
          refine ⟨p, rfl, ⟨_, SqL.of hp⟩, for_it (walk_list (xs := ts.map V.ref))
            (fun j σ' H5 => ∃ (kvs5 : List (Key × V)) (ad5 : Tab) (v8 v9 : Option V), σ' = [some (.ref wa), some (.str one), some (.str other), some (.ref wo), some (.ref d), some (.ref fl), some (.ref rl), some (.str x), v8, v9] ∧ Same H H5 ∧ H5 d = some (.dK kvs5) ∧ H5 fl = some (.lst (fr.map V.str)) ∧ H5 rl = some (.lst ((keysT ad5).map V.str)) ∧ H5 p = some (.lst (ts.map V.ref)) ∧
              Paired (PairAt H5) ts (exitsL gs bar x) ∧ TabAt one H5 kvs5 (t ++ ad5) ∧ BMid gs bar rs one dd t ad5 ∧ ((exitsL gs bar x).take j).foldl (bfsOne lr) (t ++ add, keysT add) = (t ++ ad5, keysT ad5))
            ⟨kvs2, add, u8, u9, rfl, sm2.trans s4, s4 _ _ hd2, s4 _ _ hfl2, s4 _ _ hrl2, hp, prs, tb2.same fun t xs e => s4 _ _ e, md2, rfl⟩ (fun j σ' H5 _ ⟨_, _, _, _, _, _, _, _, _, h, _⟩ => SqL.of h) (fun j v σ' H5 H6 hj hP hY => ?_) (fun σ' H5 hP => ?_)⟩
          · obtain ⟨kvs5, ad5, w8, w9, rfl, sm5, hd5, hfl5, hrl5, hp5, prs5, tb5, md5, fo5⟩ := hP
            obtain ⟨rfl, hv⟩ := hY
            rw [List.getElem?_map] at hv
            obtain ⟨u, hu, rfl⟩ := Option.map_eq_some_iff.mp hv
            obtain ⟨e, he, het⟩ := pair_at prs5 hu
            have hem : e ∈ exitsL gs bar x := List.mem_of_getElem? he
            obtain ⟨ad6, eq6, md6, k6, s6⟩ := BMid.one_ hm BO md5 ml ll hem
            have fo6 : ((exitsL gs bar x).take (j + 1)).foldl (bfsOne lr) (t ++ add, keysT add) = (t ++ ad6, keysT ad6) := by
              rw [List.take_add_one, he, List.foldl_append, fo5]
              exact eq6
            have l5 := md5.len BO
            refine ⟨u, [.str e.1, .str e.2], rfl, SqT.of het, rfl, .str e.1, _, rfl, .str e.2, [], rfl, rfl, ?_⟩
            refine ⟨_, rfl, _, rfl, d, _, rfl, DGet.k (k := Sum.inr e.2) hd5, _, rfl, ?_⟩
            by_cases hin : e.2 ∈ keysT (t ++ ad5)
            · obtain ⟨le, ele⟩ := get_some hin
              obtain ⟨ae, ee, _⟩ := tb5.some_ ele
              refine ifF (by rw [ee]; rfl) ?_
              have same6 : ad6 = ad5 := by
                unfold bfsOne at eq6
                rw [if_pos hin] at eq6
                exact (List.append_cancel_left (congrArg Prod.fst eq6)).symm
              rw [same6] at fo6
              exact ⟨kvs5, ad5, _, _, rfl, sm5, hd5, hfl5, hrl5, hp5, prs5, tb5, md5, fo6⟩
            · have is6 : ad6 = ad5 ++ [(e.2, lr ++ [e])] := by
                unfold bfsOne at eq6
                rw [if_neg hin] at eq6
                have := congrArg Prod.fst eq6
                dsimp only at this
                rw [List.append_assoc] at this
                exact (List.append_cancel_left this).symm
              refine ifT (by rw [tb5.none_ hin]; rfl) ?_
              obtain ⟨tp, ev, htp⟩ := tb5.some_ (x := x) (l := lr) (by rw [get_app xk]; exact el)
              have hxl := pathV_len one lr
              have hkl := Paired.length tb5
              -- paths[behind] = paths[region] + (name, behind)
              refine ⟨_, rfl, _, rfl, d, .ref tp, rfl, by rw [← ev]; exact DGet.k (k := Sum.inr x) hd5, _, rfl, _, rfl, (by show 2 ≤ sizeLine; decide), fun t7 n7 => ?_⟩
              have z7 := same_new n7 (o := .tup [.str e.1, .str e.2])
              refine ⟨tp, t7, pathV one lr, [.str e.1, .str e.2], rfl, rfl, SqT.of (z7 _ _ htp), SqT.of upd_same, (by unfold pathV; simp), ?_, fun z => (List.cons_ne_nil _ _ z).elim, fun _ t8 n8 => ?_⟩
              · show (pathV one lr).length + 2 ≤ sizeLine
                exact Nat.le_trans (show (pathV one lr).length + 2 ≤ 300 by omega) (by decide)
              have z8 := same_new n8 (o := .tup (pathV one lr ++ [.str e.1, .str e.2]))
              have z78 := z7.trans z8
              have ht8 : upd (upd H6 t7 (.tup [.str e.1, .str e.2])) t8 (.tup (pathV one lr ++ [.str e.1, .str e.2])) t8 = some (.tup (pathV one (lr ++ [e]))) := by
                rw [upd_same, ← pathV_snoc]
              generalize upd (upd H6 t7 (.tup [.str e.1, .str e.2])) t8 (.tup (pathV one lr ++ [.str e.1, .str e.2])) = H8 at z78 ht8 ⊢
              have hd8 := z78 _ _ hd5
              refine ⟨_, rfl, _, rfl, d, _, rfl, DPut.k (k := Sum.inr e.2) hd8 ?_, ?_⟩
              · exact Nat.lt_of_le_of_lt (show kvs5.length ≤ 100 by omega) (by decide)
              have tb8 : TabAt one H8 kvs5 (t ++ ad5) := tb5.same fun c xs ec => z78 _ _ ec
              obtain ⟨hput, tb9⟩ := tb8.put hin ht8
              rw [hput]
              rw [List.append_assoc, ← is6] at tb9
              have hrl8 := z78 _ _ hrl5
              have keepd : ∀ (c : Addr) (xs' : List V) (o : HO), H8 c = some (.tup xs') → upd H8 d o c = some (.tup xs') := fun c xs' o ec => by
                rw [upd_ne (ne_of ec hd8 (by intro z; cases z))]
                exact ec
              have hrl9 : upd H8 d (.dK (kvs5 ++ [(Sum.inr e.2, .ref t8)])) rl = some (.lst ((keysT ad5).map V.str)) := by
                rw [upd_ne (Ne.symm nld)]
                exact hrl8
              have hd9 : upd H8 d (.dK (kvs5 ++ [(Sum.inr e.2, .ref t8)])) d = some (.dK (kvs5 ++ [(Sum.inr e.2, .ref t8)])) := upd_same
              have tb10 := tb9.same fun c xs ec => keepd c xs (.dK (kvs5 ++ [(Sum.inr e.2, .ref t8)])) ec
              have prs9 : Paired (PairAt (upd H8 d (.dK (kvs5 ++ [(Sum.inr e.2, .ref t8)])))) ts (exitsL gs bar x) := Paired.mapP prs5 fun c e' hc => keepd _ _ _ (z78 _ _ hc)
              have fl9 : upd H8 d (.dK (kvs5 ++ [(Sum.inr e.2, .ref t8)])) fl = some (.lst (fr.map V.str)) := by
                rw [upd_ne nfd]
                exact z78 _ _ hfl5
              have npd : p ≠ d := fun z => by
                rw [z, hd2] at np
                cases np
              have npr : p ≠ rl := fun z => by
                rw [z, hrl2] at np
                cases np
              have p9 : upd H8 d (.dK (kvs5 ++ [(Sum.inr e.2, .ref t8)])) p = some (.lst (ts.map V.ref)) := by
                rw [upd_ne npd]
                exact z78 _ _ hp5
              have sm9 : Same H (upd H8 d (.dK (kvs5 ++ [(Sum.inr e.2, .ref t8)]))) := fun c o ec => by
                rw [upd_ne (ne_of_none ec nd)]
                exact z78 _ _ (sm5 _ _ ec)
              generalize upd H8 d (.dK (kvs5 ++ [(Sum.inr e.2, .ref t8)])) = H9 at hrl9 hd9 tb10 prs9 fl9 p9 sm9 ⊢
              refine ⟨_, rfl, .inl ⟨rfl, _, SqL.of hrl9⟩, _, rfl, rl, _, _, rfl, rfl, hrl9, ?_, ?_⟩
              · rw [List.length_map]
                unfold keysT
                rw [List.length_map]
                rw [List.length_append] at l5
                exact Nat.lt_of_le_of_lt (show ad5.length ≤ 100 by omega) (by decide)
              · have keepr : ∀ (c : Addr) (xs' : List V) (o : HO), H9 c = some (.tup xs') → upd H9 rl o c = some (.tup xs') := fun c xs' o ec => by
                  rw [upd_ne (ne_of ec hrl9 (by intro z; cases z))]
                  exact ec
                refine ⟨kvs5 ++ [(Sum.inr e.2, .ref t8)], ad6, _, _, rfl, ?_, ?_, ?_, ?_, ?_, ?_, ?_, md6, fo6⟩
                · intro c o ec
                  rw [upd_ne (ne_of_none ec nrlH)]
                  exact sm9 _ _ ec
                · rw [upd_ne nld]
                  exact hd9
                · rw [upd_ne nlf]
                  exact fl9
                · rw [upd_same, is6, keys_app, List.map_append]
                  rfl
                · rw [upd_ne npr]
                  exact p9
                · exact Paired.mapP prs9 fun c e' hc => keepr _ _ _ hc
                · exact tb10.same fun c xs ec => keepr _ _ _ ec
          · obtain ⟨kvs5, ad5, w8, w9, rfl, sm5, hd5, hfl5, hrl5, hp5, prs5, tb5, md5, fo5⟩ := hP
            rw [List.length_map, hlp, List.take_length] at fo5
            refine ⟨kvs5, ad5, _, _, _, rfl, sm5, hd5, hfl5, hrl5, tb5, md5, ?_⟩
            rw [List.take_add_one, hx, List.foldl_append, fo2]
            show bfsReg gs bar (t ++ add, keysT add) x = _
            unfold bfsReg
            rw [get_app xk, el]
            exact fo5
        · obtain ⟨kvs2, add, u7, u8, u9, rfl, sm2, hd2, hfl2, hrl2, tb2, md2, fo2⟩ := hP
          rw [List.length_map, List.take_length] at fo2
          exact ⟨_, rfl, kvs2, add, rl, _, _, _, _, rfl, sm2, nrlH, hd2, hrl2, tb2, fo2⟩
end
end K13

set_option Elab.async false
set_option linter.all false
set_option maxRecDepth 100000
set_option maxHeartbeats 4000000
/-! texts that ascend; gateways sorted as data. -/
namespace WT
open PySem PySem.Spec PyProof.Rows L2 PySem.W
/-- one text before another -/
def Bef (x y : Str) : Prop := x.cps.toList < y.cps.toList
theorem Bef.trans {x y z : Str} (h : Bef x y) (k : Bef y z) : Bef x z := List.lt_trans h k
theorem Bef.ne {x y : Str} (h : Bef x y) : x ≠ y := fun e => by
  subst e
  exact List.lt_irrefl _ h
theorem bef_of {x y : Str} (h : ¬ Bef y x) (ne : x ≠ y) : Bef x y := by
  rcases str_tri x y with h1 | h1 | h1
  · exact h1
  · exact absurd h1 ne
  · exact absurd h1 h
/-- ascending -/
def AscS (ys : List Str) : Prop := ys.Pairwise Bef
theorem AscS.nodup {ys : List Str} (h : AscS ys) : ys.Nodup := List.Pairwise.imp (fun {a b} k => k.ne) h
/-- each before the next -/
def AdjS (ys : List Str) : Prop := ∀ (i : Nat) (x y : Str), ys[i]? = some x → ys[i + 1]? = some y → Bef x y
theorem adj_asc : ∀ {ys : List Str}, AdjS ys ↔ AscS ys
  | [] => ⟨fun _ => List.Pairwise.nil, fun _ i x y h => by simp at h⟩
  | [a] => ⟨fun _ => by unfold AscS; simp, fun _ i x y _ h => by simp at h⟩
  | a :: b :: ys => by
    have ih := adj_asc (ys := b :: ys)
    constructor
    · intro h
      have t : AdjS (b :: ys) := fun i x y h1 h2 => h (i + 1) x y h1 h2
      have ab : Bef a b := h 0 a b rfl rfl
      have k := ih.mp t
      refine List.pairwise_cons.mpr ⟨fun y hy => ?_, k⟩
      rcases List.mem_cons.mp hy with rfl | hy
      · exact ab
      · exact ab.trans ((List.pairwise_cons.mp k).1 y hy)
    · intro h i x y h1 h2
      obtain ⟨k1, k2⟩ := List.pairwise_cons.mp h
      cases i with
      | zero =>
        cases h1
        exact k1 y (List.mem_of_getElem? h2)
      | succ i => exact ih.mpr k2 i x y h1 h2
theorem rise_adj : ∀ {ys : List Str} {p : Str}, risingS p ys = true → (p :: ys).Nodup → AscS (p :: ys)
  | [], p, _, _ => by
    unfold AscS
    simp
  | y :: ys, p, h, nd => by
    unfold risingS at h
    rw [Bool.and_eq_true] at h
    obtain ⟨n1, n2⟩ := List.nodup_cons.mp nd
    have k := rise_adj h.2 n2
    have pb : Bef p y := bef_of (fun z => by
      have := h.1
      rw [ltCps_eq, decide_eq_true (show y.cps.toList < p.cps.toList from z)] at this
      cases this) fun e => n1 (by rw [e]; exact List.mem_cons_self)
    refine List.pairwise_cons.mpr ⟨fun z hz => ?_, k⟩
    rcases List.mem_cons.mp hz with rfl | hz
    · exact pb
    · exact pb.trans ((List.pairwise_cons.mp k).1 z hz)
theorem asc_of {ys : List Str} (h : sortedS ys = true) (nd : ys.Nodup) : AscS ys := by
  cases ys with
  | nil => exact List.Pairwise.nil
  | cons y ys => exact rise_adj h nd
theorem AscS.at {ys : List Str} (h : AscS ys) {i j : Nat} {x y : Str} (hi : ys[i]? = some x) (hj : ys[j]? = some y) (lt : i < j) : Bef x y := by
  obtain ⟨h1, e1⟩ := List.getElem?_eq_some_iff.mp hi
  obtain ⟨h2, e2⟩ := List.getElem?_eq_some_iff.mp hj
  rw [← e1, ← e2]
  exact List.pairwise_iff_getElem.mp h i j h1 h2 lt
/-- the order of gateways whose names differ -/
theorem gate_lt {g g' : Gt} (ne : g.1 ≠ g'.1) (h : dataLe false (fun b : PyData => b) (gateD g) (gateD g') = true) : Bef g.1 g'.1 := by
  have h : (!dataLt (gateD g') (gateD g)) = true := h
  rw [Bool.not_eq_true'] at h
  have e : dataLt (gateD g') (gateD g) = decide (g'.1.cps.toList < g.1.cps.toList) := by
    show dataLt (.tuple [.str g'.1, .tuple (g'.2.1.map PyData.str), .str g'.2.2]) (.tuple [.str g.1, .tuple (g.2.1.map PyData.str), .str g.2.2]) = _
    rw [dataLt_tuple, dataLt_cons (by simp [alike])]
    have ee : PyData.eqv (.str g'.1) (.str g.1) = false := by
      rw [PyData.eqv]
      exact beq_eq_false_iff_ne.mpr fun z => ne z.symm
    rw [ee, if_neg Bool.false_ne_true, dataLt_str]
  rw [e] at h
  exact bef_of (fun z => absurd (show g'.1.cps.toList < g.1.cps.toList from z) (of_decide_eq_false h)) ne
theorem gates_asc {ks : List (Addr × Gt)} {l : List (V × PyData)} (e : l.mergeSort (dataLe false fun b : V × PyData => b.2) = ks.map fun p : Addr × Gt => (V.ref p.1, gateD p.2)) (nd : (ks.map fun p => p.2.1).Nodup) : AscS (ks.map fun p => p.2.1) := by
  have T := sortLe_total (listOrd itemOrd) false fun b : V × PyData => keyToks b.2
  have pw : (l.mergeSort (dataLe false fun b : V × PyData => b.2)).Pairwise fun a b => dataLe false (fun b : V × PyData => b.2) a b = true := List.pairwise_mergeSort (fun a b c => T.trans a b c) (fun a b => by
    have := T.total a b
    rcases this with h | h
    · show (dataLe false (fun b : V × PyData => b.2) a b || _) = true
      rw [show dataLe false (fun b : V × PyData => b.2) a b = true from h]
      rfl
    · show (_ || dataLe false (fun b : V × PyData => b.2) b a) = true
      rw [show dataLe false (fun b : V × PyData => b.2) b a = true from h, Bool.or_true]) l
  rw [e, List.pairwise_map] at pw
  unfold AscS
  rw [List.pairwise_map]
  have nd := List.pairwise_map.mp nd
  exact (pw.and nd).imp fun {a b} ⟨h1, h2⟩ => gate_lt h2 h1
end WT

set_option Elab.async false
set_option linter.all false
set_option maxRecDepth 100000
set_option maxHeartbeats 4000000
/-! len(set(xs)), xs a list of different texts. -/
namespace WT
open PySem PySem.Spec PyProof.Rows L2
/-- an empty set -/
abbrev set0 (led : Bool) : Obj := { cls := .type "set", dict := none, data := .set #[] 0 (.fresh 0 0 led) }
abbrev hasIn (ys : List Str) (i : Nat) : Str → Bool := fun y => (ys.take i).any (· == y)
section
variable {P : Program} {w : World} {A : Around} {E : Value → Shared → Prop} {s : Shared}
theorem setOf_kept {h h2 : Heap} {a : Addr} {T : Str → Bool} {n : Nat} (hS : h.SetOf (PySem.strKind P w) a T n) (k : ∀ o, h.get? a = some o → h2.get? a = some o) : h2.SetOf (PySem.strKind P w) a T n := by
  obtain ⟨o, es, ep, tb, ho, r⟩ := hS
  exact ⟨o, es, ep, tb, k o ho, r⟩
theorem fill_texts {I : Addr} {fp wr : List Addr} {G : Array GenState → Array GenState → Prop} {n : Nat} {Pv : Nat → Value → Prop} {St : Nat → Shared → Prop} {R : Result → Shared → Prop} (W : WalksS P w A.in1 I fp wr G n Pv St) (a : Addr) (na : a ∉ fp) (ys : List Str) (nd : ys.Nodup) (en : n = ys.length) (room : ys.length + 1 < scanBound)
    (hv : ∀ i v, Pv i v → ∃ y t, ys[i]? = some y ∧ v = .str y t) : ∀ (k i : Nat) (s : Shared), n - i = k → i ≤ n → St i s → s.heap.SetOf (PySem.strKind P w) a (hasIn ys i) i →
      (∀ s2, Moved (a :: wr) G s s2 → s2.heap.SetOf (PySem.strKind P w) a (hasIn ys n) n → R (.ok (.ret .none)) s2) → codeAny (model P w) A (.builtin "set.update.loop" ⟨[.ref a, .ref I], []⟩) R s := by
  have nw : a ∉ wr := fun z => na (W.sub _ z)
  have more : ∀ b ∈ wr, b ∈ a :: wr := fun b z => List.mem_cons_of_mem _ z
  intro k
  induction k with
  | zero =>
    intro i s e1 e2 st hS q
    obtain rfl : i = n := by omega
    refine codeAny_builtin PyProof.Rows.F.entry_set_update_loop ?_
    rw [Around.under_plainId PyProof.Rows.F.plain_set_update_loop _]
    show wpAny (model P w) A.in1 (pyNext (.ref I) >>= _) _ _ s
    refine wpAny_bind (W.done s _ _ st fun s2 mv => ?_)
    show wpAny (model P w) A.in1 (ret Value.none) _ _ s2
    exact wpAny_pure (q s2 (mv.mono more) (setOf_kept hS fun o z => mv.heap a o nw z))
  | succ k ih =>
    intro i s e1 e2 st hS q
    have lt : i < n := by omega
    refine codeAny_builtin PyProof.Rows.F.entry_set_update_loop ?_
    rw [Around.under_plainId PyProof.Rows.F.plain_set_update_loop _]
    show wpAny (model P w) A.in1 (pyNext (.ref I) >>= _) _ _ s
    refine wpAny_bind (W.item i s _ _ lt st fun v s2 pv st2 mv => ?_)
    obtain ⟨y, t, hy, rfl⟩ := hv i v pv
    have hS2 := setOf_kept hS fun o z => mv.heap a o nw z
    show wpAny (model P w) A.in1 (holding [Value.str y t] (setAdd a (.str y t)) >>= _) _ _ s2
    refine wpAny_bind (wpAny_holding ?_)
    unfold setAdd
    refine wpAny_holding (wpAny_bind ((PySem.strKind P w).pyHash (k := y) (strKind_is _ _ _ _) ?_))
    refine wpAny_setAddHashed_of (knd := PySem.strKind P w) (s := { s2 with toks := s2.toks + 1 }) (strKind_is _ _ _ _) rfl hS2 (by omega) fun h3 sb hS3 => ?_
    have newY : hasIn ys i y = false := by
      refine Bool.eq_false_iff.mpr fun z => ?_
      obtain ⟨x, hx, ex⟩ := List.any_eq_true.mp z
      have ex : x = y := beq_iff_eq.mp ex
      obtain ⟨j, hj, e3⟩ := List.getElem_of_mem hx
      rw [List.length_take] at hj
      have hi := (List.getElem?_eq_some_iff.mp hy).1
      have e4 : ys[j]'(by omega) = ys[i] := by
        rw [(List.getElem?_eq_some_iff.mp hy).2, ← ex, ← e3, List.getElem_take]
      exact (List.pairwise_iff_getElem.mp nd j i (by omega) hi (by omega)) e4
    rw [newY, if_neg Bool.false_ne_true] at hS3
    have hS4 : h3.SetOf (PySem.strKind P w) a (hasIn ys (i + 1)) (i + 1) := by
      refine SetOf_congr hS3 (fun z => ?_) rfl
      show ((ys.take i).any (· == z) || decide (z = y)) = (ys.take (i + 1)).any (· == z)
      rw [List.take_add_one, hy, List.any_append]
      congr 1
      show decide (z = y) = ((y == z) || false)
      rw [Bool.or_false]
      by_cases c : z = y
      · subst c
        simp
      · have c2 : ¬ y = z := fun q => c q.symm
        rw [decide_eq_false c, beq_eq_false_iff_ne.mpr c2]
    refine wpAny_pure ⟨plainId_quiet PyProof.Rows.F.plain_set_update_loop _, ih (i + 1) _ (by omega) lt (W.frame _ s2 _ _ st2 (Nat.le_succ _) fun b hb o z => ?_) hS4 fun s4 mv4 hS5 => ?_⟩
    · rw [sb.2 b (fun z2 : b = a => na (by rw [← z2]; exact hb))]
      exact z
    · refine q s4 (Moved.trans W.gtrans ((mv.mono more).then_heap (Nat.le_succ _) fun b o hb z => ?_) mv4) hS5
      rw [sb.2 b (fun z2 : b = a => hb (by rw [z2]; exact List.mem_cons_self))]
      exact z
theorem set_of_texts {l : Addr} {its : Array Value} {ys : List Str} {Q : Value → Shared → Prop} (calm : A.handled = none) (hl : s.heap.IsList l its) (hi : StrsAre its.toList ys) (nd : ys.Nodup) (room : ys.length + 1 < scanBound)
    (q : ∀ (h2 : Heap) (tk : Nat), h2.SetOf (PySem.strKind P w) s.heap.objs.size (hasIn ys ys.length) ys.length → (∀ b o, b < s.heap.objs.size → s.heap.get? b = some o → h2.get? b = some o) → Q (.ref s.heap.objs.size) { s with heap := h2, toks := tk }) :
    wpAny (model P w) A (call (.type "set") [.ref l]) Q E s := by
  have esz : ys.length = its.size := by rw [← PyProof.Rows.StrsAre.len_eq hi, Array.length_toList]
  have ⟨c1, c2, hmr⟩ := PySem.F.called_set.mro
  have hm1 := PySem.F.called_set.made; have hm2 := PySem.F.called_set.sub
  refine wpAny_call (codeAny_of_tree ?_); show wpAny _ _ (callAny (.type "set") _) _ _ _
  refine wpAny_pure ⟨Code.quiet_builtin _ (by decide +kernel), codeAny_builtin PySem.F.entry_type_call ?_⟩
  rw [Around.under_plain (weight_type_call_type "set" [.ref l] []) (by rfl)]
  have hm3 := PySem.F.called_set.notType; have hm4 := PySem.F.called_set.canCreate
  have hm5 := PySem.F.typeCall_set_1 (.ref l)
  repeat (any_goals (first | assumption | wp_step))
  refine codeAny_mono (PySem.code_set_new_1 (.ref l) (E := E) (Q₁ := fun ob s1 => ∃ led : Bool, ob = .ref s.heap.objs.size ∧ s1 = { s with heap := s.heap.push (set0 led) }) fun led => ⟨led, rfl, rfl⟩) fun r s1 hr => ?_
  cases r with
  | error e => exact hr
  | ok fl =>
    cases fl with
    | ret ob =>
      obtain ⟨led, rfl, rfl⟩ := hr
      have hS : (s.heap.push (set0 led)).get? s.heap.objs.size = some (set0 led) := Heap.get?_push_size _ rfl
      have hT : Shared.TypeIs { s with heap := s.heap.push (set0 led) } (.ref s.heap.objs.size) "set" := ⟨_, hS, rfl⟩
      have hm6 := PySem.F.called_set.init.lookup; have hm7 := PySem.F.called_set.init.bind (.ref s.heap.objs.size)
      repeat (any_goals (first | assumption | wp_step))
      refine codeAny_mono (codeAny_call_builtin (R := wants (fun r s2 => r = .none ∧ ∃ h2 tk, s2 = { s with heap := h2, toks := tk } ∧ h2.SetOf (PySem.strKind P w) s.heap.objs.size (hasIn ys ys.length) ys.length ∧
          (∀ b o, b < s.heap.objs.size → s.heap.get? b = some o → h2.get? b = some o)) E) PySem.F.called_set.init.plain PySem.F.entry_set_init (PySem.check_set_init_1 hT ?_)) fun r2 s2 hr2 => ?_
      · have ⟨⟨ocl, odi, oda, osl⟩, hol, hcl, nl, hdl⟩ := hl
        simp only at hcl hdl
        subst hcl hdl
        have hol2 : (s.heap.push (set0 led)).get? l = some { cls := .type "list", dict := odi, data := .seq its nl, slots := osl } := Heap.get?_push_of_some _ hol
        have hm8 := PySem.F.sub_list_set; have hm9 := PySem.F.sub_list_frozenset
        have hm10 : (Value.type "list" == Value.type "dict") = false := by decide
        have hl2 : (s.heap.push (set0 led)).IsList l its := ⟨_, hol2, rfl, nl, rfl⟩
        unfold Builtin.«set.__init__» noKeywords Builtin.Frozenset.updateFrom
        generalize hIt : pyIter = It
        wp_walk
        subst hIt
        refine wpAny_pyIter_list hl2 (wpAny_bind (wpAny_runValue ?_))
        have lo : l < s.heap.objs.size := Heap.lt_size hol
        have calm3 : A.in1.in1.in1.handled = none := by simp [calm]
        have nl2 : l ≠ (s.heap.push (set0 led)).objs.size := by
          rw [Heap.size_push]
          exact Nat.ne_of_lt (Nat.lt_succ_of_lt lo)
        have nf : s.heap.objs.size ∉ [(s.heap.push (set0 led)).objs.size, l] := by
          rw [Heap.size_push]
          simp only [List.mem_cons, List.not_mem_nil, or_false, not_or]
          exact ⟨Nat.ne_of_lt (Nat.lt_succ_self _), Nat.ne_of_gt lo⟩
        have vals : ∀ (i : Nat) (v : Value), its[i]? = some v → ∃ y t, ys[i]? = some y ∧ v = .str y t := fun i v z => by
          have hlt : i < ys.length := by
            have := (Array.getElem?_eq_some_iff.mp z).1
            omega
          obtain ⟨t, e⟩ := SS.strs_at hi i v (by rw [Array.getElem?_toList]; exact z)
          rw [List.getD_eq_getElem?_getD, List.getElem?_eq_getElem hlt] at e
          exact ⟨ys[i], t, List.getElem?_eq_getElem hlt, e⟩
        refine fill_texts ((Walks.list calm3 _ l nl2 its).toS) s.heap.objs.size nf ys nd esz.symm room vals (its.size - 0) 0 _ (by omega) (Nat.zero_le _) ⟨⟨_, Heap.get?_push_size _ rfl, rfl, rfl⟩, (hl2.push _)⟩ ?hA ?hB
        case hA =>
          have hg : ((s.heap.push (set0 led)).push { cls := .type "list_iterator", data := .fields #[.ref l, .int 0 0] }).get? s.heap.objs.size = some (set0 led) := Heap.get?_push_of_some _ hS
          exact SetOf_congr ((setObjOf_fresh (knd := PySem.strKind P w) led).setOf hg (by unfold scanBound; omega)) (fun _ => rfl) rfl
        case hB =>
          intro s3 mv hS3
          obtain ⟨h3, g3, d3, tk3, os3⟩ := s3
          obtain rfl : g3 = s.gens := mv.gens
          obtain rfl : d3 = s.drawn := mv.drawn
          obtain rfl : os3 = s.os := mv.os
          show wpAny (model P w) _ _ _ _ _
          refine wpAny_pure ?_
          show wpAny (model P w) _ (ret Value.none) _ _ _
          refine wpAny_pure ⟨rfl, h3, tk3, rfl, by rw [← esz] at hS3; exact hS3, fun b o lt z => ?_⟩
          refine mv.heap b o ?_ (Heap.get?_push_of_some _ (Heap.get?_push_of_some _ z))
          rw [Heap.size_push]
          simp only [List.mem_cons, List.not_mem_nil, or_false, not_or]
          exact ⟨Nat.ne_of_lt lt, Nat.ne_of_lt (Nat.lt_succ_of_lt lt)⟩
      · cases r2 with
        | error e => exact hr2
        | ok fl2 =>
          cases fl2 with
          | ret r =>
            obtain ⟨rfl, h2, tk, rfl, hS2, k2⟩ := hr2
            repeat (any_goals (first | assumption | wp_step))
            exact q _ _ hS2 k2
          | _ => exact hr2.elim
    | _ => exact hr.elim
end
section
variable {X : Cx} {K : PySem.W.Frag}
/-- len(set(xs)) -/
def tLenSetS (K : PySem.W.Frag) (ta : TE) : TE := fun σ H Q => ta σ H fun x H1 => ∃ (l : Addr) (ys : List Str), x = .ref l ∧ SqL K H1 l (ys.map V.str) ∧ ys.Nodup ∧ ys.length < 64 ∧ Q (.int ys.length) H1
theorem pe_lenSetS {a : Expr} {ta : TE} {p p2 q pos : Pos} (calm : X.calm = true) (hg : Gl X "len") (hm : X.mg "len" = none) (hg2 : Gl X "set") (hm2 : X.mg "set" = none) (ha : PE X a ta) (hK : X.K = K := by rfl)
    (na : starEach [a] X.env = (false, eval a X.env) :: starEach [] X.env := by rfl) : PE X (.Call (.Name "len" p) [.Call (.Name "set" p2) [a] [] q] [] pos) (tLenSetS K ta) := by
  subst hK
  refine ⟨fun pins s σ H Q I h => Call_ (ld_blt I hg hm PySem.boot_len ?_)⟩
  refine PyProof.Rows.callWith_builtin1 (PyProof.Rows.args_cons (Call_ (ld_blt I hg2 hm2 PyProof.Rows.boot_set ?_)) rfl) rfl rfl
  refine PyProof.Rows.callWith_type1 (PyProof.Rows.args_cons (thn (ha.run pins s σ H _ I h) fun v s1 ⟨x, H1, I1, r1, z⟩ => PyProof.Rows.args_nil ?_) na) na rfl
  obtain ⟨l, ys, rfl, hq, nd, few, z⟩ := z
  cases r1
  obtain ⟨its, rv, pl, _⟩ := I1.list hq
  refine set_of_texts (I1.ok.hd calm) pl.isList (by simpa using strsAre_of rv) nd (by unfold scanBound; omega) fun h2 tk hS k2 => PyProof.Rows.args_nil ?_
  obtain ⟨o, es, ep, t, ho, hex, hd, _, _, _, hf, hn⟩ := hS
  have I2 : Inv X pins σ H1 { s1 with heap := h2, toks := tk } := I1.kept fun b o e => k2 b o (Heap.lt_size e) e
  exact call_len_set ho hex hd hf (by rw [hn]; omega) ⟨.int ys.length, H1, I2.tok _, ⟨_, by rw [hn]⟩, z⟩
end
end WT

set_option Elab.async false
set_option linter.all false
set_option maxRecDepth 100000
set_option maxHeartbeats 4000000
/-! len(set(xs)), xs a list or a tuple of texts: how many different ones. -/
namespace WT
open PySem PySem.Spec PyProof.Rows L2
/-- an empty set -/
abbrev setE (led : Bool) : Obj := { cls := .type "set", dict := none, data := .set #[] 0 (.fresh 0 0 led) }
abbrev hasY (ys : List Str) (i : Nat) : Str → Bool := fun y => (ys.take i).any (· == y)
/-- how many different ones among the first i -/
def disN (ys : List Str) : Nat → Nat
  | 0 => 0
  | i + 1 => disN ys i + (match ys[i]? with | some y => if hasY ys i y = true then 0 else 1 | none => 0)
theorem disN_le (ys : List Str) : ∀ i, disN ys i ≤ i
  | 0 => Nat.le_refl _
  | i + 1 => by
    have := disN_le ys i
    unfold disN
    split
    · split <;> omega
    · omega
theorem hasY_iff {ys : List Str} {i : Nat} {y : Str} : hasY ys i y = true ↔ y ∈ ys.take i := by
  constructor
  · intro z
    obtain ⟨x, hx, ex⟩ := List.any_eq_true.mp z
    rw [← beq_iff_eq.mp ex]
    exact hx
  · intro z
    exact List.any_eq_true.mpr ⟨y, z, by simp⟩
/-- all are different exactly if none is left out -/
theorem disN_all (ys : List Str) : ∀ i, i ≤ ys.length → (disN ys i = i ↔ (ys.take i).Nodup)
  | 0, _ => by simp [disN]
  | i + 1, h => by
    have ih := disN_all ys i (by omega)
    have le := disN_le ys i
    have e : ys[i]? = some ys[i] := List.getElem?_eq_getElem (by omega)
    unfold disN
    rw [e, List.take_add_one, e]
    show disN ys i + (if hasY ys i ys[i] = true then 0 else 1) = i + 1 ↔ (ys.take i ++ [ys[i]]).Nodup
    rw [List.nodup_append]
    by_cases c : hasY ys i ys[i] = true
    · rw [if_pos c]
      constructor
      · intro z
        omega
      · rintro ⟨_, _, z⟩
        exact absurd rfl (z _ (hasY_iff.mp c) _ (by simp))
    · rw [if_neg c]
      constructor
      · intro z
        refine ⟨ih.mp (by omega), by simp, fun a ha b hb q => c (hasY_iff.mpr ?_)⟩
        have hb : b = ys[i] := by simpa using hb
        rw [← hb, ← q]
        exact ha
      · rintro ⟨z, _⟩
        have := ih.mpr z
        omega
section
variable {P : Program} {w : World} {A : Around} {E : Value → Shared → Prop} {s : Shared}
theorem setOf_keeps {h h2 : Heap} {a : Addr} {T : Str → Bool} {n : Nat} (hS : h.SetOf (PySem.strKind P w) a T n) (k : ∀ o, h.get? a = some o → h2.get? a = some o) : h2.SetOf (PySem.strKind P w) a T n := by
  obtain ⟨o, es, ep, tb, ho, r⟩ := hS
  exact ⟨o, es, ep, tb, k o ho, r⟩
theorem fill_all {I : Addr} {fp wr : List Addr} {G : Array GenState → Array GenState → Prop} {n : Nat} {Pv : Nat → Value → Prop} {St : Nat → Shared → Prop} {R : Result → Shared → Prop} (W : WalksS P w A.in1 I fp wr G n Pv St) (a : Addr) (na : a ∉ fp) (ys : List Str) (en : n = ys.length) (room : ys.length + 1 < scanBound)
    (hv : ∀ i v, Pv i v → ∃ y t, ys[i]? = some y ∧ v = .str y t) : ∀ (k i : Nat) (s : Shared), n - i = k → i ≤ n → St i s → s.heap.SetOf (PySem.strKind P w) a (hasY ys i) (disN ys i) →
      (∀ s2, Moved (a :: wr) G s s2 → s2.heap.SetOf (PySem.strKind P w) a (hasY ys n) (disN ys n) → R (.ok (.ret .none)) s2) → codeAny (model P w) A (.builtin "set.update.loop" ⟨[.ref a, .ref I], []⟩) R s := by
  have nw : a ∉ wr := fun z => na (W.sub _ z)
  have more : ∀ b ∈ wr, b ∈ a :: wr := fun b z => List.mem_cons_of_mem _ z
  intro k
  induction k with
  | zero =>
    intro i s e1 e2 st hS q
    obtain rfl : i = n := by omega
    refine codeAny_builtin PyProof.Rows.F.entry_set_update_loop ?_
    rw [Around.under_plainId PyProof.Rows.F.plain_set_update_loop _]
    show wpAny (model P w) A.in1 (pyNext (.ref I) >>= _) _ _ s
    refine wpAny_bind (W.done s _ _ st fun s2 mv => ?_)
    show wpAny (model P w) A.in1 (ret Value.none) _ _ s2
    exact wpAny_pure (q s2 (mv.mono more) (setOf_keeps hS fun o z => mv.heap a o nw z))
  | succ k ih =>
    intro i s e1 e2 st hS q
    have lt : i < n := by omega
    refine codeAny_builtin PyProof.Rows.F.entry_set_update_loop ?_
    rw [Around.under_plainId PyProof.Rows.F.plain_set_update_loop _]
    show wpAny (model P w) A.in1 (pyNext (.ref I) >>= _) _ _ s
    refine wpAny_bind (W.item i s _ _ lt st fun v s2 pv st2 mv => ?_)
    obtain ⟨y, t, hy, rfl⟩ := hv i v pv
    have hS2 := setOf_keeps hS fun o z => mv.heap a o nw z
    show wpAny (model P w) A.in1 (holding [Value.str y t] (setAdd a (.str y t)) >>= _) _ _ s2
    refine wpAny_bind (wpAny_holding ?_)
    unfold setAdd
    refine wpAny_holding (wpAny_bind ((PySem.strKind P w).pyHash (k := y) (strKind_is _ _ _ _) ?_))
    refine wpAny_setAddHashed_of (knd := PySem.strKind P w) (s := { s2 with toks := s2.toks + 1 }) (strKind_is _ _ _ _) rfl hS2 (by have := disN_le ys i; omega) fun h3 sb hS3 => ?_
    have hS4 : h3.SetOf (PySem.strKind P w) a (hasY ys (i + 1)) (disN ys (i + 1)) := by
      refine SetOf_congr hS3 (fun z => ?_) ?_
      · show ((ys.take i).any (· == z) || decide (z = y)) = (ys.take (i + 1)).any (· == z)
        rw [List.take_add_one, hy, List.any_append]
        congr 1
        show decide (z = y) = ((y == z) || false)
        rw [Bool.or_false]
        by_cases c : z = y
        · subst c
          simp
        · have c2 : ¬ y = z := fun q => c q.symm
          rw [decide_eq_false c, beq_eq_false_iff_ne.mpr c2]
      · conv => rhs; unfold disN
        rw [hy]
        show _ = disN ys i + (if hasY ys i y = true then 0 else 1)
        by_cases c : hasY ys i y = true
        · rw [if_pos c, if_pos c]
          rfl
        · rw [if_neg c, if_neg c]
    refine wpAny_pure ⟨plainId_quiet PyProof.Rows.F.plain_set_update_loop _, ih (i + 1) _ (by omega) lt (W.frame _ s2 _ _ st2 (Nat.le_succ _) fun b hb o z => ?_) hS4 fun s4 mv4 hS5 => ?_⟩
    · rw [sb.2 b (fun z2 : b = a => na (by rw [← z2]; exact hb))]
      exact z
    · refine q s4 (Moved.trans W.gtrans ((mv.mono more).then_heap (Nat.le_succ _) fun b o hb z => ?_) mv4) hS5
      rw [sb.2 b (fun z2 : b = a => hb (by rw [z2]; exact List.mem_cons_self))]
      exact z
theorem set_of_any {l : Addr} {its : Array Value} {ys : List Str} {Q : Value → Shared → Prop} (calm : A.handled = none) (hl : s.heap.IsList l its ∨ s.heap.IsTuple l its) (hi : StrsAre its.toList ys) (room : ys.length + 1 < scanBound)
    (q : ∀ (h2 : Heap) (tk : Nat), h2.SetOf (PySem.strKind P w) s.heap.objs.size (hasY ys ys.length) (disN ys ys.length) → (∀ b o, b < s.heap.objs.size → s.heap.get? b = some o → h2.get? b = some o) → Q (.ref s.heap.objs.size) { s with heap := h2, toks := tk }) :
    wpAny (model P w) A (call (.type "set") [.ref l]) Q E s := by
  have esz : ys.length = its.size := by rw [← PyProof.Rows.StrsAre.len_eq hi, Array.length_toList]
  have ⟨c1, c2, hmr⟩ := PySem.F.called_set.mro
  have hm1 := PySem.F.called_set.made; have hm2 := PySem.F.called_set.sub
  refine wpAny_call (codeAny_of_tree ?_); show wpAny _ _ (callAny (.type "set") _) _ _ _
  refine wpAny_pure ⟨Code.quiet_builtin _ (by decide +kernel), codeAny_builtin PySem.F.entry_type_call ?_⟩
  rw [Around.under_plain (weight_type_call_type "set" [.ref l] []) (by rfl)]
  have hm3 := PySem.F.called_set.notType; have hm4 := PySem.F.called_set.canCreate
  have hm5 := PySem.F.typeCall_set_1 (.ref l)
  repeat (any_goals (first | assumption | wp_step))
  refine codeAny_mono (PySem.code_set_new_1 (.ref l) (E := E) (Q₁ := fun ob s1 => ∃ led : Bool, ob = .ref s.heap.objs.size ∧ s1 = { s with heap := s.heap.push (setE led) }) fun led => ⟨led, rfl, rfl⟩) fun r s1 hr => ?_
  cases r with
  | error e => exact hr
  | ok fl =>
    cases fl with
    | ret ob =>
      obtain ⟨led, rfl, rfl⟩ := hr
      have hS : (s.heap.push (setE led)).get? s.heap.objs.size = some (setE led) := Heap.get?_push_size _ rfl
      have hT : Shared.TypeIs { s with heap := s.heap.push (setE led) } (.ref s.heap.objs.size) "set" := ⟨_, hS, rfl⟩
      have hm6 := PySem.F.called_set.init.lookup; have hm7 := PySem.F.called_set.init.bind (.ref s.heap.objs.size)
      repeat (any_goals (first | assumption | wp_step))
      refine codeAny_mono (codeAny_call_builtin (R := wants (fun r s2 => r = .none ∧ ∃ h2 tk, s2 = { s with heap := h2, toks := tk } ∧ h2.SetOf (PySem.strKind P w) s.heap.objs.size (hasY ys ys.length) (disN ys ys.length) ∧
          (∀ b o, b < s.heap.objs.size → s.heap.get? b = some o → h2.get? b = some o)) E) PySem.F.called_set.init.plain PySem.F.entry_set_init (PySem.check_set_init_1 hT ?_)) fun r2 s2 hr2 => ?_
      · rcases hl with hl | hl
        · have ⟨⟨ocl, odi, oda, osl⟩, hol, hcl, nl, hdl⟩ := hl
          simp only at hcl hdl
          subst hcl hdl
          have hol2 : (s.heap.push (setE led)).get? l = some { cls := .type "list", dict := odi, data := .seq its nl, slots := osl } := Heap.get?_push_of_some _ hol
          have hm8 := PySem.F.sub_list_set; have hm9 := PySem.F.sub_list_frozenset
          have hm10 : (Value.type "list" == Value.type "dict") = false := by decide
          have hl2 : (s.heap.push (setE led)).IsList l its := ⟨_, hol2, rfl, nl, rfl⟩
          unfold Builtin.«set.__init__» noKeywords Builtin.Frozenset.updateFrom
          generalize hIt : pyIter = It
          wp_walk
          subst hIt
          refine wpAny_pyIter_list hl2 (wpAny_bind (wpAny_runValue ?_))
          have lo : l < s.heap.objs.size := Heap.lt_size hol
          have calm3 : A.in1.in1.in1.handled = none := by simp [calm]
          have nl2 : l ≠ (s.heap.push (setE led)).objs.size := by
            rw [Heap.size_push]
            exact Nat.ne_of_lt (Nat.lt_succ_of_lt lo)
          have nf : s.heap.objs.size ∉ [(s.heap.push (setE led)).objs.size, l] := by
            rw [Heap.size_push]
            simp only [List.mem_cons, List.not_mem_nil, or_false, not_or]
            exact ⟨Nat.ne_of_lt (Nat.lt_succ_self _), Nat.ne_of_gt lo⟩
          have vals : ∀ (i : Nat) (v : Value), its[i]? = some v → ∃ y t, ys[i]? = some y ∧ v = .str y t := fun i v z => by
            have hlt : i < ys.length := by
              have := (Array.getElem?_eq_some_iff.mp z).1
              omega
            obtain ⟨t, e⟩ := SS.strs_at hi i v (by rw [Array.getElem?_toList]; exact z)
            rw [List.getD_eq_getElem?_getD, List.getElem?_eq_getElem hlt] at e
            exact ⟨ys[i], t, List.getElem?_eq_getElem hlt, e⟩
          refine fill_all ((Walks.list calm3 _ l nl2 its).toS) s.heap.objs.size nf ys esz.symm room vals (its.size - 0) 0 _ (by omega) (Nat.zero_le _) ⟨⟨_, Heap.get?_push_size _ rfl, rfl, rfl⟩, (hl2.push _)⟩ ?hA ?hB
          case hA =>
            have hg : ((s.heap.push (setE led)).push { cls := .type "list_iterator", data := .fields #[.ref l, .int 0 0] }).get? s.heap.objs.size = some (setE led) := Heap.get?_push_of_some _ hS
            exact SetOf_congr ((setObjOf_fresh (knd := PySem.strKind P w) led).setOf hg (by unfold scanBound; omega)) (fun _ => rfl) rfl
          case hB =>
            intro s3 mv hS3
            obtain ⟨h3, g3, d3, tk3, os3⟩ := s3
            obtain rfl : g3 = s.gens := mv.gens
            obtain rfl : d3 = s.drawn := mv.drawn
            obtain rfl : os3 = s.os := mv.os
            show wpAny (model P w) _ _ _ _ _
            refine wpAny_pure ?_
            show wpAny (model P w) _ (ret Value.none) _ _ _
            refine wpAny_pure ⟨rfl, h3, tk3, rfl, by rw [← esz] at hS3; exact hS3, fun b o lt z => ?_⟩
            refine mv.heap b o ?_ (Heap.get?_push_of_some _ (Heap.get?_push_of_some _ z))
            rw [Heap.size_push]
            simp only [List.mem_cons, List.not_mem_nil, or_false, not_or]
            exact ⟨Nat.ne_of_lt lt, Nat.ne_of_lt (Nat.lt_succ_of_lt lt)⟩
        · have ⟨⟨ocl, odi, oda, osl⟩, hol, hcl, nl, hdl⟩ := hl
          simp only at hcl hdl
          subst hcl hdl
          have hol2 : (s.heap.push (setE led)).get? l = some { cls := .type "tuple", dict := odi, data := .seq its nl, slots := osl } := Heap.get?_push_of_some _ hol
          have hm8 := PySem.F.sub_tuple_set; have hm9 := PySem.F.sub_tuple_frozenset
          have hm10 : (Value.type "tuple" == Value.type "dict") = false := by decide
          have hl2 : (s.heap.push (setE led)).IsTuple l its := ⟨_, hol2, rfl, nl, rfl⟩
          unfold Builtin.«set.__init__» noKeywords Builtin.Frozenset.updateFrom
          generalize hIt : pyIter = It
          wp_walk
          subst hIt
          refine wpAny_pyIter_tuple hl2 (wpAny_bind (wpAny_runValue ?_))
          have lo : l < s.heap.objs.size := Heap.lt_size hol
          have calm3 : A.in1.in1.in1.handled = none := by simp [calm]
          have nl2 : l ≠ (s.heap.push (setE led)).objs.size := by
            rw [Heap.size_push]
            exact Nat.ne_of_lt (Nat.lt_succ_of_lt lo)
          have nf : s.heap.objs.size ∉ [(s.heap.push (setE led)).objs.size, l] := by
            rw [Heap.size_push]
            simp only [List.mem_cons, List.not_mem_nil, or_false, not_or]
            exact ⟨Nat.ne_of_lt (Nat.lt_succ_self _), Nat.ne_of_gt lo⟩
          have vals : ∀ (i : Nat) (v : Value), its[i]? = some v → ∃ y t, ys[i]? = some y ∧ v = .str y t := fun i v z => by
            have hlt : i < ys.length := by
              have := (Array.getElem?_eq_some_iff.mp z).1
              omega
            obtain ⟨t, e⟩ := SS.strs_at hi i v (by rw [Array.getElem?_toList]; exact z)
            rw [List.getD_eq_getElem?_getD, List.getElem?_eq_getElem hlt] at e
            exact ⟨ys[i], t, List.getElem?_eq_getElem hlt, e⟩
          refine fill_all ((Walks.tuple calm3 _ l nl2 its).toS) s.heap.objs.size nf ys esz.symm room vals (its.size - 0) 0 _ (by omega) (Nat.zero_le _) ⟨⟨_, Heap.get?_push_size _ rfl, rfl, rfl⟩, (hl2.push _)⟩ ?hA ?hB
          case hA =>
            have hg : ((s.heap.push (setE led)).push { cls := .type "tuple_iterator", data := .fields #[.ref l, .int 0 0] }).get? s.heap.objs.size = some (setE led) := Heap.get?_push_of_some _ hS
            exact SetOf_congr ((setObjOf_fresh (knd := PySem.strKind P w) led).setOf hg (by unfold scanBound; omega)) (fun _ => rfl) rfl
          case hB =>
            intro s3 mv hS3
            obtain ⟨h3, g3, d3, tk3, os3⟩ := s3
            obtain rfl : g3 = s.gens := mv.gens
            obtain rfl : d3 = s.drawn := mv.drawn
            obtain rfl : os3 = s.os := mv.os
            show wpAny (model P w) _ _ _ _ _
            refine wpAny_pure ?_
            show wpAny (model P w) _ (ret Value.none) _ _ _
            refine wpAny_pure ⟨rfl, h3, tk3, rfl, by rw [← esz] at hS3; exact hS3, fun b o lt z => ?_⟩
            refine mv.heap b o ?_ (Heap.get?_push_of_some _ (Heap.get?_push_of_some _ z))
            rw [Heap.size_push]
            simp only [List.mem_cons, List.not_mem_nil, or_false, not_or]
            exact ⟨Nat.ne_of_lt lt, Nat.ne_of_lt (Nat.lt_succ_of_lt lt)⟩
      · cases r2 with
        | error e => exact hr2
        | ok fl2 =>
          cases fl2 with
          | ret r =>
            obtain ⟨rfl, h2, tk, rfl, hS2, k2⟩ := hr2
            repeat (any_goals (first | assumption | wp_step))
            exact q _ _ hS2 k2
          | _ => exact hr2.elim
    | _ => exact hr.elim
end
section
variable {X : Cx} {K : PySem.W.Frag}
/-- len(set(xs)) -/
def tLenSetA (K : PySem.W.Frag) (ta : TE) : TE := fun σ H Q => ta σ H fun x H1 => ∃ (l : Addr) (ys : List Str), x = .ref l ∧ (SqL K H1 l (ys.map V.str) ∨ SqT K H1 l (ys.map V.str)) ∧ ys.length < 4000 ∧ Q (.int (disN ys ys.length)) H1
theorem pe_lenSetA {a : Expr} {ta : TE} {p p2 q pos : Pos} (calm : X.calm = true) (hg : Gl X "len") (hm : X.mg "len" = none) (hg2 : Gl X "set") (hm2 : X.mg "set" = none) (ha : PE X a ta) (hK : X.K = K := by rfl)
    (na : starEach [a] X.env = (false, eval a X.env) :: starEach [] X.env := by rfl) : PE X (.Call (.Name "len" p) [.Call (.Name "set" p2) [a] [] q] [] pos) (tLenSetA K ta) := by
  subst hK
  refine ⟨fun pins s σ H Q I h => Call_ (ld_blt I hg hm PySem.boot_len ?_)⟩
  refine PyProof.Rows.callWith_builtin1 (PyProof.Rows.args_cons (Call_ (ld_blt I hg2 hm2 PyProof.Rows.boot_set ?_)) rfl) rfl rfl
  refine PyProof.Rows.callWith_type1 (PyProof.Rows.args_cons (thn (ha.run pins s σ H _ I h) fun v s1 ⟨x, H1, I1, r1, z⟩ => PyProof.Rows.args_nil ?_) na) na rfl
  obtain ⟨l, ys, rfl, hq, few, z⟩ := z
  cases r1
  have dl := disN_le ys ys.length
  have fin : ∀ (its : List Value), Vals (ys.map V.str) its → (s1.heap.IsList l its.toArray ∨ s1.heap.IsTuple l its.toArray) → wpAny (model X.prog X.w) X.A (call (.type "set") [.ref l]) (fun v s₁ => wpAny (model X.prog X.w) X.A (spliced (backTo pos (starEach [] X.env))) (fun vs s₂ => wpAny (model X.prog X.w) X.A (call (.builtin "len") (v :: vs)) (EP X pins σ Q) X.xe s₂) X.xe s₁) X.xe s1 := fun its rv pl => by
    refine set_of_any (I1.ok.hd calm) pl (by simpa using strsAre_of rv) (by unfold scanBound; omega) fun h2 tk hS k2 => PyProof.Rows.args_nil ?_
    obtain ⟨o, es, ep, t, ho, hex, hd, _, _, _, hf, hn⟩ := hS
    have I2 : Inv X pins σ H1 { s1 with heap := h2, toks := tk } := I1.kept fun b o e => k2 b o (Heap.lt_size e) e
    exact call_len_set ho hex hd hf (by rw [hn]; omega) ⟨.int (disN ys ys.length), H1, I2.tok _, ⟨_, by rw [hn]⟩, z⟩
  rcases hq with hq | hq
  · obtain ⟨its, rv, pl, _⟩ := I1.list hq
    exact fin its rv (.inl pl.isList)
  · obtain ⟨its, rv, pl, _⟩ := I1.tuple hq
    exact fin its rv (.inr pl)
end
end WT

set_option Elab.async false
set_option linter.all false
set_option maxRecDepth 100000
set_option maxHeartbeats 4000000
/-! for x, y, z in zip(a, b, c), three lists. -/
namespace WT
open PySem PySem.Spec PyProof.Rows L2
/-- the three lists as they stand, the items in new triples -/
def It3 (K : PySem.W.Frag) (a b c : Addr) : It where
  go i H := ∃ (xs ys zs : List V) (x y z : V), (SqL K H a xs ∧ xs[i]? = some x) ∧ (SqL K H b ys ∧ ys[i]? = some y) ∧ SqL K H c zs ∧ zs[i]? = some z
  yld i H v H' := ∃ T x y z, v = .ref T ∧ H T = none ∧ H' = upd H T (.tup [x, y, z]) ∧ (∀ l, SqL K H a l → l[i]? = some x) ∧ (∀ l, SqL K H b l → l[i]? = some y) ∧ ∀ l, SqL K H c l → l[i]? = some z
  stop i H := ∃ xs ys zs : List V, (SqL K H a xs ∧ i ≤ xs.length) ∧ (SqL K H b ys ∧ i ≤ ys.length) ∧ (SqL K H c zs ∧ i ≤ zs.length) ∧ (i = xs.length ∨ i = ys.length ∨ i = zs.length)
/-- the cells of the zip -/
structure Sep3 (z TI TO i1 i2 i3 a b c : Addr) : Prop where
  sep : ZipSep3 z TI TO i1 i2 i3 [i1, a] [i2, b] [i3, c]
  n1 : a ≠ i1
  n2 : b ≠ i2
  n3 : c ≠ i3
def tn3 (z TI TO i1 i2 i3 a b c : Addr) (i : Nat) (h : Heap) : Prop := IsZip h z TI TO .none ∧ IsTupOf3 h TI (.ref i1) (.ref i2) (.ref i3) ∧ (∃ u1 u2 u3, IsTupOf3 h TO u1 u2 u3) ∧ h.IsListIter i1 a i ∧ h.IsListIter i2 b i ∧ h.IsListIter i3 c i
theorem turn3 {P : Program} {w : World} {K : PySem.W.Frag} {ets : List Expr} {q : Nat} {tp : Pos} {a b c z TI TO i1 i2 i3 : Addr} (D : Sep3 z TI TO i1 i2 i3 a b c) :
    Turn P w K (.Tuple ets q tp) (It3 K a b c) [z, TI, TO, i1, i2, i3] z (tn3 z TI TO i1 i2 i3 a b c) where
  mem := List.mem_cons_self
  obj := fun i h st d hd => by
    obtain ⟨hz, hTI, ⟨_, _, _, hTO⟩, ⟨o1, e1, _, d1⟩, ⟨o2, e2, _, d2⟩, ⟨o3, e3, _, d3⟩⟩ := st
    simp only [List.mem_cons, List.not_mem_nil, or_false] at hd
    rcases hd with rfl | rfl | rfl | rfl | rfl | rfl
    · exact ⟨_, hz, fun v z => nomatch z⟩
    · exact ⟨_, hTI, fun v z => nomatch z⟩
    · exact ⟨_, hTO, fun v z => nomatch z⟩
    · exact ⟨o1, e1, fun v z => by rw [d1] at z; cases z⟩
    · exact ⟨o2, e2, fun v z => by rw [d2] at z; cases z⟩
    · exact ⟨o3, e3, fun v z => by rw [d3] at z; cases z⟩
  keep := fun i h h' st k => by
    obtain ⟨hz, hTI, ⟨u1, u2, u3, hTO⟩, s1, s2, s3⟩ := st
    exact ⟨k z (by simp) _ hz, k TI (by simp) _ hTI, ⟨u1, u2, u3, k TO (by simp) _ hTO⟩, s1.at fun o z => k i1 (by simp) o z, s2.at fun o z => k i2 (by simp) o z, s3.at fun o z => k i3 (by simp) o z⟩
  item := by
    intro X hP hw hK calm i pins s σ H E I hf st hg
    subst hP hw hK
    obtain ⟨hz, hTI, ⟨w1, w2, w3, hTO⟩, s1, s2, s3⟩ := st
    obtain ⟨xs, ys, zs, x, y, z0, ⟨q1, e1⟩, ⟨q2, e2⟩, q3, e3⟩ := hg
    obtain ⟨t1, r1, l1, _⟩ := I.list q1
    obtain ⟨t2, r2, l2, _⟩ := I.list q2
    obtain ⟨t3, r3, l3, _⟩ := I.list q3
    obtain ⟨u1, a1, b1⟩ := r1.get e1
    obtain ⟨u2, a2, b2⟩ := r2.get e2
    obtain ⟨u3, a3, b3⟩ := r3.get e3
    have calm1 : X.A.in1.handled = none := by simp [I.ok.hd calm]
    have zl : z < s.heap.objs.size := Heap.lt_size hz
    have lt1 := (List.getElem?_eq_some_iff.mp a1).1
    have lt2 := (List.getElem?_eq_some_iff.mp a2).1
    have lt3 := (List.getElem?_eq_some_iff.mp a3).1
    refine wpAny_pyNext_zipD3_item D.sep (Draws.list calm1 i1 a D.n1 t1.toArray) (Draws.list calm1 i2 b D.n2 t2.toArray) (Draws.list calm1 i3 c D.n3 t3.toArray) hz hTI hTO ⟨s1, l1.isList⟩ ⟨s2, l2.isList⟩ ⟨s3, l3.isList⟩ (by simpa using lt1) (by simpa using lt2) (by simpa using lt3)
      fun v1 v2 v3 h2 tk p1 p2 p3 z2 TO2 k1 k2 k3 hT hsz keep => ?_
    have p1 : t1[i]? = some v1 := by simpa using p1
    have p2 : t2[i]? = some v2 := by simpa using p2
    have p3 : t3[i]? = some v3 := by simpa using p3
    obtain rfl : u1 = v1 := by rw [a1] at p1; exact Option.some.inj p1
    obtain rfl : u2 = v2 := by rw [a2] at p2; exact Option.some.inj p2
    obtain rfl : u3 = v3 := by rw [a3] at p3; exact Option.some.inj p3
    refine ⟨_, rfl, wpAny_letOwnedTupleGo_zip (s := { s with heap := h2, toks := tk }) z2 fun h3 z3 sb => ?_⟩
    have hT3 : h3.get? s.heap.objs.size = some { cls := .type "tuple", data := .seq #[u1, u2, u3] } := (sb.2 _ (Nat.ne_of_gt zl)).trans hT
    have new : ObjOk X.prog X.w (upd H s.heap.objs.size (.tup [x, y, z0])) h3 s.heap.objs.size (.tup [x, y, z0]) := ⟨by show 3 ≤ sizeLine; decide, [u1, u2, u3], .cons b1 (.cons b2 (.cons b3 .nil)), ⟨_, hT3, rfl, _, rfl⟩⟩
    have I3 : Inv X pins σ (upd H s.heap.objs.size (.tup [x, y, z0])) { s with heap := h3, toks := tk } := by
      refine I.turnedNew (t' := tk) (ch := [z, TI, TO, i1, i2, i3]) (fun d o hd e => ?_) hf (Nat.le_refl _) new
      simp only [List.mem_cons, List.not_mem_nil, or_false, not_or] at hd
      exact (sb.2 d hd.1).trans (keep d o hd.1 hd.2.2.1 hd.2.2.2.1 hd.2.2.2.2.1 hd.2.2.2.2.2 e)
    refine ⟨.ref s.heap.objs.size, _, I3, rfl, ⟨_, x, y, z0, rfl, I.hok.fresh (Nat.le_refl _), rfl, fun l hl => by rw [I.list_inj hl q1]; exact e1, fun l hl => by rw [I.list_inj hl q2]; exact e2, fun l hl => by rw [I.list_inj hl q3]; exact e3⟩, ⟨z3, ?_, ⟨u1, u2, u3, ?_⟩, ?_, ?_, ?_⟩, fun d hd => ?_⟩
    · exact (sb.2 _ D.sep.TIz).trans (keep _ _ D.sep.TIz D.sep.TITO D.sep.TIi1 D.sep.TIi2 D.sep.TIi3 hTI)
    · exact (sb.2 _ D.sep.TOz).trans TO2
    · exact k1.1.at fun o e => (sb.2 _ (Ne.symm D.sep.zi1)).trans e
    · exact k2.1.at fun o e => (sb.2 _ (Ne.symm D.sep.zi2)).trans e
    · exact k3.1.at fun o e => (sb.2 _ (Ne.symm D.sep.zi3)).trans e
    · have lt : d < s.heap.objs.size := by
        simp only [List.mem_cons, List.not_mem_nil, or_false] at hd
        rcases hd with rfl | rfl | rfl | rfl | rfl | rfl
        · exact zl
        · exact Heap.lt_size hTI
        · exact Heap.lt_size hTO
        · obtain ⟨_, e, _⟩ := s1
          exact Heap.lt_size e
        · obtain ⟨_, e, _⟩ := s2
          exact Heap.lt_size e
        · obtain ⟨_, e, _⟩ := s3
          exact Heap.lt_size e
      rw [upd_ne (Nat.ne_of_lt lt)]
      exact (hf d hd).1
  done := by
    intro X hP hw hK calm i pins s σ H E I hf st hg
    subst hP hw hK
    obtain ⟨hz, hTI, ⟨w1, w2, w3, hTO⟩, s1, s2, s3⟩ := st
    obtain ⟨xs, ys, zs, ⟨q1, e1⟩, ⟨q2, e2⟩, ⟨q3, e3⟩, hend⟩ := hg
    obtain ⟨t1, r1, l1, _⟩ := I.list q1
    obtain ⟨t2, r2, l2, _⟩ := I.list q2
    obtain ⟨t3, r3, l3, _⟩ := I.list q3
    have m1 := r1.length
    have m2 := r2.length
    have m3 := r3.length
    have calm1 : X.A.in1.handled = none := by simp [I.ok.hd calm]
    refine wpAny_pyNext_zipD3_end D.sep (Draws.list calm1 i1 a D.n1 t1.toArray) (Draws.list calm1 i2 b D.n2 t2.toArray) (Draws.list calm1 i3 c D.n3 t3.toArray) hz hTI hTO ⟨s1, l1.isList⟩ ⟨s2, l2.isList⟩ ⟨s3, l3.isList⟩ (by simp; omega) (by simp; omega) (by simp; omega) (by simp; omega)
      fun h2 tk keep => ⟨rfl, I.turnedL (t' := tk) (ch := [z, TI, TO, i1, i2, i3]) (fun d o hd e => ?_) hf⟩
    simp only [List.mem_cons, List.not_mem_nil, or_false, not_or] at hd
    exact keep d o hd.1 hd.2.2.1 hd.2.2.2.1 hd.2.2.2.2.1 hd.2.2.2.2.2 e
  self := fun A i s Q E st h => wpAny_pyIter_zip st.1 h
theorem sep3_mk (n a b c : Nat) (la : a < n) (lb : b < n) (lc : c < n) : Sep3 (n + 5) (n + 3) (n + 4) n (n + 1) (n + 2) a b c := by
  refine ⟨⟨?_, ?_, ?_, ?_, ?_, ?_, ?_, ?_, ?_, ?_, ?_, ?_, ?_, ?_, ?_, ?_, ?_, ?_, ?_, ?_, ?_⟩, ?_, ?_, ?_⟩ <;>
    first
      | exact fun (h : @Eq Nat _ _) => by omega
      | exact List.mem_cons_self
      | (simp only [List.mem_cons, List.not_mem_nil, or_false, not_or]; exact ⟨fun (h : @Eq Nat _ _) => by omega, fun (h : @Eq Nat _ _) => by omega⟩)
def iZip3 (K : PySem.W.Frag) (ta : TA) : TI := fun σ H R => ta σ H fun vs H1 => ∃ a b c xs ys zs, vs = [.ref a, .ref b, .ref c] ∧ SqL K H1 a xs ∧ SqL K H1 b ys ∧ SqL K H1 c zs ∧ R (It3 K a b c) H1
theorem pi_zip3 {X : Cx} {e e2 e3 : Expr} {ta : TA} {p pos tp : Pos} {ets : List Expr} {kk : Nat} (hg : Gl X "zip") (hm : X.mg "zip" = none) (ha : PA X [e, e2, e3] ta)
    (hs : starEach [e, e2, e3] X.env = (false, eval e X.env) :: starEach [e2, e3] X.env := by rfl) (hpl : (backTo pos (starEach [e2, e3] X.env)).any (·.1) = false := by rfl) :
    PI X (.Tuple ets kk tp) (.Call (.Name "zip" p) [e, e2, e3] [] pos) (iZip3 X.K ta) := by
  refine ⟨fun pins s σ H R I h => Call_ (ld_blt I hg hm PyProof.Rows.boot_zip (PyProof.Rows.callWith_type1 (thn (ha.run pos pins s σ H _ I h) fun us s1 ⟨vs, H1, I1, rv, q1⟩ => ?_) hs hpl))⟩
  obtain ⟨a, b, c, xs, ys, zs, rfl, q1, q2, q3, q⟩ := q1
  cases rv with
  | cons r rv =>
    cases rv with
    | cons r' rv =>
      cases rv with
      | cons r'' rv =>
        cases rv
        cases r
        cases r'
        cases r''
        obtain ⟨t1, _, l1, _⟩ := I1.list q1
        obtain ⟨t2, _, l2, _⟩ := I1.list q2
        obtain ⟨t3, _, l3, _⟩ := I1.list q3
        have la : a < s1.heap.objs.size := l1.lt
        have lb : b < s1.heap.objs.size := l2.lt
        have lc : c < s1.heap.objs.size := l3.lt
        refine zip_begins3 (begins_list a t1.toArray) (begins_list b t2.toArray) (begins_list c t3.toArray) l1.isList l2.isList l3.isList fun h2 hz hTI hTO g1 g2 g3 hsz keep => wpAny_pyIter_zip hz ?_
        have I2 : Inv X pins σ H1 { s1 with heap := h2 } := I1.kept (t' := s1.toks) keep
        refine ⟨s1.heap.objs.size + 5, [s1.heap.objs.size + 5, s1.heap.objs.size + 3, s1.heap.objs.size + 4, s1.heap.objs.size, s1.heap.objs.size + 1, s1.heap.objs.size + 2], _, _, H1, rfl, I2, turn3 (sep3_mk s1.heap.objs.size a b c la lb lc), ⟨hz, hTI, ⟨_, _, _, hTO⟩, ⟨_, g1, rfl, rfl⟩, ⟨_, g2, rfl, rfl⟩, ⟨_, g3, rfl, rfl⟩⟩, fun d hd => ?_, q⟩
        have le : s1.heap.objs.size ≤ d := by
          simp only [List.mem_cons, List.not_mem_nil, or_false] at hd
          rcases hd with rfl | rfl | rfl | rfl | rfl | rfl
          · exact Nat.le_add_right _ _
          · exact Nat.le_add_right _ _
          · exact Nat.le_add_right _ _
          · exact Nat.le_refl _
          · exact Nat.le_add_right _ _
          · exact Nat.le_add_right _ _
        exact I1.fpOk le (I1.hok.fresh le)
def YTrip (xs ys zs : List V) : Nat → Hp → V → Hp → Prop := fun i H v H' => ∃ T x y z, v = .ref T ∧ H T = none ∧ H' = upd H T (.tup [x, y, z]) ∧ xs[i]? = some x ∧ ys[i]? = some y ∧ zs[i]? = some z
theorem walk_zip3 {K : PySem.W.Frag} {a b c : Addr} {xs ys zs : List V} {n : Nat} (hn : n = min (min xs.length ys.length) zs.length) : Walk (It3 K a b c) n (fun H => SqL K H a xs ∧ SqL K H b ys ∧ SqL K H c zs) (YTrip xs ys zs) := by
  subst hn
  refine ⟨fun i _ hi q => ?_, fun _ q => ⟨xs, ys, zs, ⟨q.1, by omega⟩, ⟨q.2.1, by omega⟩, ⟨q.2.2, by omega⟩, by omega⟩, fun i H v H' _ q y => ?_⟩
  · have h1 : i < xs.length := by omega
    have h2 : i < ys.length := by omega
    have h3 : i < zs.length := by omega
    exact ⟨xs, ys, zs, xs[i], ys[i], zs[i], ⟨q.1, by simp [h1]⟩, ⟨q.2.1, by simp [h2]⟩, q.2.2, by simp [h3]⟩
  · obtain ⟨T, x, y, z, h1, h2, h3, h4, h5, h6⟩ := y
    exact ⟨T, x, y, z, h1, h2, h3, h4 xs q.1, h5 ys q.2.1, h6 zs q.2.2⟩
end WT

set_option Elab.async false
set_option linter.all false
set_option maxRecDepth 100000
set_option maxHeartbeats 4000000
/-! for x, y, z in zip(a, b, c), three tuples. -/
namespace WT
open PySem PySem.Spec PyProof.Rows L2
def It3T (K : PySem.W.Frag) (a b c : Addr) : It where
  go i H := ∃ (xs ys zs : List V) (x y z : V), (SqT K H a xs ∧ xs[i]? = some x) ∧ (SqT K H b ys ∧ ys[i]? = some y) ∧ SqT K H c zs ∧ zs[i]? = some z
  yld i H v H' := ∃ T x y z, v = .ref T ∧ H T = none ∧ H' = upd H T (.tup [x, y, z]) ∧ (∀ l, SqT K H a l → l[i]? = some x) ∧ (∀ l, SqT K H b l → l[i]? = some y) ∧ ∀ l, SqT K H c l → l[i]? = some z
  stop i H := ∃ xs ys zs : List V, (SqT K H a xs ∧ i ≤ xs.length) ∧ (SqT K H b ys ∧ i ≤ ys.length) ∧ (SqT K H c zs ∧ i ≤ zs.length) ∧ (i = xs.length ∨ i = ys.length ∨ i = zs.length)
def tn3T (z TI TO i1 i2 i3 a b c : Addr) (i : Nat) (h : Heap) : Prop := IsZip h z TI TO .none ∧ IsTupOf3 h TI (.ref i1) (.ref i2) (.ref i3) ∧ (∃ u1 u2 u3, IsTupOf3 h TO u1 u2 u3) ∧ h.IsTupleIter i1 a i ∧ h.IsTupleIter i2 b i ∧ h.IsTupleIter i3 c i
theorem turn3T {P : Program} {w : World} {K : PySem.W.Frag} {ets : List Expr} {q : Nat} {tp : Pos} {a b c z TI TO i1 i2 i3 : Addr} (D : Sep3 z TI TO i1 i2 i3 a b c) :
    Turn P w K (.Tuple ets q tp) (It3T K a b c) [z, TI, TO, i1, i2, i3] z (tn3T z TI TO i1 i2 i3 a b c) where
  mem := List.mem_cons_self
  obj := fun i h st d hd => by
    obtain ⟨hz, hTI, ⟨_, _, _, hTO⟩, ⟨o1, e1, _, d1⟩, ⟨o2, e2, _, d2⟩, ⟨o3, e3, _, d3⟩⟩ := st
    simp only [List.mem_cons, List.not_mem_nil, or_false] at hd
    rcases hd with rfl | rfl | rfl | rfl | rfl | rfl
    · exact ⟨_, hz, fun v z => nomatch z⟩
    · exact ⟨_, hTI, fun v z => nomatch z⟩
    · exact ⟨_, hTO, fun v z => nomatch z⟩
    · exact ⟨o1, e1, fun v z => by rw [d1] at z; cases z⟩
    · exact ⟨o2, e2, fun v z => by rw [d2] at z; cases z⟩
    · exact ⟨o3, e3, fun v z => by rw [d3] at z; cases z⟩
  keep := fun i h h' st k => by
    obtain ⟨hz, hTI, ⟨u1, u2, u3, hTO⟩, s1, s2, s3⟩ := st
    exact ⟨k z (by simp) _ hz, k TI (by simp) _ hTI, ⟨u1, u2, u3, k TO (by simp) _ hTO⟩, s1.at fun o z => k i1 (by simp) o z, s2.at fun o z => k i2 (by simp) o z, s3.at fun o z => k i3 (by simp) o z⟩
  item := by
    intro X hP hw hK calm i pins s σ H E I hf st hg
    subst hP hw hK
    obtain ⟨hz, hTI, ⟨w1, w2, w3, hTO⟩, s1, s2, s3⟩ := st
    obtain ⟨xs, ys, zs, x, y, z0, ⟨q1, e1⟩, ⟨q2, e2⟩, q3, e3⟩ := hg
    obtain ⟨t1, r1, l1, _⟩ := I.tuple q1
    obtain ⟨t2, r2, l2, _⟩ := I.tuple q2
    obtain ⟨t3, r3, l3, _⟩ := I.tuple q3
    obtain ⟨u1, a1, b1⟩ := r1.get e1
    obtain ⟨u2, a2, b2⟩ := r2.get e2
    obtain ⟨u3, a3, b3⟩ := r3.get e3
    have calm1 : X.A.in1.handled = none := by simp [I.ok.hd calm]
    have zl : z < s.heap.objs.size := Heap.lt_size hz
    have lt1 := (List.getElem?_eq_some_iff.mp a1).1
    have lt2 := (List.getElem?_eq_some_iff.mp a2).1
    have lt3 := (List.getElem?_eq_some_iff.mp a3).1
    refine wpAny_pyNext_zipD3_item D.sep (Draws.tuple calm1 i1 a D.n1 t1.toArray) (Draws.tuple calm1 i2 b D.n2 t2.toArray) (Draws.tuple calm1 i3 c D.n3 t3.toArray) hz hTI hTO ⟨s1, l1⟩ ⟨s2, l2⟩ ⟨s3, l3⟩ (by simpa using lt1) (by simpa using lt2) (by simpa using lt3)
      fun v1 v2 v3 h2 tk p1 p2 p3 z2 TO2 k1 k2 k3 hT hsz keep => ?_
    have p1 : t1[i]? = some v1 := by simpa using p1
    have p2 : t2[i]? = some v2 := by simpa using p2
    have p3 : t3[i]? = some v3 := by simpa using p3
    obtain rfl : u1 = v1 := by rw [a1] at p1; exact Option.some.inj p1
    obtain rfl : u2 = v2 := by rw [a2] at p2; exact Option.some.inj p2
    obtain rfl : u3 = v3 := by rw [a3] at p3; exact Option.some.inj p3
    refine ⟨_, rfl, wpAny_letOwnedTupleGo_zip (s := { s with heap := h2, toks := tk }) z2 fun h3 z3 sb => ?_⟩
    have hT3 : h3.get? s.heap.objs.size = some { cls := .type "tuple", data := .seq #[u1, u2, u3] } := (sb.2 _ (Nat.ne_of_gt zl)).trans hT
    have new : ObjOk X.prog X.w (upd H s.heap.objs.size (.tup [x, y, z0])) h3 s.heap.objs.size (.tup [x, y, z0]) := ⟨by show 3 ≤ sizeLine; decide, [u1, u2, u3], .cons b1 (.cons b2 (.cons b3 .nil)), ⟨_, hT3, rfl, _, rfl⟩⟩
    have I3 : Inv X pins σ (upd H s.heap.objs.size (.tup [x, y, z0])) { s with heap := h3, toks := tk } := by
      refine I.turnedNew (t' := tk) (ch := [z, TI, TO, i1, i2, i3]) (fun d o hd e => ?_) hf (Nat.le_refl _) new
      simp only [List.mem_cons, List.not_mem_nil, or_false, not_or] at hd
      exact (sb.2 d hd.1).trans (keep d o hd.1 hd.2.2.1 hd.2.2.2.1 hd.2.2.2.2.1 hd.2.2.2.2.2 e)
    refine ⟨.ref s.heap.objs.size, _, I3, rfl, ⟨_, x, y, z0, rfl, I.hok.fresh (Nat.le_refl _), rfl, fun l hl => by rw [I.tuple_inj hl q1]; exact e1, fun l hl => by rw [I.tuple_inj hl q2]; exact e2, fun l hl => by rw [I.tuple_inj hl q3]; exact e3⟩, ⟨z3, ?_, ⟨u1, u2, u3, ?_⟩, ?_, ?_, ?_⟩, fun d hd => ?_⟩
    · exact (sb.2 _ D.sep.TIz).trans (keep _ _ D.sep.TIz D.sep.TITO D.sep.TIi1 D.sep.TIi2 D.sep.TIi3 hTI)
    · exact (sb.2 _ D.sep.TOz).trans TO2
    · exact k1.1.at fun o e => (sb.2 _ (Ne.symm D.sep.zi1)).trans e
    · exact k2.1.at fun o e => (sb.2 _ (Ne.symm D.sep.zi2)).trans e
    · exact k3.1.at fun o e => (sb.2 _ (Ne.symm D.sep.zi3)).trans e
    · have lt : d < s.heap.objs.size := by
        simp only [List.mem_cons, List.not_mem_nil, or_false] at hd
        rcases hd with rfl | rfl | rfl | rfl | rfl | rfl
        · exact zl
        · exact Heap.lt_size hTI
        · exact Heap.lt_size hTO
        · obtain ⟨_, e, _⟩ := s1
          exact Heap.lt_size e
        · obtain ⟨_, e, _⟩ := s2
          exact Heap.lt_size e
        · obtain ⟨_, e, _⟩ := s3
          exact Heap.lt_size e
      rw [upd_ne (Nat.ne_of_lt lt)]
      exact (hf d hd).1
  done := by
    intro X hP hw hK calm i pins s σ H E I hf st hg
    subst hP hw hK
    obtain ⟨hz, hTI, ⟨w1, w2, w3, hTO⟩, s1, s2, s3⟩ := st
    obtain ⟨xs, ys, zs, ⟨q1, e1⟩, ⟨q2, e2⟩, ⟨q3, e3⟩, hend⟩ := hg
    obtain ⟨t1, r1, l1, _⟩ := I.tuple q1
    obtain ⟨t2, r2, l2, _⟩ := I.tuple q2
    obtain ⟨t3, r3, l3, _⟩ := I.tuple q3
    have m1 := r1.length
    have m2 := r2.length
    have m3 := r3.length
    have calm1 : X.A.in1.handled = none := by simp [I.ok.hd calm]
    refine wpAny_pyNext_zipD3_end D.sep (Draws.tuple calm1 i1 a D.n1 t1.toArray) (Draws.tuple calm1 i2 b D.n2 t2.toArray) (Draws.tuple calm1 i3 c D.n3 t3.toArray) hz hTI hTO ⟨s1, l1⟩ ⟨s2, l2⟩ ⟨s3, l3⟩ (by simp; omega) (by simp; omega) (by simp; omega) (by simp; omega)
      fun h2 tk keep => ⟨rfl, I.turnedL (t' := tk) (ch := [z, TI, TO, i1, i2, i3]) (fun d o hd e => ?_) hf⟩
    simp only [List.mem_cons, List.not_mem_nil, or_false, not_or] at hd
    exact keep d o hd.1 hd.2.2.1 hd.2.2.2.1 hd.2.2.2.2.1 hd.2.2.2.2.2 e
  self := fun A i s Q E st h => wpAny_pyIter_zip st.1 h
def iZip3T (K : PySem.W.Frag) (ta : TA) : TI := fun σ H R => ta σ H fun vs H1 => ∃ a b c xs ys zs, vs = [.ref a, .ref b, .ref c] ∧ SqT K H1 a xs ∧ SqT K H1 b ys ∧ SqT K H1 c zs ∧ R (It3T K a b c) H1
theorem pi_zip3T {X : Cx} {e e2 e3 : Expr} {ta : TA} {p pos tp : Pos} {ets : List Expr} {kk : Nat} (hg : Gl X "zip") (hm : X.mg "zip" = none) (ha : PA X [e, e2, e3] ta)
    (hs : starEach [e, e2, e3] X.env = (false, eval e X.env) :: starEach [e2, e3] X.env := by rfl) (hpl : (backTo pos (starEach [e2, e3] X.env)).any (·.1) = false := by rfl) :
    PI X (.Tuple ets kk tp) (.Call (.Name "zip" p) [e, e2, e3] [] pos) (iZip3T X.K ta) := by
  refine ⟨fun pins s σ H R I h => Call_ (ld_blt I hg hm PyProof.Rows.boot_zip (PyProof.Rows.callWith_type1 (thn (ha.run pos pins s σ H _ I h) fun us s1 ⟨vs, H1, I1, rv, q1⟩ => ?_) hs hpl))⟩
  obtain ⟨a, b, c, xs, ys, zs, rfl, q1, q2, q3, q⟩ := q1
  cases rv with
  | cons r rv =>
    cases rv with
    | cons r' rv =>
      cases rv with
      | cons r'' rv =>
        cases rv
        cases r
        cases r'
        cases r''
        obtain ⟨t1, _, l1, _⟩ := I1.tuple q1
        obtain ⟨t2, _, l2, _⟩ := I1.tuple q2
        obtain ⟨t3, _, l3, _⟩ := I1.tuple q3
        have la : a < s1.heap.objs.size := l1.lt
        have lb : b < s1.heap.objs.size := l2.lt
        have lc : c < s1.heap.objs.size := l3.lt
        refine zip_begins3 (begins_tuple a t1.toArray) (begins_tuple b t2.toArray) (begins_tuple c t3.toArray) l1 l2 l3 fun h2 hz hTI hTO g1 g2 g3 hsz keep => wpAny_pyIter_zip hz ?_
        have I2 : Inv X pins σ H1 { s1 with heap := h2 } := I1.kept (t' := s1.toks) keep
        refine ⟨s1.heap.objs.size + 5, [s1.heap.objs.size + 5, s1.heap.objs.size + 3, s1.heap.objs.size + 4, s1.heap.objs.size, s1.heap.objs.size + 1, s1.heap.objs.size + 2], _, _, H1, rfl, I2, turn3T (sep3_mk s1.heap.objs.size a b c la lb lc), ⟨hz, hTI, ⟨_, _, _, hTO⟩, ⟨_, g1, rfl, rfl⟩, ⟨_, g2, rfl, rfl⟩, ⟨_, g3, rfl, rfl⟩⟩, fun d hd => ?_, q⟩
        have le : s1.heap.objs.size ≤ d := by
          simp only [List.mem_cons, List.not_mem_nil, or_false] at hd
          rcases hd with rfl | rfl | rfl | rfl | rfl | rfl
          · exact Nat.le_add_right _ _
          · exact Nat.le_add_right _ _
          · exact Nat.le_add_right _ _
          · exact Nat.le_refl _
          · exact Nat.le_add_right _ _
          · exact Nat.le_add_right _ _
        exact I1.fpOk le (I1.hok.fresh le)
def YTripT (xs ys zs : List V) : Nat → Hp → V → Hp → Prop := fun i H v H' => ∃ T x y z, v = .ref T ∧ H T = none ∧ H' = upd H T (.tup [x, y, z]) ∧ xs[i]? = some x ∧ ys[i]? = some y ∧ zs[i]? = some z
theorem walk_zip3T {K : PySem.W.Frag} {a b c : Addr} {xs ys zs : List V} {n : Nat} (hn : n = min (min xs.length ys.length) zs.length) : Walk (It3T K a b c) n (fun H => SqT K H a xs ∧ SqT K H b ys ∧ SqT K H c zs) (YTripT xs ys zs) := by
  subst hn
  refine ⟨fun i _ hi q => ?_, fun _ q => ⟨xs, ys, zs, ⟨q.1, by omega⟩, ⟨q.2.1, by omega⟩, ⟨q.2.2, by omega⟩, by omega⟩, fun i H v H' _ q y => ?_⟩
  · have h1 : i < xs.length := by omega
    have h2 : i < ys.length := by omega
    have h3 : i < zs.length := by omega
    exact ⟨xs, ys, zs, xs[i], ys[i], zs[i], ⟨q.1, by simp [h1]⟩, ⟨q.2.1, by simp [h2]⟩, q.2.2, by simp [h3]⟩
  · obtain ⟨T, x, y, z, h1, h2, h3, h4, h5, h6⟩ := y
    exact ⟨T, x, y, z, h1, h2, h3, h4 xs q.1, h5 ys q.2.1, h6 zs q.2.2⟩
end WT

set_option Elab.async false
set_option linter.all false
set_option maxRecDepth 100000
set_option maxHeartbeats 4000000
namespace WT
open PySem PySem.Spec PyProof.Rows L2
/-! ### every second item; values that are paths -/
def evR {α : Type} : List α → List α
  | [] => []
  | [x] => [x]
  | x :: _ :: t => x :: evR t
def odR {α : Type} : List α → List α
  | [] => []
  | [_] => []
  | _ :: y :: t => y :: odR t
theorem evR_len {α : Type} : ∀ xs : List α, (evR xs).length = (xs.length + 1) / 2
  | [] => by simp [evR]
  | [x] => by simp [evR]
  | x :: y :: t => by
    have := evR_len t
    simp only [evR, List.length_cons]
    omega
theorem odR_len {α : Type} : ∀ xs : List α, (odR xs).length = xs.length / 2
  | [] => by simp [odR]
  | [x] => by simp [odR]
  | x :: y :: t => by
    have := odR_len t
    simp only [odR, List.length_cons]
    omega
theorem evR_at {α : Type} : ∀ (xs : List α) (i : Nat), (evR xs)[i]? = xs[2 * i]?
  | [], i => by simp [evR]
  | [x], 0 => rfl
  | [x], i + 1 => by
    show none = _
    rw [List.getElem?_eq_none (by simp; omega)]
  | x :: y :: t, 0 => rfl
  | x :: y :: t, i + 1 => by
    show (evR t)[i]? = (x :: y :: t)[2 * (i + 1)]?
    rw [evR_at t i, show 2 * (i + 1) = 2 * i + 1 + 1 by omega, List.getElem?_cons_succ, List.getElem?_cons_succ]
theorem odR_at {α : Type} : ∀ (xs : List α) (i : Nat), (odR xs)[i]? = xs[2 * i + 1]?
  | [], i => by simp [odR]
  | [x], i => by
    show none = _
    rw [List.getElem?_eq_none (by simp)]
  | x :: y :: t, 0 => rfl
  | x :: y :: t, i + 1 => by
    show (odR t)[i]? = (x :: y :: t)[2 * (i + 1) + 1]?
    rw [odR_at t i, show 2 * (i + 1) + 1 = 2 * i + 1 + 1 + 1 by omega, List.getElem?_cons_succ, List.getElem?_cons_succ]
theorem step_evR {α : Type} (xs : List α) : stepL xs none none 2 = evR xs := by
  have h := pick_all (evR xs)
  have e : Builtin.Slice.slicePlaces (Builtin.Slice.sliceAdjust none none 2 (xs.length : Int)).1 (Builtin.Slice.sliceAdjust none none 2 (xs.length : Int)).2 2 = (evR xs).length := by
    rw [evR_len]
    unfold Builtin.Slice.slicePlaces Builtin.Slice.sliceAdjust
    simp
    split <;> omega
  unfold stepL
  rw [e]
  refine Eq.trans ?_ h
  congr 1
  funext m
  have : (Builtin.Slice.sliceAdjust none none 2 (xs.length : Int)).1 = 0 := rfl
  rw [this, show ((0 : Int) + (m : Int) * 2).toNat = 2 * m by omega]
  exact (evR_at xs m).symm
theorem step_odR {α : Type} (xs : List α) : stepL xs (some 1) none 2 = odR xs := by
  cases xs with
  | nil => rfl
  | cons x xs =>
    have h := pick_all (odR (x :: xs))
    have e0 : (Builtin.Slice.sliceAdjust (some 1) none 2 ((x :: xs).length : Int)).1 = 1 := by
      unfold Builtin.Slice.sliceAdjust
      simp
      omega
    have e : Builtin.Slice.slicePlaces (Builtin.Slice.sliceAdjust (some 1) none 2 ((x :: xs).length : Int)).1 (Builtin.Slice.sliceAdjust (some 1) none 2 ((x :: xs).length : Int)).2 2 = (odR (x :: xs)).length := by
      rw [e0, odR_len]
      unfold Builtin.Slice.slicePlaces Builtin.Slice.sliceAdjust
      simp
      split <;> omega
    unfold stepL
    rw [e]
    refine Eq.trans ?_ h
    congr 1
    funext m
    rw [e0, show ((1 : Int) + (m : Int) * 2).toNat = 2 * m + 1 by omega]
    exact (odR_at (x :: xs) m).symm
theorem evR_map {α β : Type} (f : α → β) : ∀ xs : List α, evR (xs.map f) = (evR xs).map f
  | [] => rfl
  | [x] => rfl
  | x :: y :: t => by
    show f x :: evR (t.map f) = f x :: (evR t).map f
    rw [evR_map f t]
theorem odR_map {α β : Type} (f : α → β) : ∀ xs : List α, odR (xs.map f) = (odR xs).map f
  | [] => rfl
  | [x] => rfl
  | x :: y :: t => by
    show f y :: odR (t.map f) = f y :: (odR t).map f
    rw [odR_map f t]
theorem dt_evR {K : PySem.W.Frag} {H : Hp} : ∀ {xs : List V} {ds : List PyData}, DtAll K H xs ds → DtAll K H (evR xs) (evR ds)
  | _, _, .nil => .nil
  | _, _, .cons h .nil => .cons h .nil
  | _, _, .cons h (.cons _ t) => .cons h (dt_evR t)
theorem dt_odR {K : PySem.W.Frag} {H : Hp} : ∀ {xs : List V} {ds : List PyData}, DtAll K H xs ds → DtAll K H (odR xs) (odR ds)
  | _, _, .nil => .nil
  | _, _, .cons _ .nil => .nil
  | _, _, .cons _ (.cons h t) => .cons h (dt_odR t)
theorem dt_strs {K : PySem.W.Frag} {H : Hp} : ∀ {ss : List Str} {xs : List V}, DtAll K H xs (ss.map PyData.str) → xs = ss.map V.str
  | [], _, h => by
    cases h
    rfl
  | s :: ss, _, h => by
    cases h with
    | cons h t =>
      cases h
      rw [dt_strs t]
      rfl
theorem dt_at {K : PySem.W.Frag} {H : Hp} : ∀ {xs : List V} {ds : List PyData} {i : Nat} {x : V}, DtAll K H xs ds → xs[i]? = some x → ∃ d, ds[i]? = some d ∧ Dt K H x d
  | _, _, _, _, .nil, h => by simp at h
  | _, _, 0, _, .cons h _, e => by
    cases e
    exact ⟨_, rfl, h⟩
  | _, _, i + 1, _, .cons _ t, e => dt_at (i := i) t e
/-- both halves are texts: the whole is -/
theorem halves : ∀ {ds : List PyData} {es os : List Str}, evR ds = es.map PyData.str → odR ds = os.map PyData.str → ∃ ss : List Str, ds = ss.map PyData.str ∧ evR ss = es ∧ odR ss = os
  | [], [], [], _, _ => ⟨[], rfl, rfl, rfl⟩
  | [d], [e], [], h, _ => by
    have : d = .str e := by simpa [evR] using h
    exact ⟨[e], by rw [this]; rfl, rfl, rfl⟩
  | d :: d2 :: t, e :: es, o :: os, h, k => by
    have h1 : d = .str e ∧ evR t = es.map PyData.str := by simpa [evR] using h
    have k1 : d2 = .str o ∧ odR t = os.map PyData.str := by simpa [odR] using k
    obtain ⟨ss, a1, a2, a3⟩ := halves h1.2 k1.2
    exact ⟨e :: o :: ss, by rw [h1.1, k1.1, a1]; rfl, by rw [← a2]; rfl, by rw [← a3]; rfl⟩
  | [], _ :: _, _, h, _ => by simp [evR] at h
  | [], [], _ :: _, _, k => by simp [odR] at k
  | [_], [], _, h, _ => by simp [evR] at h
  | [_], _ :: _ :: _, _, h, _ => by simp [evR] at h
  | [_], [_], _ :: _, _, k => by simp [odR] at k
  | _ :: _ :: _, [], _, h, _ => by simp [evR] at h
  | _ :: _ :: _, _ :: _, [], _, k => by simp [odR] at k
/-- texts that are a path of the world -/
structure PathI (rs : List Str) (gs : List Gt) (ss : List Str) : Prop where
  odd : ss.length % 2 = 1
  reg : ∀ s ∈ evR ss, s ∈ rs
  gat : ∀ s ∈ odR ss, s ∈ gs.map (·.1)
  rnd : (evR ss).Nodup
  gnd : (odR ss).Nodup
  join : ∀ (i : Nat) (n x y : Str), (odR ss)[i]? = some n → (evR ss)[i]? = some x → (evR ss)[i + 1]? = some y → Has gs n x y
def IsPathD (rs : List Str) (gs : List Gt) (d : PyData) : Prop := ∃ ss, d = .tuple (ss.map PyData.str) ∧ PathI rs gs ss
/-- different ones among the known -/
def DiffD (ks : List Str) (ds : List PyData) : Prop := ∃ ss : List Str, ds = ss.map PyData.str ∧ (∀ s ∈ ss, s ∈ ks) ∧ ss.Nodup
theorem strs_inj {a b : List Str} (h : a.map PyData.str = b.map PyData.str) : a = b := by
  induction a generalizing b with
  | nil =>
    cases b with
    | nil => rfl
    | cons _ _ => cases h
  | cons x a ih =>
    cases b with
    | nil => cases h
    | cons y b =>
      injection h with h1 h2
      injection h1 with h1
      rw [h1, ih h2]
theorem all_in_iff {ks : List Str} : ∀ ds : List PyData, (ds.map fun d => isIn d ks).all id = true ↔ ∃ ss : List Str, ds = ss.map PyData.str ∧ ∀ s ∈ ss, s ∈ ks
  | [] => by
    exact ⟨fun _ => ⟨[], rfl, fun s hs => by cases hs⟩, fun _ => rfl⟩
  | d :: ds => by
    have ih := all_in_iff (ks := ks) ds
    rw [List.map_cons, List.all_cons, Bool.and_eq_true, ih]
    constructor
    · rintro ⟨h1, ss, rfl, h2⟩
      cases d with
      | str s =>
        refine ⟨s :: ss, rfl, fun z hz => ?_⟩
        rcases List.mem_cons.mp hz with e | hz
        · rw [e]
          exact of_decide_eq_true h1
        · exact h2 z hz
      | _ => cases h1
    · rintro ⟨ss, e, h2⟩
      cases ss with
      | nil => cases e
      | cons s ss =>
        injection e with e1 e2
        subst e1
        exact ⟨decide_eq_true (h2 s List.mem_cons_self), ss, e2, fun z hz => h2 z (List.mem_cons_of_mem _ hz)⟩
end WT

set_option Elab.async false
set_option linter.all false
set_option maxRecDepth 100000
set_option maxHeartbeats 4000000
/-! is_cycle of any value. -/
namespace WT
open PySem PySem.Spec PyProof.Rows L2
def duoD (p : Str × Str) : PyData := .tuple [.str p.1, .str p.2]
structure CycI (rs : List Str) (gs : List Gt) (ps : List (Str × Str)) : Prop where
  two : 2 ≤ ps.length
  reg : ∀ x ∈ ps.map (·.1), x ∈ rs
  gat : ∀ n ∈ ps.map (·.2), n ∈ gs.map (·.1)
  rnd : (ps.map (·.1)).Nodup
  gnd : (ps.map (·.2)).Nodup
  join : ∀ (i : Nat) (p : Str × Str) (y : Str), ps[i]? = some p → ((ps.map (·.1)).tail ++ (ps.map (·.1)).take 1)[i]? = some y → Has gs p.2 p.1 y
/-- any value that is a cycle -/
def IsCycD (rs : List Str) (gs : List Gt) (d : PyData) : Prop := ∃ ps, d = .tuple (ps.map duoD) ∧ CycI rs gs ps
def isPair : PyData → Bool
  | .tuple [_, _] => true
  | _ => false
def twoD (q : PyData × PyData) : PyData := .tuple [q.1, q.2]
theorem isPair_of {d : PyData} (h : isPair d = true) : ∃ q, d = twoD q := by
  unfold isPair at h
  split at h
  · exact ⟨(_, _), rfl⟩
  · cases h
theorem all_pairs : ∀ ds : List PyData, (ds.map isPair).all id = true ↔ ∃ qs : List (PyData × PyData), ds = qs.map twoD
  | [] => ⟨fun _ => ⟨[], rfl⟩, fun _ => rfl⟩
  | d :: ds => by
    rw [List.map_cons, List.all_cons, Bool.and_eq_true, all_pairs ds]
    constructor
    · rintro ⟨h, qs, rfl⟩
      obtain ⟨q, rfl⟩ := isPair_of h
      exact ⟨q :: qs, rfl⟩
    · rintro ⟨qs, e⟩
      cases qs with
      | nil => cases e
      | cons q qs =>
        rw [List.map_cons] at e
        injection e with e1 e2
        rw [e1]
        exact ⟨rfl, qs, e2⟩
theorem pairs_txt : ∀ {qs : List (PyData × PyData)} {rr nn : List Str}, qs.map (·.1) = rr.map PyData.str → qs.map (·.2) = nn.map PyData.str → ∃ ps : List (Str × Str), qs.map twoD = ps.map duoD ∧ ps.map (·.1) = rr ∧ ps.map (·.2) = nn
  | [], rr, nn, h1, h2 => by
    cases rr with
    | nil =>
      cases nn with
      | nil => exact ⟨[], rfl, rfl, rfl⟩
      | cons _ _ => cases h2
    | cons _ _ => cases h1
  | q :: qs, rr, nn, h1, h2 => by
    cases rr with
    | nil => cases h1
    | cons r rr =>
      cases nn with
      | nil => cases h2
      | cons n nn =>
        simp only [List.map_cons, List.cons.injEq] at h1 h2
        obtain ⟨ps, e1, e2, e3⟩ := pairs_txt h1.2 h2.2
        refine ⟨(r, n) :: ps, ?_, ?_, ?_⟩
        · rw [List.map_cons, List.map_cons, e1]
          congr 1
          unfold twoD duoD
          rw [h1.1, h2.1]
        · rw [List.map_cons, e2]
        · rw [List.map_cons, e3]
theorem two_pair : ∀ {qs : List (PyData × PyData)} {ps : List (Str × Str)}, qs.map twoD = ps.map duoD → qs.map (·.1) = (ps.map (·.1)).map PyData.str ∧ qs.map (·.2) = (ps.map (·.2)).map PyData.str
  | [], [], _ => ⟨rfl, rfl⟩
  | [], _ :: _, h => by cases h
  | _ :: _, [], h => by cases h
  | q :: qs, p :: ps, h => by
    simp only [List.map_cons, List.cons.injEq] at h
    obtain ⟨a, b⟩ := two_pair h.2
    have e := h.1
    unfold twoD duoD at e
    injection e with e
    injection e with e1 e2
    injection e2 with e2 _
    simp only [List.map_cons, a, b, e1, e2]
    exact ⟨trivial, trivial⟩
theorem duoD_two (ps : List (Str × Str)) : ps.map duoD = (ps.map fun p => (PyData.str p.1, PyData.str p.2)).map twoD := by
  rw [List.map_map]
  rfl
theorem pairs_inj {ps qs : List (Str × Str)} (h : ps.map duoD = qs.map duoD) : ps = qs := by
  have a := two_pair (qs := ps.map fun p => (PyData.str p.1, PyData.str p.2)) (ps := qs) (by rw [← duoD_two]; exact h)
  have e1 : ps.map (·.1) = qs.map (·.1) := strs_inj (by rw [← a.1, List.map_map, List.map_map]; rfl)
  have e2 : ps.map (·.2) = qs.map (·.2) := strs_inj (by rw [← a.2, List.map_map, List.map_map]; rfl)
  have : ∀ {ps qs : List (Str × Str)}, ps.map (·.1) = qs.map (·.1) → ps.map (·.2) = qs.map (·.2) → ps = qs := fun {ps} => by
    induction ps with
    | nil =>
      intro qs h _
      cases qs with
      | nil => rfl
      | cons _ _ => cases h
    | cons p ps ih =>
      intro qs h1 h2
      cases qs with
      | nil => cases h1
      | cons q qs =>
        simp only [List.map_cons, List.cons.injEq] at h1 h2
        rw [ih h1.2 h2.2]
        congr 1
        exact Prod.ext h1.1 h2.1
  exact this e1 e2
section
variable {K : PySem.W.Frag} {H : Hp}
theorem dt_two {x : V} {q : PyData × PyData} (h : Dt K H x (twoD q)) : ∃ u a b, x = .ref u ∧ SqT K H u [a, b] ∧ Dt K H a q.1 ∧ Dt K H b q.2 := by
  unfold twoD at h
  cases h with
  | tup h1 h2 =>
    cases h2 with
    | cons k1 k2 =>
      cases k2 with
      | cons k2 k3 =>
        cases k3
        exact ⟨_, _, _, rfl, h1, k1, k2⟩
theorem dt_snoc : ∀ {xs : List V} {ds : List PyData} {x : V} {d : PyData}, DtAll K H xs ds → Dt K H x d → DtAll K H (xs ++ [x]) (ds ++ [d])
  | [], _, _, _, .nil, k => .cons k .nil
  | _ :: _, _, _, _, .cons h t, k => .cons h (dt_snoc t k)
end
end WT
namespace WT
open PySem PySem.Spec PyProof.Rows L2
/-- the first j of ds are such pairs -/
structure PreC (rs : List Str) (gs : List Gt) (ds : List PyData) (j : Nat) (ps : List (Str × Str)) : Prop where
  data : ds.take j = ps.map duoD
  len : ps.length = j
  reg : ∀ x ∈ ps.map (·.1), x ∈ rs
  gat : ∀ n ∈ ps.map (·.2), n ∈ gs.map (·.1)
  rnd : (ps.map (·.1)).Nodup
  gnd : (ps.map (·.2)).Nodup
theorem nodup_snoc {l : List Str} {x : Str} (h : l.Nodup) (k : x ∉ l) : (l ++ [x]).Nodup := by
  refine List.nodup_append.mpr ⟨h, by simp, fun a ha b hb e => ?_⟩
  have hb : b = x := by simpa using hb
  exact k (hb ▸ e ▸ ha)
section
variable {rs : List Str} {gs : List Gt} {ds : List PyData} {j : Nat} {ps : List (Str × Str)}
theorem PreC.next {p : Str × Str} (h : PreC rs gs ds j ps) (hp : ds[j]? = some (duoD p)) (h1 : p.1 ∈ rs) (h2 : p.2 ∈ gs.map (·.1)) (h3 : p.1 ∉ ps.map (·.1)) (h4 : p.2 ∉ ps.map (·.2)) : PreC rs gs ds (j + 1) (ps ++ [p]) := by
  refine ⟨?_, ?_, fun x hx => ?_, fun x hx => ?_, ?_, ?_⟩
  · rw [List.take_add_one, hp, h.data, List.map_append]
    rfl
  · rw [List.length_append, h.len]
    rfl
  · rw [List.map_append] at hx
    rcases List.mem_append.mp hx with hx | hx
    · exact h.reg x hx
    · have : x = p.1 := by simpa using hx
      rw [this]
      exact h1
  · rw [List.map_append] at hx
    rcases List.mem_append.mp hx with hx | hx
    · exact h.gat x hx
    · have : x = p.2 := by simpa using hx
      rw [this]
      exact h2
  · rw [List.map_append]
    exact nodup_snoc h.rnd h3
  · rw [List.map_append]
    exact nodup_snoc h.gnd h4
theorem nodup_no {l : List Str} {j : Nat} {x : Str} (h : l.Nodup) (hx : l[j]? = some x) : x ∉ l.take j := fun z => by
  obtain ⟨i, hi, e⟩ := List.getElem_of_mem z
  rw [List.length_take] at hi
  obtain ⟨hj, ej⟩ := List.getElem?_eq_some_iff.mp hx
  rw [List.getElem_take] at e
  exact (List.pairwise_iff_getElem.mp h i j (by omega) hj (by omega)) (e.trans ej.symm)
theorem PreC.fails (h : PreC rs gs ds j ps) (hj : j < ds.length) (bad : ∀ p, ds[j]? = some (duoD p) → p.1 ∉ rs ∨ p.2 ∉ gs.map (·.1) ∨ p.1 ∈ ps.map (·.1) ∨ p.2 ∈ ps.map (·.2)) : ¬ IsCycD rs gs (.tuple ds) := by
  rintro ⟨qs, e, C⟩
  injection e with e
  have lq : j < qs.length := by rw [e, List.length_map] at hj; exact hj
  have hq : qs[j]? = some qs[j] := List.getElem?_eq_getElem lq
  have ep : qs.take j = ps := pairs_inj (by rw [← h.data, e, List.map_take])
  have a1 : (qs.map (·.1))[j]? = some qs[j].1 := by rw [List.getElem?_map, hq]; rfl
  have a2 : (qs.map (·.2))[j]? = some qs[j].2 := by rw [List.getElem?_map, hq]; rfl
  rcases bad qs[j] (by rw [e, List.getElem?_map, hq]; rfl) with b | b | b | b
  · exact b (C.reg _ (List.mem_of_getElem? a1))
  · exact b (C.gat _ (List.mem_of_getElem? a2))
  · rw [← ep, List.map_take] at b
    exact nodup_no C.rnd a1 b
  · rw [← ep, List.map_take] at b
    exact nodup_no C.gnd a2 b
end
section
variable {K : PySem.W.Frag} {H : Hp}
/-- value[lo:hi] of a tuple -/
theorem sl_dt {p : Addr} {xs : List V} {lo hi : Option Int} {Q : VK} (h : SqT K H p xs) (k : ∀ q H', Same H H' → SqT K H' q (cutV xs lo hi) → Q (.ref q) H') : rSlA K (.ref p) lo hi H Q := by
  refine ⟨p, xs, rfl, h, fun c => k p H (fun _ _ e => e) ?_, fun _ q n => k q _ (same_new n) (SqT.of upd_same)⟩
  have : cutV xs lo hi = xs := by
    unfold cutV
    rw [c.1, c.2, List.drop_zero, Nat.sub_zero, List.take_length]
  rw [this]
  exact h
theorem cutV_left {xs : List V} {j : Nat} (h : j ≤ xs.length) : cutV xs none (some (j : Int)) = xs.take j := by
  unfold cutV
  rw [HT.sIx_none, HT.sIx_nat, List.drop_zero, Nat.sub_zero, Nat.min_eq_left h]
theorem dt_duoD {x : V} {p : Str × Str} (h : Dt K H x (duoD p)) : ∃ u, x = .ref u ∧ SqT K H u [.str p.1, .str p.2] := by
  obtain ⟨u, a, b, e, h1, h2, h3⟩ := dt_two (q := (.str p.1, .str p.2)) h
  cases h2
  cases h3
  exact ⟨u, e, h1⟩
end
end WT

set_option Elab.async false
set_option linter.all false
set_option maxRecDepth 100000
set_option maxHeartbeats 4000000
/-! values near a path: data of small parts, with a weight; a heap without some objects (the hand, a list that grows), so that they stay while those change. -/
namespace WT
open PySem PySem.Spec PyProof.Rows L2
/-- a text of signs below 128 -/
def Asc (s : Str) : Prop := ∀ c ∈ s.cps.toList, c < 128
/-- data of small parts -/
inductive Nr : PyData → Prop
  | non : Nr .none
  | bl (b : Bool) : Nr (.bool b)
  | int (i : Int) (h : (PyData.shown (.int i)).length ≤ 40) (k : PyData.showable (.int i) = true) : Nr (.int i)
  | str (s : Str) (h : Asc s) : Nr (.str s)
  | lst (ds : List PyData) (h : ∀ d ∈ ds, Nr d) : Nr (.list ds)
  | tup (ds : List PyData) (h : ∀ d ∈ ds, Nr d) : Nr (.tuple ds)
  | dic : Nr (.dict [])
theorem short_all {B : Nat} : ∀ {ds : List PyData}, (∀ d ∈ ds, d.showable = true ∧ d.leavesShort B = true) → PyData.showableAll ds = true ∧ PyData.leavesShortAll B ds = true
  | [], _ => ⟨rfl, rfl⟩
  | d :: ds, h => by
    obtain ⟨a, b⟩ := short_all fun x hx => h x (List.mem_cons_of_mem _ hx)
    obtain ⟨c, e⟩ := h d List.mem_cons_self
    rw [PyData.showableAll, PyData.leavesShortAll, a, b, c, e]
    exact ⟨rfl, rfl⟩
theorem Nr.short {d : PyData} (h : Nr d) : d.showable = true ∧ d.leavesShort 40 = true := by
  induction h with
  | non => exact ⟨rfl, rfl⟩
  | bl b => exact ⟨rfl, rfl⟩
  | int i h k => exact ⟨k, by rw [PyData.leavesShort]; exact decide_eq_true h⟩
  | str s h =>
    refine ⟨rfl, ?_⟩
    rw [PyData.leavesShort, List.all_eq_true]
    intro c hc
    have := h c hc
    have e : (16 : Nat) ^ 8 = 4294967296 := by decide
    exact decide_eq_true (by omega)
  | lst ds h ih =>
    rw [PyData.showable, PyData.leavesShort]
    exact short_all ih
  | tup ds h ih =>
    rw [PyData.showable, PyData.leavesShort]
    exact short_all ih
  | dic => exact ⟨by decide +kernel, by decide +kernel⟩
theorem Nr.fit {d : PyData} (h : Nr d) : Fit d.depth (42 * d.weight + 40) d := ⟨h.short.1, Nat.le_refl _, PyData.shown_le 40 (by decide) d h.short.2⟩
/-- no more than this of weight and depth -/
structure Sm (W D : Nat) (d : PyData) : Prop where
  nr : Nr d
  wt : d.weight ≤ W
  de : d.depth ≤ D
theorem Sm.mono {W D W' D' : Nat} {d : PyData} (h : Sm W D d) (h1 : W ≤ W') (h2 : D ≤ D') : Sm W' D' d := ⟨h.nr, Nat.le_trans h.wt h1, Nat.le_trans h.de h2⟩
theorem Sm.fit {W D : Nat} {d : PyData} (h : Sm W D d) : Fit D (42 * W + 40) d := h.nr.fit.mono h.de (by have := h.wt; omega)
/-- parts of small weight all together -/
structure SmA (W D : Nat) (ds : List PyData) : Prop where
  nr : ∀ d ∈ ds, Nr d
  wt : PyData.weightAll ds ≤ W
  de : PyData.depthAll ds ≤ D
theorem w_nil : PyData.weightAll [] = 0 := by rw [PyData.weightAll]
theorem d_nil : PyData.depthAll [] = 0 := by rw [PyData.depthAll]
theorem w_cons (d : PyData) (ds : List PyData) : PyData.weightAll (d :: ds) = d.weight + 1 + PyData.weightAll ds := by rw [PyData.weightAll]
theorem d_cons (d : PyData) (ds : List PyData) : PyData.depthAll (d :: ds) = max d.depth (PyData.depthAll ds) := by rw [PyData.depthAll]
theorem w_app : ∀ (a b : List PyData), PyData.weightAll (a ++ b) = PyData.weightAll a + PyData.weightAll b
  | [], b => by rw [List.nil_append, w_nil, Nat.zero_add]
  | d :: a, b => by
    rw [List.cons_append, w_cons, w_cons, w_app a b]
    omega
theorem d_app : ∀ (a b : List PyData), PyData.depthAll (a ++ b) = max (PyData.depthAll a) (PyData.depthAll b)
  | [], b => by rw [List.nil_append, d_nil, Nat.zero_max]
  | d :: a, b => by
    rw [List.cons_append, d_cons, d_cons, d_app a b]
    omega
theorem w_rev : ∀ a : List PyData, PyData.weightAll a.reverse = PyData.weightAll a
  | [] => rfl
  | d :: a => by
    rw [List.reverse_cons, w_app, w_rev a, w_cons, w_cons, w_nil]
    omega
theorem d_rev : ∀ a : List PyData, PyData.depthAll a.reverse = PyData.depthAll a
  | [] => rfl
  | d :: a => by
    rw [List.reverse_cons, d_app, d_rev a, d_cons, d_cons, d_nil]
    omega
theorem w_len : ∀ a : List PyData, a.length ≤ PyData.weightAll a
  | [] => Nat.zero_le _
  | d :: a => by
    have := w_len a
    rw [List.length_cons, w_cons]
    omega
theorem Sm.parts {W D : Nat} {ds : List PyData} (h : Sm W D (.tuple ds)) : SmA W (D - 1) ds ∧ 1 ≤ D := by
  obtain ⟨a, b, c⟩ := h
  rw [PyData.weight] at b
  rw [PyData.depth] at c
  cases a with
  | tup _ a => exact ⟨⟨a, b, by omega⟩, by omega⟩
theorem SmA.tup {W D : Nat} {ds : List PyData} (h : SmA W D ds) : Sm W (D + 1) (.tuple ds) := ⟨.tup _ h.nr, by rw [PyData.weight]; exact h.wt, by rw [PyData.depth]; have := h.de; omega⟩
theorem SmA.lst {W D : Nat} {ds : List PyData} (h : SmA W D ds) : Sm W (D + 1) (.list ds) := ⟨.lst _ h.nr, by rw [PyData.weight]; exact h.wt, by rw [PyData.depth]; have := h.de; omega⟩
theorem SmA.app {W D W' : Nat} {a b : List PyData} (h : SmA W D a) (k : SmA W' D b) : SmA (W + W') D (a ++ b) :=
  ⟨fun d hd => (List.mem_append.mp hd).elim (h.nr d) (k.nr d), by rw [w_app]; exact Nat.add_le_add h.wt k.wt, by rw [d_app]; exact Nat.max_le.mpr ⟨h.de, k.de⟩⟩
theorem SmA.rev {W D : Nat} {a : List PyData} (h : SmA W D a) : SmA W D a.reverse := ⟨fun d hd => h.nr d (List.mem_reverse.mp hd), by rw [w_rev]; exact h.wt, by rw [d_rev]; exact h.de⟩
theorem SmA.left {W D : Nat} {a b : List PyData} (h : SmA W D (a ++ b)) : SmA W D a := by
  obtain ⟨x, y, z⟩ := h
  rw [w_app] at y
  rw [d_app] at z
  exact ⟨fun d hd => x d (List.mem_append.mpr (.inl hd)), by omega, by omega⟩
theorem SmA.right {W D : Nat} {a b : List PyData} (h : SmA W D (a ++ b)) : SmA W D b := by
  obtain ⟨x, y, z⟩ := h
  rw [w_app] at y
  rw [d_app] at z
  exact ⟨fun d hd => x d (List.mem_append.mpr (.inr hd)), by omega, by omega⟩
theorem SmA.take {W D : Nat} {a : List PyData} (h : SmA W D a) (n : Nat) : SmA W D (a.take n) := by
  rw [← List.take_append_drop n a] at h
  exact h.left
theorem SmA.drop {W D : Nat} {a : List PyData} (h : SmA W D a) (n : Nat) : SmA W D (a.drop n) := by
  rw [← List.take_append_drop n a] at h
  exact h.right
theorem SmA.one {W D : Nat} {d : PyData} (h : Sm W D d) : SmA (W + 1) D [d] := by
  refine ⟨fun x hx => ?_, ?_, ?_⟩
  · rw [List.mem_singleton.mp hx]
    exact h.nr
  · rw [w_cons, w_nil]
    have := h.wt
    omega
  · rw [d_cons, d_nil]
    have := h.de
    omega
theorem SmA.nil (W D : Nat) : SmA W D [] := ⟨fun _ h => absurd h List.not_mem_nil, by rw [w_nil]; exact Nat.zero_le _, by rw [d_nil]; exact Nat.zero_le _⟩
theorem SmA.mono {W D W' D' : Nat} {a : List PyData} (h : SmA W D a) (h1 : W ≤ W') (h2 : D ≤ D') : SmA W' D' a := ⟨h.nr, Nat.le_trans h.wt h1, Nat.le_trans h.de h2⟩
theorem SmA.at {W D : Nat} {a : List PyData} {i : Nat} {d : PyData} (h : SmA W D a) (e : a[i]? = some d) : Sm W D d := by
  obtain ⟨hi, e⟩ := List.getElem?_eq_some_iff.mp e
  have s : a = a.take i ++ (d :: a.drop (i + 1)) := by
    rw [← e, List.getElem_cons_drop, List.take_append_drop]
  rw [s] at h
  obtain ⟨x, y, z⟩ := h.right
  rw [w_cons] at y
  rw [d_cons] at z
  exact ⟨x d List.mem_cons_self, by omega, by omega⟩
/-- one part in the place of another -/
theorem SmA.put {W D C : Nat} {a : List PyData} {i : Nat} {d e : PyData} (h : SmA W D a) (hd : a[i]? = some d) (k : Nr e) (kw : e.weight ≤ 2 * d.weight + C) (kd : e.depth ≤ d.depth + 2) : SmA (2 * W + C) (D + 2) (a.take i ++ [e] ++ a.drop (i + 1)) := by
  obtain ⟨hi, hd⟩ := List.getElem?_eq_some_iff.mp hd
  have s : a = a.take i ++ (d :: a.drop (i + 1)) := by
    rw [← hd, List.getElem_cons_drop, List.take_append_drop]
  have h2 := h
  rw [s] at h2
  obtain ⟨x, y, z⟩ := h2
  rw [w_app, w_cons] at y
  rw [d_app, d_cons] at z
  refine ⟨fun q hq => ?_, ?_, ?_⟩
  · rw [List.append_assoc] at hq
    rcases List.mem_append.mp hq with hq | hq
    · exact x q (List.mem_append.mpr (.inl hq))
    · rcases List.mem_append.mp hq with hq | hq
      · rw [List.mem_singleton.mp hq]
        exact k
      · exact x q (List.mem_append.mpr (.inr (List.mem_cons_of_mem _ hq)))
  · rw [w_app, w_app, w_cons, w_nil]
    omega
  · rw [d_app, d_app, d_cons, d_nil]
    omega
/-- what stands in the place of d: at most twice as heavy, two deeper -/
structure Near (d e : PyData) : Prop where
  nr : Nr e
  wt : e.weight ≤ 2 * d.weight + 110
  de : e.depth ≤ d.depth + 2
theorem Near.sm {W D : Nat} {d e : PyData} (h : Near d e) (k : Sm W D d) : Sm (2 * W + 110) (D + 2) e := ⟨h.nr, by have := h.wt; have := k.wt; omega, by have := h.de; have := k.de; omega⟩
theorem Near.put {a : List PyData} {i : Nat} {d e : PyData} (h : ∀ x ∈ a, Nr x) (hd : a[i]? = some d) (k : Near d e) : Near (.tuple a) (.tuple (a.take i ++ [e] ++ a.drop (i + 1))) := by
  have q := SmA.put (W := PyData.weightAll a) (D := PyData.depthAll a) (C := 110) ⟨h, Nat.le_refl _, Nat.le_refl _⟩ hd k.nr k.wt k.de
  refine ⟨.tup _ q.nr, ?_, ?_⟩
  · rw [PyData.weight, PyData.weight]
    exact q.wt
  · rw [PyData.depth, PyData.depth]
    have := q.de
    omega
/-- the heap without some objects -/
def del (S : Addr → Bool) (H : Hp) : Hp := fun b => if S b = true then none else H b
theorem del_sub (S : Addr → Bool) (H : Hp) : Same (del S H) H := fun b o h => by
  unfold del at h
  split at h
  · cases h
  · exact h
theorem del_but {S : Addr → Bool} {a : Addr} {H H' : Hp} (hS : S a = true) (h : But a H H') : Same (del S H) (del S H') := fun b o e => by
  unfold del at e ⊢
  split at e
  · cases e
  · rename_i n
    rw [if_neg n]
    exact h b o (fun z => n (by rw [z]; exact hS)) e
theorem del_same {S : Addr → Bool} {H H' : Hp} (h : Same H H') : Same (del S H) (del S H') := fun b o e => by
  unfold del at e ⊢
  split at e
  · cases e
  · rename_i n
    rw [if_neg n]
    exact h b o e
theorem del_at {S : Addr → Bool} {b : Addr} {H : Hp} {o : HO} (n : S b = false) (h : H b = some o) : del S H b = some o := by
  unfold del
  rw [if_neg (by rw [n]; exact Bool.false_ne_true)]
  exact h
/-- those objects are there -/
def Live (S : Addr → Bool) (H : Hp) : Prop := ∀ b, S b = true → H b ≠ none
theorem Live.same {S : Addr → Bool} {H H' : Hp} (l : Live S H) (s : Same H H') : Live S H' := fun b h => by
  cases e : H b with
  | none => exact absurd e (l b h)
  | some o =>
    rw [s b o e]
    exact fun z => nomatch z
theorem Live.but {S : Addr → Bool} {a : Addr} {H H' : Hp} (l : Live S H) (s : But a H H') (n : H' a ≠ none) : Live S H' := fun b h => by
  by_cases c : b = a
  · rw [c]
    exact n
  cases e : H b with
  | none => exact absurd e (l b h)
  | some o =>
    rw [s b o c e]
    exact fun z => nomatch z
theorem Live.new {S : Addr → Bool} {H : Hp} {p : Addr} (l : Live S H) (n : H p = none) : S p = false := by
  cases e : S p with
  | false => rfl
  | true => exact absurd n (l p e)
theorem pot_live {S : Addr → Bool} {H H' : Hp} {a : Addr} {b : Nat} (l : Live S H) (s : But a H H') (p : PotAt H' a b) : Live S H' := l.but s (by
  obtain ⟨_, _, _, e, _⟩ := p
  rw [e]
  exact fun z => nomatch z)
/-- a value that is data, those objects apart -/
def Off (K : PySem.W.Frag) (S : Addr → Bool) (H : Hp) (v : V) (d : PyData) : Prop := Dt K (del S H) v d
theorem Off.dt {K : PySem.W.Frag} {S : Addr → Bool} {H : Hp} {v : V} {d : PyData} (h : Off K S H v d) : Dt K H v d := Dt.same (del_sub S H) h
theorem Off.but {K : PySem.W.Frag} {S : Addr → Bool} {a : Addr} {H H' : Hp} {v : V} {d : PyData} (h : Off K S H v d) (hS : S a = true) (b : But a H H') : Off K S H' v d := Dt.same (del_but hS b) h
theorem Off.same {K : PySem.W.Frag} {S : Addr → Bool} {H H' : Hp} {v : V} {d : PyData} (h : Off K S H v d) (b : Same H H') : Off K S H' v d := Dt.same (del_same b) h
/-- upper() of an ASCII text -/
theorem asc_upper {s : Str} (h : Asc s) : Asc (Txt.upper s) ∧ (Txt.upper s).length = s.length := by
  rw [PyProof.Rows.upper_ascii h]
  refine ⟨fun c hc => ?_, ?_⟩
  · have hc : c ∈ (s.cps.map PyProof.Rows.up1).toList := hc
    rw [Array.toList_map] at hc
    obtain ⟨b, hb, rfl⟩ := List.mem_map.mp hc
    have := h b hb
    unfold PyProof.Rows.up1
    split <;> omega
  · show (s.cps.map PyProof.Rows.up1).size = s.cps.size
    rw [Array.size_map]
theorem asc_app {a b : Str} (h : Asc a) (k : Asc b) : Asc (a ++ b) := fun c hc => by
  rw [app_cps] at hc
  exact (List.mem_append.mp hc).elim (h c) (k c)
theorem asc_nm {s : Str} (h : NmOk s) : Asc s := fun c hc => by
  have := h.low c hc
  unfold Low at this
  omega
theorem Nr.strOk {s : Str} (h : Asc s) : PyData.strOk s = true := by
  unfold PyData.strOk
  rw [Array.all_eq_true]
  intro i hi
  have := h s.cps[i] (by rw [Array.mem_toList_iff]; exact Array.getElem_mem hi)
  simp
  omega
end WT

set_option Elab.async false
set_option linter.all false
set_option maxRecDepth 100000
set_option maxHeartbeats 4000000
/-! slices, sums, reverses of tuples of data; lists of candidates. -/
namespace WT
open PySem PySem.Spec PyProof.Rows L2
theorem fm_congr {α β : Type} {f g : α → Option β} : ∀ {l : List α}, (∀ x ∈ l, f x = g x) → l.filterMap f = l.filterMap g
  | [], _ => rfl
  | x :: l, h => by
    have e := h x List.mem_cons_self
    have t := fm_congr (l := l) fun y hy => h y (List.mem_cons_of_mem _ hy)
    rw [List.filterMap_cons, List.filterMap_cons, e, t]
theorem step_rev {α : Type} (xs : List α) : stepL xs none none (-1) = xs.reverse := by
  have h := pick_all xs.reverse
  have e : Builtin.Slice.slicePlaces (Builtin.Slice.sliceAdjust none none (-1) (xs.length : Int)).1 (Builtin.Slice.sliceAdjust none none (-1) (xs.length : Int)).2 (-1) = xs.reverse.length := by
    rw [List.length_reverse]
    unfold Builtin.Slice.slicePlaces Builtin.Slice.sliceAdjust
    simp
    try split <;> omega
    try omega
  unfold stepL
  rw [e]
  refine Eq.trans ?_ h
  rw [List.length_reverse]
  have q : (Builtin.Slice.sliceAdjust none none (-1) (xs.length : Int)).1 = (xs.length : Int) - 1 := by
    unfold Builtin.Slice.sliceAdjust
    simp
    try omega
  rw [q]
  refine fm_congr fun m hm => ?_
  have hm := List.mem_range.mp hm
  rw [List.getElem?_reverse hm]
  congr 1
  omega
section
variable {K : PySem.W.Frag} {H : Hp}
theorem dt_app : ∀ {xs ys : List V} {ds es : List PyData}, DtAll K H xs ds → DtAll K H ys es → DtAll K H (xs ++ ys) (ds ++ es)
  | [], _, _, _, .nil, k => k
  | _ :: _, _, _, _, .cons h t, k => .cons h (dt_app t k)
theorem dt_rev : ∀ {xs : List V} {ds : List PyData}, DtAll K H xs ds → DtAll K H xs.reverse ds.reverse
  | [], _, .nil => .nil
  | _ :: _, _, .cons h t => by
    rw [List.reverse_cons, List.reverse_cons]
    exact dt_app (dt_rev t) (.cons h .nil)
theorem dt_drop : ∀ {xs : List V} {ds : List PyData} (n : Nat), DtAll K H xs ds → DtAll K H (xs.drop n) (ds.drop n)
  | _, _, 0, h => h
  | [], _, _ + 1, .nil => .nil
  | _ :: _, _, n + 1, .cons _ t => dt_drop n t
theorem dt_take : ∀ {xs : List V} {ds : List PyData} (n : Nat), DtAll K H xs ds → DtAll K H (xs.take n) (ds.take n)
  | _, _, 0, _ => .nil
  | [], _, _ + 1, .nil => .nil
  | _ :: _, _, n + 1, .cons h t => .cons h (dt_take n t)
end
/-- a part of data -/
def cutD (ds : List PyData) (lo hi : Option Int) : List PyData := (ds.drop (HT.sIx ds.length 0 lo)).take (HT.sIx ds.length ds.length hi - HT.sIx ds.length 0 lo)
theorem dt_cut {K : PySem.W.Frag} {H : Hp} {xs : List V} {ds : List PyData} (h : DtAll K H xs ds) (lo hi : Option Int) : DtAll K H (cutV xs lo hi) (cutD ds lo hi) := by
  unfold cutV cutD
  rw [← h.length]
  exact dt_take _ (dt_drop _ h)
theorem SmA.cut {W D : Nat} {ds : List PyData} (h : SmA W D ds) (lo hi : Option Int) : SmA W D (cutD ds lo hi) := (h.drop _).take _
theorem cutD_all {ds : List PyData} {lo hi : Option Int} (h : HT.sIx ds.length 0 lo = 0 ∧ HT.sIx ds.length ds.length hi = ds.length) : cutD ds lo hi = ds := by
  unfold cutD
  rw [h.1, h.2, List.drop_zero, Nat.sub_zero, List.take_length]
theorem cutV_all {ds : List V} {lo hi : Option Int} (h : HT.sIx ds.length 0 lo = 0 ∧ HT.sIx ds.length ds.length hi = ds.length) : cutV ds lo hi = ds := by
  unfold cutV
  rw [h.1, h.2, List.drop_zero, Nat.sub_zero, List.take_length]
/-- a tuple of data, some objects apart -/
structure TupD (K : PySem.W.Frag) (S : Addr → Bool) (H : Hp) (p : Addr) (xs : List V) (ds : List PyData) : Prop where
  sq : SqT K (del S H) p xs
  all : DtAll K (del S H) xs ds
section
variable {K : PySem.W.Frag} {S : Addr → Bool} {a : Addr} {H H' : Hp} {p : Addr} {xs : List V} {ds : List PyData}
theorem TupD.off (h : TupD K S H p xs ds) : Off K S H (.ref p) (.tuple ds) := .tup h.sq h.all
theorem TupD.st (h : TupD K S H p xs ds) : SqT K H p xs := sameT (del_sub S H) h.sq
theorem TupD.but (h : TupD K S H p xs ds) (hS : S a = true) (b : But a H H') : TupD K S H' p xs ds := ⟨sameT (del_but hS b) h.sq, DtAll.same (del_but hS b) h.all⟩
theorem TupD.same (h : TupD K S H p xs ds) (b : Same H H') : TupD K S H' p xs ds := ⟨sameT (del_same b) h.sq, DtAll.same (del_same b) h.all⟩
theorem TupD.new (lv : Live S H) (n : H p = none) (h : DtAll K (del S H) xs ds) : TupD K S (upd H p (.tup xs)) p xs ds :=
  ⟨SqT.of (del_at (lv.new n) upd_same), DtAll.same (del_same (same_new n)) h⟩
theorem off_tup {v : V} (h : Off K S H v (.tuple ds)) : ∃ p xs, v = .ref p ∧ TupD K S H p xs ds := by
  cases h with
  | tup h k => exact ⟨_, _, rfl, h, k⟩
theorem off_str {v : V} {s : Str} (h : Off K S H v (.str s)) : v = .str s := by
  cases h
  rfl
theorem off_lst (lv : Live S H) (n : H p = none) (h : DtAll K (del S H) xs ds) : Off K S (upd H p (.lst xs)) (.ref p) (.list ds) :=
  .lst (SqL.of (del_at (lv.new n) upd_same)) (DtAll.same (del_same (same_new n)) h)
theorem off_dic (lv : Live S H) (n : H p = none) : Off K S (upd H p (.dK [])) (.ref p) (.dict []) :=
  .dic (kvs := []) (ds := []) (Rd.of (del_at (lv.new n) upd_same)) .nil
/-- value[lo:hi] of a tuple -/
theorem sl_any {lo hi : Option Int} {Q : VK} (lv : Live S H) (h : TupD K S H p xs ds) (k : ∀ q H', Same H H' → TupD K S H' q (cutV xs lo hi) (cutD ds lo hi) → Q (.ref q) H') : rSlA K (.ref p) lo hi H Q := by
  refine ⟨p, xs, rfl, h.st, fun c => ?_, fun _ q n => k q _ (same_new n) (.new lv n (dt_cut h.all lo hi))⟩
  refine k p H (fun _ _ e => e) ?_
  rw [cutV_all c, cutD_all (by rw [← h.all.length]; exact c)]
  exact h
theorem sl_lo {σ : L2.St} {lo : Option Int} {Q : VK} (lv : Live S H) (h : TupD K S H p xs ds) (k : ∀ q H', Same H H' → TupD K S H' q (cutV xs lo none) (cutD ds lo none) → Q (.ref q) H') : tNoPart σ H (fun u H3 => rSlA K (.ref p) lo u H3 Q) := sl_any lv h k
/-- one tuple and another -/
theorem cat_any {q : Addr} {ys : List V} {es : List PyData} {Q : VK} (lv : Live S H) (h : TupD K S H p xs ds) (g : TupD K S H q ys es) (hz : xs.length + ys.length ≤ sizeLine) (k : ∀ r H', Same H H' → TupD K S H' r (xs ++ ys) (ds ++ es) → Q (.ref r) H') : rCatA K (.ref p) (.ref q) H Q := by
  refine ⟨p, q, xs, ys, rfl, rfl, h.st, g.st, hz, fun e => ?_, fun _ e => ?_, fun _ _ r n => k r _ (same_new n) (.new lv n (dt_app h.all g.all))⟩
  · subst e
    have := h.all
    cases this
    exact k q H (fun _ _ e => e) g
  · subst e
    have := g.all
    cases this
    refine k p H (fun _ _ e => e) ?_
    rw [List.append_nil, List.append_nil]
    exact h
/-- each of these may stand in the place of d -/
def Cand (K : PySem.W.Frag) (S : Addr → Bool) (H : Hp) (d : PyData) (xs : List V) : Prop := ∀ x ∈ xs, ∃ e, Off K S H x e ∧ Near d e
theorem Cand.but {d : PyData} {xs : List V} (h : Cand K S H d xs) (hS : S a = true) (b : But a H H') : Cand K S H' d xs := fun x hx => by
  obtain ⟨e, h1, h2⟩ := h x hx
  exact ⟨e, h1.but hS b, h2⟩
theorem Cand.same {d : PyData} {xs : List V} (h : Cand K S H d xs) (b : Same H H') : Cand K S H' d xs := fun x hx => by
  obtain ⟨e, h1, h2⟩ := h x hx
  exact ⟨e, h1.same b, h2⟩
theorem Cand.nil {d : PyData} : Cand K S H d [] := fun x hx => absurd hx List.not_mem_nil
theorem Cand.cons {d e : PyData} {x : V} {xs : List V} (h1 : Off K S H x e) (h2 : Near d e) (h : Cand K S H d xs) : Cand K S H d (x :: xs) := fun y hy => by
  rcases List.mem_cons.mp hy with rfl | hy
  · exact ⟨e, h1, h2⟩
  · exact h y hy
theorem Cand.app {d : PyData} {xs ys : List V} (h : Cand K S H d xs) (k : Cand K S H d ys) : Cand K S H d (xs ++ ys) := fun y hy => (List.mem_append.mp hy).elim (h y) (k y)
theorem Cand.rep {d : PyData} {xs : List V} (n : Nat) (h : Cand K S H d xs) : Cand K S H d (List.replicate n xs).flatten := fun y hy => by
  obtain ⟨l, hl, hy⟩ := List.mem_flatten.mp hy
  rw [(List.mem_replicate.mp hl).2] at hy
  exact h y hy
end
theorem asc_cut {s : Str} (lo hi : Option Int) (h : Asc s) : Asc (cutS s lo hi) ∧ (cutS s lo hi).length ≤ s.length :=
  ⟨fun c hc => h c (List.mem_of_mem_drop (List.mem_of_mem_take (by
    have hc : c ∈ (((s.cps.toList.drop (HT.sIx s.length 0 lo)).take (HT.sIx s.length s.length hi - HT.sIx s.length 0 lo)).toArray).toList := hc
    rw [List.toList_toArray] at hc
    exact hc))), cutS_length s lo hi⟩
theorem near_small {d e : PyData} (h : Sm 110 2 e) : Near d e := ⟨h.nr, by have := h.wt; omega, by have := h.de; omega⟩
/-- parts of a tuple near it -/
theorem near_tup {ds es : List PyData} (h : SmA (2 * PyData.weightAll ds + 110) (PyData.depthAll ds + 2) es) : Near (.tuple ds) (.tuple es) := ⟨.tup _ h.nr, by rw [PyData.weight, PyData.weight]; exact h.wt, by rw [PyData.depth, PyData.depth]; have := h.de; omega⟩
theorem near_lst {ds es : List PyData} (h : SmA (2 * PyData.weightAll ds + 110) (PyData.depthAll ds + 2) es) : Near (.tuple ds) (.list es) := ⟨.lst _ h.nr, by rw [PyData.weight, PyData.weight]; exact h.wt, by rw [PyData.depth, PyData.depth]; have := h.de; omega⟩
theorem near_txt {s t : Str} (h : Asc t) (k : t.length ≤ s.length + 1) : Near (.str s) (.str t) := ⟨.str _ h, by rw [PyData.weight, PyData.weight]; have : t.cps.size ≤ s.cps.size + 1 := k; omega, by rw [PyData.depth, PyData.depth]; omega⟩
/-- a tuple of anything != () -/
def rNe0 (K : PySem.W.Frag) : R2 := fun x y H Q => ∃ (a b : Addr) (xs : List V), x = .ref a ∧ y = .ref b ∧ SqT K H a xs ∧ SqT K H b [] ∧ Q (.bl (!xs.isEmpty)) H
theorem op_ne0 {X : Cx} {K : PySem.W.Frag} (hu : X.A.units + 64 < cLine) (hK : X.K = K := by rfl) : OpR X (compareOp .NotEq) (rNe0 K) := by
  subst hK
  intro pins s σ H x y v u Q I rx ry h
  obtain ⟨a, b, xs, rfl, rfl, ha, hb, q⟩ := h
  cases rx
  cases ry
  obtain ⟨its, r1, pl, _⟩ := I.tuple ha
  obtain ⟨its2, r2, pl2, _⟩ := I.tuple hb
  cases r2
  have e := Vals.length r1
  refine SeqAt.RcNeAt.tuples (e := fun _ => true) pl pl2 (by omega) (fun j h1 h2 => absurd h2 (by simp)) _ _ _ _ ?_
  refine ⟨.bl _, H, I, rfl, ?_⟩
  cases xs with
  | nil =>
    cases r1
    exact q
  | cons x xs =>
    cases r1
    exact q
theorem cutD_left {ds : List PyData} {j : Nat} (h : j ≤ ds.length) : cutD ds none (some (j : Int)) = ds.take j := by
  unfold cutD
  rw [HT.sIx_none, HT.sIx_nat, List.drop_zero, Nat.sub_zero, Nat.min_eq_left h]
theorem cutD_right {ds : List PyData} {j : Nat} (h : j ≤ ds.length) : cutD ds (some (j : Int)) none = ds.drop j := by
  unfold cutD
  rw [HT.sIx_none, HT.sIx_nat, Nat.min_eq_left h]
  exact List.take_of_length_le (by rw [List.length_drop]; exact Nat.le_refl _)
theorem depth_at {ds : List PyData} {i : Nat} {d : PyData} (e : ds[i]? = some d) : d.depth ≤ PyData.depthAll ds ∧ d.weight + 1 ≤ PyData.weightAll ds := by
  obtain ⟨hi, e⟩ := List.getElem?_eq_some_iff.mp e
  have s : ds = ds.take i ++ (d :: ds.drop (i + 1)) := by
    rw [← e, List.getElem_cons_drop, List.take_append_drop]
  rw [s, w_app, d_app, w_cons, d_cons]
  omega
end WT

set_option Elab.async false
set_option linter.all false
set_option maxRecDepth 100000
set_option maxHeartbeats 4000000
/-! what values() of k07 needs: how many paths there are at most, the weight of a path, a list that grows. -/
namespace WT
open PySem PySem.Spec PyProof.Rows L2
theorem flat_len {α β : Type} {f : α → List β} {B : Nat} : ∀ {l : List α}, (∀ x ∈ l, (f x).length ≤ B) → (l.flatMap f).length ≤ l.length * B
  | [], _ => by simp
  | x :: l, h => by
    have a := h x List.mem_cons_self
    have b := flat_len (l := l) fun y hy => h y (List.mem_cons_of_mem _ hy)
    rw [List.flatMap_cons, List.length_append, List.length_cons, Nat.add_mul]
    omega
theorem kids_len0 {gs : List Gt} {bar : List Str} {one : Str} {B : Nat} (hB : ∀ g ∈ gs, g.2.1.length ≤ B + 1) (l : List (Str × Str)) : (kids gs bar one l).length ≤ gs.length * B := by
  unfold kids
  exact flat_len fun g hg => kidsOf_len (hB g hg) l
/-- a bound for all paths -/
def Few (rs : List Str) (gs : List Gt) : Prop := ∃ M D : Nat, (M + 1) ^ D ≤ 1000000 ∧ D ≤ 4 ∧ ∀ one ∈ rs, (∀ k, GoodP gs [] rs one k → k.length ≤ D) ∧ ∀ l, (kids gs [] one l).length ≤ M
theorem few_of {rs : List Str} {gs : List Gt} (h : rs.length ≤ 10 ∧ gs.length ≤ 3 ∨ rs.length ≤ 6 ∧ gs.length ≤ 4) (hm : ∀ g ∈ gs, g.2.1.length ≤ rs.length) : Few rs gs := by
  rcases h with ⟨hr, hg⟩ | ⟨hr, hg⟩
  · refine ⟨27, 3, by decide, by decide, fun one ho => ⟨fun k hk => Nat.le_trans hk.lenG hg, fun l => Nat.le_trans (kids_len0 (B := 9) (fun g h => Nat.le_trans (hm g h) hr) l) ?_⟩⟩
    omega
  · refine ⟨20, 4, by decide, by decide, fun one ho => ⟨fun k hk => Nat.le_trans hk.lenG hg, fun l => Nat.le_trans (kids_len0 (B := 5) (fun g h => Nat.le_trans (hm g h) hr) l) ?_⟩⟩
    omega
theorem strs_sm : ∀ {ss : List Str}, (∀ s ∈ ss, NmOk s) → SmA (9 * ss.length) 0 (ss.map PyData.str)
  | [], _ => .nil _ _
  | s :: ss, h => by
    have a : Sm 8 0 (.str s) := ⟨.str _ (asc_nm (h s List.mem_cons_self)), by rw [PyData.weight]; exact (h s List.mem_cons_self).len, by rw [PyData.depth]; exact Nat.le_refl _⟩
    have b := strs_sm (ss := ss) fun y hy => h y (List.mem_cons_of_mem _ hy)
    exact ((SmA.one a).app b).mono (by rw [List.length_cons]; omega) (Nat.le_refl _)
theorem dt_of_strs {K : PySem.W.Frag} {H : Hp} : ∀ ss : List Str, DtAll K H (ss.map V.str) (ss.map PyData.str)
  | [] => .nil
  | s :: ss => .cons (.str s) (dt_of_strs ss)
/-- the hand and the list that grows -/
def both (a F : Addr) : Addr → Bool := fun c => decide (c = a) || decide (c = F)
theorem both_l (a F : Addr) : both a F a = true := by
  unfold both
  simp
theorem both_r (a F : Addr) : both a F F = true := by
  unfold both
  simp
theorem both_no {a F p : Addr} (h1 : p ≠ a) (h2 : p ≠ F) : both a F p = false := by
  unfold both
  simp [h1, h2]
theorem both_live {a F : Addr} {H : Hp} {o u : HO} (h1 : H a = some o) (h2 : H F = some u) : Live (both a F) H := fun b h => by
  unfold both at h
  have : b = a ∨ b = F := by simpa using h
  rcases this with rfl | rfl
  · rw [h1]
    exact fun z => nomatch z
  · rw [h2]
    exact fun z => nomatch z
/-- a list of small data, those objects apart -/
def Vd (K : PySem.W.Frag) (S : Addr → Bool) (H : Hp) (xs : List V) : Prop := ∀ x ∈ xs, ∃ e, Off K S H x e ∧ Sm 1000 6 e
section
variable {K : PySem.W.Frag} {S : Addr → Bool} {a : Addr} {H H' : Hp} {xs ys : List V}
theorem Vd.but (h : Vd K S H xs) (hS : S a = true) (b : But a H H') : Vd K S H' xs := fun x hx => by
  obtain ⟨e, h1, h2⟩ := h x hx
  exact ⟨e, h1.but hS b, h2⟩
theorem Vd.same (h : Vd K S H xs) (b : Same H H') : Vd K S H' xs := fun x hx => by
  obtain ⟨e, h1, h2⟩ := h x hx
  exact ⟨e, h1.same b, h2⟩
theorem Vd.upd {o : HO} (h : Vd K S H xs) (hS : S a = true) : Vd K S (upd H a o) xs := h.but hS But.upd
theorem Vd.nil : Vd K S H [] := fun x hx => absurd hx List.not_mem_nil
theorem Vd.cons {x : V} {e : PyData} (h1 : Off K S H x e) (h2 : Sm 1000 6 e) (h : Vd K S H xs) : Vd K S H (x :: xs) := fun y hy => by
  rcases List.mem_cons.mp hy with rfl | hy
  · exact ⟨e, h1, h2⟩
  · exact h y hy
theorem Vd.app (h : Vd K S H xs) (k : Vd K S H ys) : Vd K S H (xs ++ ys) := fun y hy => (List.mem_append.mp hy).elim (h y) (k y)
/-- a tuple that is neither -/
theorem tup_off {p : Addr} {zs : List V} {ds : List PyData} (n : S p = false) (h : H p = some (.tup zs)) (k : DtAll K (del S H) zs ds) : TupD K S H p zs ds := ⟨SqT.of (del_at n h), k⟩
end
end WT

set_option Elab.async false
set_option linter.all false
set_option maxRecDepth 100000
set_option maxHeartbeats 4000000
/-! enumerate over a tuple. -/
namespace PySem
open Sem (wp)
theorem newEnumOne {x : Value} {io : Obj} {Hh : Heap → Prop} (Bg : Begins x io Hh) :
    Meets (Builtin.«enumerate.__new__» ⟨[.type "enumerate", x], []⟩) (fun _ Rr st => Hh st.heap ∧
      Rr (.ok (.ret (.ref (st.heap.push io).objs.size))) { st with heap := (st.heap.push io).push { cls := .type "enumerate", data := .fields #[.none, .bool false, .ref st.heap.objs.size, rawInt 0, .none, .none] } }) :=
  .of_wp fun pr wd Ar Rr st hyp => by
    obtain ⟨hh, gg, dd, tt, oo⟩ := st
    obtain ⟨hb, hyp⟩ := hyp
    have hsb := sub_enumerate
    have itr : ∀ {A2 : Around} {E2 : Value → Shared → Prop} {Q2 : Value → Shared → Prop}, Q2 (.ref hh.objs.size) ⟨hh.push io, gg, dd, tt, oo⟩ → wpAny (model pr wd) A2 (pyIter x) Q2 E2 ⟨hh, gg, dd, tt, oo⟩ :=
      fun r => Bg.iter pr wd _ _ ⟨hh, gg, dd, tt, oo⟩ _ hb r
    wp_walk using itr
    refine wpAny_stack_any fun stk => wpAny_pure ?_
    split
    · rename_i cc _ _ _ _ _
      cases (cc == Value.type "enumerate") <;> (wp_walk using itr; exact ⟨_, rfl, hyp⟩)
    · wp_walk using itr
      exact ⟨_, rfl, hyp⟩
theorem enumOne_begins {pr : Program} {wd : World} {Ar : Around} {Er : Value → Shared → Prop} {st : Shared} {x : Value} {io : Obj} {Hh : Heap → Prop} {Q : Value → Shared → Prop} (Bg : Begins x io Hh) (hb : Hh st.heap)
    (h : ∀ h2, IsEnum h2 (st.heap.objs.size + 1) st.heap.objs.size 0 .none → h2.get? st.heap.objs.size = some io → (∀ c oc, st.heap.get? c = some oc → h2.get? c = some oc) → Q (.ref (st.heap.objs.size + 1)) { st with heap := h2 }) :
    wpAny (model pr wd) Ar (call (.type "enumerate") [x]) Q Er st := by
  refine callType_new F.called_enumerate (by decide) (F.typeCall_enumerate_1 _) (F.newCall_enumerate_1 _) (fun ob => F.args_object_init_2 ob _) F.entry_enumerate_new (newEnumOne Bg) ⟨hb, ?_⟩
  have size1 : (st.heap.push io).objs.size = st.heap.objs.size + 1 := Heap.size_push ..
  show _ ∧ _
  rw [size1]
  have isE : IsEnum ((st.heap.push io).push { cls := .type "enumerate", data := .fields #[.none, .bool false, .ref st.heap.objs.size, rawInt 0, .none, .none] }) (st.heap.objs.size + 1) st.heap.objs.size 0 .none := by
    have z := Heap.get?_push_size (st.heap.push io) (o := { cls := .type "enumerate", data := .fields #[.none, .bool false, .ref st.heap.objs.size, rawInt 0, .none, .none] }) rfl
    rw [size1] at z
    exact z
  exact ⟨⟨_, isE, rfl⟩, h _ isE (Heap.get?_push_of_some _ (Heap.get?_push_size _ Bg.free)) fun c oc e => Heap.get?_push_of_some _ (Heap.get?_push_of_some _ e)⟩
end PySem
namespace WT
open PySem PySem.Spec PyProof.Rows L2
/-- the tuple at a, each item in a new pair with its number -/
def IteT (K : PySem.W.Frag) (a : Addr) : It where
  go i H := ∃ (xs : List V) (x : V), SqT K H a xs ∧ xs[i]? = some x
  yld i H v H' := ∃ T x, v = .ref T ∧ H T = none ∧ H' = upd H T (.tup [.int (i : Nat), x]) ∧ ∀ xs, SqT K H a xs → xs[i]? = some x
  stop i H := ∃ xs : List V, SqT K H a xs ∧ i = xs.length
theorem turn_enumT {P : Program} {w : World} {K : PySem.W.Frag} {ets : List Expr} {q : Nat} {tp : Pos} (a e it : Addr) :
    Turn P w K (.Tuple ets q tp) (IteT K a) [e, it] e (fun i h => ((∃ old, IsEnum h e it ((i : Nat) : Int) old) ∧ h.IsTupleIter it a i) ∧ e ≠ it ∧ a ≠ it ∧ a ≠ e) where
  mem := List.mem_cons_self
  obj := fun i h st b hb => by
    obtain ⟨⟨⟨old, he⟩, ⟨o, ho, hc, hd⟩⟩, _⟩ := st
    rcases List.mem_cons.mp hb with rfl | hb
    · exact ⟨_, he, fun v z => nomatch z⟩
    · rw [List.mem_singleton.mp hb]
      exact ⟨o, ho, fun v z => by rw [hd] at z; cases z⟩
  keep := fun i h h' st k => ⟨⟨⟨st.1.1.choose, k e List.mem_cons_self _ st.1.1.choose_spec⟩, st.1.2.at fun o z => k it (by simp) o z⟩, st.2⟩
  item := by
    intro X hP hw hK hc i pins s σ H E I hf st hg
    subst hP hw hK
    obtain ⟨⟨⟨old, he⟩, hit⟩, hne, hai, hae⟩ := st
    obtain ⟨xs, x, hq, hx⟩ := hg
    obtain ⟨its, rv, p, hz⟩ := I.tuple hq
    obtain ⟨u, hu, ru⟩ := rv.get hx
    have le : e < s.heap.objs.size := Heap.lt_size he
    have li : it < s.heap.objs.size := by
      obtain ⟨_, z, _⟩ := hit
      exact Heap.lt_size z
    have hp : s.heap.IsTuple a its.toArray := p
    have hlt : i < its.toArray.size := by
      have := (List.getElem?_eq_some_iff.mp hu).1
      simpa using this
    refine wpAny_pyNext_enum_itemD (Draws.tuple (A := X.A.in1) (show X.A.in1.handled = none from I.ok.hd hc) it a hai its.toArray) he ⟨hit, hp⟩ hlt hne (by simp only [List.mem_cons, List.not_mem_nil, or_false, not_or]; exact ⟨hne, Ne.symm hae⟩) fun y h' tk hy ho hst' hT hsz hk => ?_
    have ey : y = u := by
      have h1 : its.toArray[i]? = some y := hy
      have h2 : its.toArray[i]? = some u := by simpa using hu
      rw [h1] at h2
      exact Option.some.inj h2
    subst ey
    refine ⟨_, rfl, wpAny_letOwnedTupleGo_enum (s := { s with heap := h', toks := tk + 1 }) ho fun h2 he2 sb => ?_⟩
    have hT2 : h2.get? s.heap.objs.size = some { cls := .type "tuple", data := .seq #[.int i tk, y] } := (sb.2 _ (Nat.ne_of_gt le)).trans hT
    have nw : ObjOk X.prog X.w (upd H s.heap.objs.size (.tup [.int (i : Nat), x])) h2 s.heap.objs.size (.tup [.int (i : Nat), x]) :=
      ⟨by show 2 ≤ sizeLine; decide, [.int i tk, y], .cons ⟨_, rfl⟩ (.cons ru .nil), ⟨_, hT2, rfl, _, rfl⟩⟩
    have I1 : Inv X pins σ (upd H s.heap.objs.size (.tup [.int (i : Nat), x])) { s with heap := h2, toks := tk + 1 } :=
      I.turnedNew (ch := [e, it]) (fun b ob hb z => (sb.2 b fun y => hb (by simp [y])).trans (hk b ob (fun y => hb (by simp [y])) (fun y => hb (by simp [y])) z)) hf (Nat.le_refl _) nw
    refine ⟨.ref s.heap.objs.size, _, I1, rfl, ⟨_, x, rfl, I.hok.fresh (Nat.le_refl _), rfl, fun ys hy => by rw [I.tuple_inj hy hq]; exact hx⟩, ⟨⟨⟨y, ?_⟩, hst'.1.at fun o z => (sb.2 it (Ne.symm hne)).trans z⟩, hne, hai, hae⟩, fun b hb => ?_⟩
    · rw [show ((i + 1 : Nat) : Int) = (i : Int) + 1 by omega]
      exact he2
    · have hlb : b < s.heap.objs.size := by
        rcases List.mem_cons.mp hb with rfl | hb
        · exact le
        · rw [List.mem_singleton.mp hb]
          exact li
      rw [upd_ne (Nat.ne_of_lt hlb)]
      exact (hf b hb).1
  done := by
    intro X hP hw hK hc i pins s σ H E I hf st hg
    subst hP hw hK
    obtain ⟨⟨⟨old, he⟩, hit⟩, hne, hai, hae⟩ := st
    obtain ⟨xs, hq, rfl⟩ := hg
    obtain ⟨its, rv, p, hz⟩ := I.tuple hq
    obtain ⟨f0, f1, f2, f3, f4, f5⟩ := hf it (by simp)
    have hp : s.heap.IsTuple a its.toArray := p
    have hl : xs.length = its.toArray.size := by
      have := rv.length
      simp
      omega
    exact wpAny_pyNext_enum_endD (Draws.tuple (A := X.A.in1) (show X.A.in1.handled = none from I.ok.hd hc) it a hai its.toArray) he ⟨hl ▸ hit, hp⟩ fun h' eb => ⟨rfl, I.turned (t' := s.toks) (fun b o hb z => eb b o hb z) f0 f1 f3 f4 f5⟩
  self := fun A i s Q E st h => wpAny_pyIter_enum st.1.1.choose_spec h
def iEnumT (K : PySem.W.Frag) (ta : TA) : TI := fun σ H R => ta σ H fun vs H1 => ∃ a xs, vs = [.ref a] ∧ SqT K H1 a xs ∧ R (IteT K a) H1
theorem pi_enumT {X : Cx} {e : Expr} {ta : TA} {p pos tp : Pos} {ets : List Expr} {q : Nat} (hg : Gl X "enumerate") (hm : X.mg "enumerate" = none) (ha : PA X [e] ta) (hs : starEach [e] X.env = [(false, eval e X.env)] := by rfl) :
    PI X (.Tuple ets q tp) (.Call (.Name "enumerate" p) [e] [] pos) (iEnumT X.K ta) := by
  refine ⟨fun pins s σ H R I h => Call_ (ld_blt I hg hm boot_enumerate (PyProof.Rows.callWith_type1 (thn (ha.run pos pins s σ H _ I h) fun us s1 ⟨vs, H1, I1, r1, q1⟩ => ?_) hs rfl))⟩
  obtain ⟨a, xs, rfl, hq, q⟩ := q1
  obtain ⟨its, rv, p', hz⟩ := I1.tuple hq
  have hp : s1.heap.IsTuple a its.toArray := p'
  cases r1 with
  | cons r rr =>
    cases rr
    cases r
    refine enumOne_begins (begins_tuple a its.toArray) hp fun h2 he hit hk => wpAny_pyIter_enum he ?_
    have la : a < s1.heap.objs.size := by
      obtain ⟨_, z, _⟩ := hp
      exact Heap.lt_size z
    refine ⟨s1.heap.objs.size + 1, [s1.heap.objs.size + 1, s1.heap.objs.size], _, _, H1, rfl, I1.kept (t' := s1.toks) hk, turn_enumT a (s1.heap.objs.size + 1) s1.heap.objs.size, ⟨⟨⟨.none, he⟩, _, hit, rfl, rfl⟩, Nat.succ_ne_self _, Nat.ne_of_lt la, Nat.ne_of_lt (Nat.lt_succ_of_lt la)⟩, fun b hb => ?_, q⟩
    have hle : s1.heap.objs.size ≤ b := by
      rcases List.mem_cons.mp hb with rfl | hb
      · exact Nat.le_succ _
      · rw [List.mem_singleton.mp hb]
        exact Nat.le_refl _
    exact I1.fpOk hle (I1.hok.fresh hle)
/-- a tuple of targets, within a comprehension -/
theorem pg_tupK {X : Cx} {K : PySem.W.Frag} {es : List Expr} {q : Nat} {t : TGs} {n : Nat} {pos : Pos} (hc : X.calm = true) (h : PGs X es t) (hn : (assignEach es X.env).length = n := by rfl) (hst : (assignEach es X.env).findIdx? (·.1) = none := by rfl) (hK : X.K = K := by rfl) :
    PG X (.Tuple es q pos) (gTup K n t) := by
  subst hK
  exact pg_tup hc h hn hst
theorem walk_enumT {K : PySem.W.Frag} {a : Addr} {xs : List V} : Walk (IteT K a) xs.length (fun H => SqT K H a xs) (YPair (fun i => some (.int (i : Nat))) (fun i => xs[i]?)) where
  goes i _ hi h := ⟨xs, xs[i], h, by simp [hi]⟩
  stops _ h := ⟨xs, h, rfl⟩
  yields i H v H' _ h y := by
    obtain ⟨T, x, h1, h2, h3, h4⟩ := y
    exact ⟨T, .int (i : Nat), x, h1, h2, h3, rfl, h4 xs h⟩
end WT

set_option Elab.async false
set_option linter.all false
set_option maxRecDepth 100000
set_option maxHeartbeats 4000000
/-! all([..]) over any walk; slices of lists and of tuples; zip of two tuples in a comprehension; names, worlds of any data. -/
namespace WT
open PySem PySem.Spec PyProof.Rows L2
/-- a comprehension of booleans that changes nothing -/
theorem lc_bl {J : It} {n : Nat} {G : Hp → Prop} {Y : Nat → Hp → V → Hp → Prop} (w : Walk J n G Y) {g : TG} {tt : TT} {te : TE} {vs : List Nat} {σ : L2.St} {H1 : Hp} {D : Addr} {Qd : Hp → Prop} (bs : List Bool) (hl : bs.length = n) (hz : n ≤ 40000) (nD : H1 D = none) (hG : ∀ H, Same H1 H → G H)
    (hs : ∀ (i : Nat) (x : V) (b : Bool) (H2 H3 : Hp) (k : VK) (e : Hp → Prop), bs[i]? = some b → Same H1 H2 → Y i H2 x H3 → (∀ H4, Same H2 H4 → k (.bl b) H4) →
      g x (wipe σ vs) H3 fun σ2 H2 => wipe σ2 vs = wipe σ vs ∧ tt σ2 H2 fun t H3 => if t = true then te σ2 H3 k else e H3)
    (hd : ∀ H, Same H1 H → H D = some (.lst (bs.map V.bl)) → Qd H) :
    ∃ W : Nat → Nat → Hp → Prop, (∃ m, W 0 m (upd H1 D (.lst []))) ∧ ∀ i m H, W i m H →
      (J.stop i H ∧ Qd H) ∨ (J.go i H ∧ ∃ Nx : Hp → Prop, (∀ H', Nx H' → ∃ m', m' < m ∧ W (i + 1) m' H') ∧ ∀ x H', J.yld i H x H' → g x (wipe σ vs) H' fun σ2 H2 => wipe σ2 vs = wipe σ vs ∧ tt σ2 H2 fun b H3 =>
        if b = true then te σ2 H3 fun y H4 => ∃ acc, H4 D = some (.lst acc) ∧ acc.length < sizeLine ∧ Nx (upd H4 D (.lst (acc ++ [y]))) else Nx H3) := by
  refine lc_it w (fun m H => Same H1 H ∧ H D = some (.lst ((bs.take m).map V.bl))) ⟨same_new nD, upd_same⟩ (fun _ H _ h => hG H h.1) (fun i x H H' hi hP hy => ?_) fun H hP => ?_
  · obtain ⟨s2, hD⟩ := hP
    have hb : bs[i]? = some (bs[i]'(by omega)) := List.getElem?_eq_getElem _
    refine hs i x _ H H' _ _ hb s2 hy fun H4 s4 => ⟨_, s4 _ _ hD, ?_, fun c o ed => ?_, ?_⟩
    · rw [List.length_map, List.length_take]
      exact Nat.lt_of_le_of_lt (show min i bs.length ≤ 40000 by omega) (by decide)
    · rw [upd_ne (ne_of_none ed nD)]
      exact s4 _ _ (s2 _ _ ed)
    · rw [upd_same, List.take_add_one, hb, List.map_append]
      rfl
  · obtain ⟨s2, hD⟩ := hP
    rw [← hl, List.take_length] at hD
    exact hd H s2 hD
theorem walk_zipT {K : PySem.W.Frag} {a b : Addr} {xs ys : List V} {n : Nat} (hn : n = min xs.length ys.length) : Walk (RZ.ItzT K a b) n (fun H => SqT K H a xs ∧ SqT K H b ys) (YPair (fun i => xs[i]?) (fun i => ys[i]?)) := by
  subst hn
  refine ⟨fun i _ hi q => ?_, fun _ q => ⟨xs, ys, q.1, q.2, by omega⟩, fun i H v H' _ q y => ?_⟩
  · have h1 : i < xs.length := by omega
    have h2 : i < ys.length := by omega
    exact ⟨xs, ys, xs[i], ys[i], q.1, q.2, by simp [h1], by simp [h2]⟩
  · obtain ⟨T, x, z, h1, h2, h3, h4, h5⟩ := y
    exact ⟨T, x, z, h1, h2, h3, h4 xs q.1, h5 ys q.2⟩
def rSlTwo (K : PySem.W.Frag) : V → Option Int → Option Int → Hp → VK → Prop := fun x lo hi H Q => rSlL K x lo hi H Q ∨ rSlA K x lo hi H Q
theorem sl_two {X : Cx} {K : PySem.W.Frag} (hK : X.K = K := by rfl) : L2.SlR X (rSlTwo K) := by
  subst hK
  exact L2.SlR.or sl_list sl_tupA
theorem cut_one (ss : List Str) : cutV (ss.map V.str) (some 1) none = (ss.drop 1).map V.str := by
  cases ss with
  | nil => rfl
  | cons a ss =>
    unfold cutV
    rw [show (1 : Int) = ((1 : Nat) : Int) from rfl, HT.sIx_nat, HT.sIx_none, List.length_map, Nat.min_eq_left (by simp), ← List.map_drop]
    exact List.take_of_length_le (by rw [List.length_map, List.length_drop]; exact Nat.le_refl _)
/-- a NAME -/
def nmB (s : Str) : Bool := decide (1 ≤ s.cps.size ∧ s.cps.size ≤ 8) && (s.cps.toList.map fun c => decide (c ∈ alpha.cps.toList)).all id
def nmD : PyData → Bool
  | .str s => nmB s
  | _ => false
/-- each before the next -/
def adjB (ss : List Str) : Bool := ((ss.zip (ss.drop 1)).map fun p => decide (p.1.cps.toList < p.2.cps.toList)).all id
theorem adjB_iff (ss : List Str) : adjB ss = true ↔ AscS ss := by
  rw [← adj_asc]
  unfold adjB AdjS
  rw [List.all_map, List.all_eq_true]
  constructor
  · intro h i x y hx hy
    have : (x, y) ∈ ss.zip (ss.drop 1) := List.mem_of_getElem? (i := i) (by rw [List.getElem?_zip_eq_some]; exact ⟨hx, by rw [List.getElem?_drop, Nat.add_comm]; exact hy⟩)
    have b : x.cps.toList < y.cps.toList := of_decide_eq_true (h _ this)
    exact b
  · rintro h ⟨x, y⟩ hp
    obtain ⟨i, hi⟩ := List.getElem?_of_mem hp
    rw [List.getElem?_zip_eq_some] at hi
    have := hi.2
    rw [List.getElem?_drop, Nat.add_comm] at this
    have b : x.cps.toList < y.cps.toList := h i x y hi.1 this
    exact decide_eq_true b
/-- its texts -/
def txts (ds : List PyData) : List Str := ds.filterMap fun d => match d with
  | .str s => some s
  | _ => none
theorem txts_strs : ∀ ss : List Str, txts (ss.map PyData.str) = ss
  | [] => rfl
  | s :: ss => congrArg (s :: ·) (txts_strs ss)
theorem nm_strs : ∀ {ds : List PyData}, (ds.map nmD).all id = true → ∃ ss : List Str, ds = ss.map PyData.str ∧ ∀ s ∈ ss, nmB s = true
  | [], _ => ⟨[], rfl, fun s hs => by cases hs⟩
  | d :: ds, h => by
    rw [List.map_cons, List.all_cons, Bool.and_eq_true] at h
    obtain ⟨ss, rfl, k⟩ := nm_strs h.2
    cases d with
    | str s =>
      refine ⟨s :: ss, rfl, fun t ht => ?_⟩
      rcases List.mem_cons.mp ht with rfl | ht
      · exact h.1
      · exact k t ht
    | _ => exact absurd h.1 (by simp [nmD])
def regD : PyData → Bool
  | .tuple ds => decide (1 ≤ ds.length ∧ ds.length ≤ 10) && ((ds.map nmD).all id && adjB (txts ds))
  | _ => false
def memD (rs : List Str) : PyData → Bool
  | .tuple ds => decide (2 ≤ ds.length) && ((ds.map fun d => isIn d rs).all id && adjB (txts ds))
  | _ => false
def kinds2 : List Str := ["wrap", "open"]
def gatD (rs : List Str) : PyData → Bool
  | .tuple [n, m, k] => nmD n && (memD rs m && isIn k kinds2)
  | _ => false
def headD : PyData → PyData
  | .tuple (d :: _) => d
  | d => d
def gatsD (rs : List Str) : PyData → Bool
  | .tuple ds => decide (ds.length ≤ 10) && ((ds.map (gatD rs)).all id && adjB (txts (ds.map headD)))
  | _ => false
def partsD : PyData → List PyData
  | .tuple ds => ds
  | _ => []
def wldD : PyData → Bool
  | .tuple [r, g] => regD r && gatsD (txts (partsD r)) g
  | _ => false
end WT

set_option Elab.async false
set_option linter.all false
set_option maxRecDepth 100000
set_option maxHeartbeats 4000000
/-! a law's own way to say what a name, ascending names and a world are, and that it is the same. -/
namespace WT
open PySem PySem.Spec PyProof.Rows L2
theorem eqvA_strs : ∀ (a b : List Str), PyData.eqvAll (a.map PyData.str) (b.map PyData.str) = decide (a = b)
  | [], [] => by decide +kernel
  | [], _ :: _ => by
    rw [List.map_nil, List.map_cons, PyData.eqvAll]
    rfl
  | _ :: _, [] => by
    rw [List.map_nil, List.map_cons, PyData.eqvAll]
    rfl
  | x :: a, y :: b => by
    rw [List.map_cons, List.map_cons, PyData.eqvAll, eqvA_strs a b, PyData.eqv]
    by_cases h : x = y
    · subst h
      by_cases k : a = b
      · subst k
        simp
      · simp [k]
    · rw [show (x == y) = false from beq_eq_false_iff_ne.mpr h]
      simp [h]
theorem eqv_strs (a b : List Str) : PyData.eqv (.list (a.map PyData.str)) (.list (b.map PyData.str)) = decide (a = b) := by
  rw [PyData.eqv, eqvA_strs]
theorem Bef.irr {x : Str} (h : Bef x x) : False := h.ne rfl
theorem asc_ext : ∀ {a b : List Str}, AscS a → AscS b → (∀ y, y ∈ a ↔ y ∈ b) → a = b
  | [], [], _, _, _ => rfl
  | [], y :: _, _, _, h => absurd ((h y).mpr List.mem_cons_self) List.not_mem_nil
  | x :: _, [], _, _, h => absurd ((h x).mp List.mem_cons_self) List.not_mem_nil
  | x :: a, y :: b, ha, hb, h => by
    obtain ⟨a1, a2⟩ := List.pairwise_cons.mp ha
    obtain ⟨b1, b2⟩ := List.pairwise_cons.mp hb
    have e : x = y := by
      rcases List.mem_cons.mp ((h x).mp List.mem_cons_self) with e | e
      · exact e
      · rcases List.mem_cons.mp ((h y).mpr List.mem_cons_self) with e2 | e2
        · exact e2.symm
        · exact ((b1 x e).trans (a1 y e2)).irr.elim
    subst e
    have t : a = b := asc_ext a2 b2 fun y => by
      constructor
      · intro hy
        rcases List.mem_cons.mp ((h y).mp (List.mem_cons_of_mem _ hy)) with e | e
        · subst e
          exact ((a1 y hy).irr).elim
        · exact e
      · intro hy
        rcases List.mem_cons.mp ((h y).mpr (List.mem_cons_of_mem _ hy)) with e | e
        · subst e
          exact ((b1 y hy).irr).elim
        · exact e
    rw [t]
theorem sub_len : ∀ {a b : List Str}, a.Nodup → (∀ y ∈ a, y ∈ b) → a.length ≤ b.length
  | [], _, _, _ => Nat.zero_le _
  | x :: a, b, nd, h => by
    obtain ⟨n1, n2⟩ := List.nodup_cons.mp nd
    have hx := h x List.mem_cons_self
    have k : ∀ y ∈ a, y ∈ b.erase x := fun y hy => (List.mem_erase_of_ne fun e => n1 (by rw [← e]; exact hy)).mpr (h y (List.mem_cons_of_mem _ hy))
    have := sub_len n2 k
    rw [List.length_erase_of_mem hx] at this
    have p := List.length_pos_of_mem hx
    rw [List.length_cons]
    omega
/-- xs == sorted(set(xs)) -/
theorem srt_eq {ss zs : List Str} (h : sortedS zs = true) (nd : zs.Nodup) (e : ∀ y, y ∈ zs ↔ y ∈ ss) : PyData.eqv (.list (ss.map PyData.str)) (.list (zs.map PyData.str)) = adjB ss := by
  rw [eqv_strs]
  have az := asc_of h nd
  cases c : adjB ss with
  | true => exact decide_eq_true (asc_ext ((adjB_iff ss).mp c) az fun y => (e y).symm)
  | false =>
    refine decide_eq_false fun z => ?_
    subst z
    rw [(adjB_iff ss).mpr az] at c
    cases c
theorem nm_asc {s : Str} (h : nmB s = true) : Asc s := fun c hc => by
  unfold nmB at h
  rw [Bool.and_eq_true, List.all_map, List.all_eq_true] at h
  have k : c ∈ alpha.cps.toList := of_decide_eq_true (h.2 c hc)
  have all : ∀ c ∈ alpha.cps.toList, c < 128 := by decide +kernel
  exact all c k
theorem nm_ok {s : Str} (h : nmB s = true) : PyData.strOk s = true := Nr.strOk (nm_asc h)
/-- so many ascending names -/
def namD (lo hi : Nat) : PyData → Bool
  | .tuple ds => decide (lo ≤ ds.length ∧ ds.length ≤ hi) && ((ds.map nmD).all id && adjB (txts ds))
  | _ => false
theorem namD_reg (d : PyData) : namD 1 10 d = regD d := by
  cases d <;> rfl
/-- a gateway as the law sees it -/
def gatL (rs : List Str) : PyData → Bool
  | .tuple [n, m, k] => nmD n && (namD 2 10 m && ((partsD m).map fun d => isIn d rs).all id) && (isTxt k && isIn k kinds2)
  | _ => false
theorem isIn_txt {d : PyData} {ss : List Str} (h : isIn d ss = true) : isTxt d = true := by
  cases d <;> first | rfl | cases h
theorem nam_mem {rs : List Str} (hn : ∀ s ∈ rs, nmB s = true) (hl : rs.length ≤ 10) (m : PyData) : (namD 2 10 m && ((partsD m).map fun d => isIn d rs).all id) = memD rs m := by
  cases m with
  | tuple ds =>
    show (namD 2 10 (.tuple ds) && (ds.map fun d => isIn d rs).all id) = (decide (2 ≤ ds.length) && ((ds.map fun d => isIn d rs).all id && adjB (txts ds)))
    cases c : (ds.map fun d => isIn d rs).all id with
    | false => simp
    | true =>
      obtain ⟨ss, rfl, hin⟩ := (all_in_iff ds).mp c
      show ((decide (2 ≤ (ss.map PyData.str).length ∧ (ss.map PyData.str).length ≤ 10) && (((ss.map PyData.str).map nmD).all id && adjB (txts (ss.map PyData.str)))) && true) = _
      rw [txts_strs, Bool.and_true, Bool.true_and, List.length_map]
      have a : ((ss.map PyData.str).map nmD).all id = true := by
        rw [List.map_map, List.all_map, List.all_eq_true]
        exact fun s hs => hn s (hin s hs)
      rw [a, Bool.true_and]
      cases k : adjB ss with
      | false => simp
      | true =>
        have := sub_len ((adjB_iff ss).mp k).nodup hin
        by_cases g : 2 ≤ ss.length
        · rw [decide_eq_true g, decide_eq_true (show 2 ≤ ss.length ∧ ss.length ≤ 10 by omega)]
        · rw [decide_eq_false g, decide_eq_false (fun z => g z.1)]
  | _ => rfl
theorem gatL_eq {rs : List Str} (hn : ∀ s ∈ rs, nmB s = true) (hl : rs.length ≤ 10) (d : PyData) : gatL rs d = gatD rs d := by
  match d with
  | .tuple [n, m, k] =>
    show (nmD n && (namD 2 10 m && ((partsD m).map fun d => isIn d rs).all id) && (isTxt k && isIn k kinds2)) = (nmD n && (memD rs m && isIn k kinds2))
    rw [nam_mem hn hl, Bool.and_assoc]
    cases c : isIn k kinds2 with
    | true => rw [isIn_txt c]; rfl
    | false => rw [Bool.and_false]
  | .tuple [] => rfl
  | .tuple [_] => rfl
  | .tuple [_, _] => rfl
  | .tuple (_ :: _ :: _ :: _ :: _) => rfl
  | .none => rfl
  | .bool _ => rfl
  | .int _ => rfl
  | .str _ => rfl
  | .list _ => rfl
  | .dict _ => rfl
end WT

set_option Elab.async false
set_option linter.all false
set_option maxRecDepth 100000
set_option maxHeartbeats 1000000
/-! steps of any data, as the program says it by roles, and what that is word by word. -/
namespace WT
open PySem PySem.Spec PyProof.Rows L2
/-- the wrapping gateways -/
def wrapsW (gs : List Gt) : List Str := (gs.filter fun g : Gt => decide (g.2.2 = ("wrap" : Str))).map (·.1)
def isInt : PyData → Bool
  | .int _ => true
  | _ => false
def isBoo : PyData → Bool
  | .bool _ => true
  | _ => false
def isNum : PyData → Bool
  | .int _ => true
  | .bool _ => true
  | _ => false
theorem num_not_boo (d : PyData) : (isNum d && !isBoo d) = isInt d := by
  cases d <;> rfl
theorem kit_int : ∀ d : PyData, kitB (tyD d) "int" = some (isNum d)
  | .none => show kitB "NoneType" "int" = some false by decide +kernel
  | .bool _ => show kitB "bool" "int" = some true by decide +kernel
  | .int _ => show kitB "int" "int" = some true by decide +kernel
  | .str _ => show kitB "str" "int" = some false by decide +kernel
  | .list _ => show kitB "list" "int" = some false by decide +kernel
  | .tuple _ => show kitB "tuple" "int" = some false by decide +kernel
  | .dict _ => show kitB "dict" "int" = some false by decide +kernel
theorem kit_bool : ∀ d : PyData, kitB (tyD d) "bool" = some (isBoo d)
  | .none => show kitB "NoneType" "bool" = some false by decide +kernel
  | .bool _ => show kitB "bool" "bool" = some true by decide +kernel
  | .int _ => show kitB "int" "bool" = some false by decide +kernel
  | .str _ => show kitB "str" "bool" = some false by decide +kernel
  | .list _ => show kitB "list" "bool" = some false by decide +kernel
  | .tuple _ => show kitB "tuple" "bool" = some false by decide +kernel
  | .dict _ => show kitB "dict" "bool" = some false by decide +kernel
/-- a text other than root -/
def notRoot : PyData → Bool
  | .str s => !decide (s = ("root" : Str))
  | _ => true
/-- whether data plays a role -/
def partD (rs : List Str) (gs : List Gt) (role : Str) (d : PyData) : Bool :=
  if role = ("region" : Str) then isIn d rs else if role = ("gateway" : Str) then isIn d (gs.map (·.1)) else if role = ("wrapping" : Str) then isIn d (wrapsW gs)
  else if role = ("integer" : Str) then isInt d else if role = ("assigned" : Str) then nmD d && notRoot d else nmD d
section
variable {rs : List Str} {gs : List Gt} {d : PyData}
theorem part_region : partD rs gs "region" d = isIn d rs := by
  unfold partD
  rw [if_pos rfl]
theorem part_gateway : partD rs gs "gateway" d = isIn d (gs.map (·.1)) := by
  unfold partD
  rw [if_neg (by decide +kernel), if_pos rfl]
theorem part_wrapping : partD rs gs "wrapping" d = isIn d (wrapsW gs) := by
  unfold partD
  rw [if_neg (by decide +kernel), if_neg (by decide +kernel), if_pos rfl]
theorem part_integer : partD rs gs "integer" d = isInt d := by
  unfold partD
  rw [if_neg (by decide +kernel), if_neg (by decide +kernel), if_neg (by decide +kernel), if_pos rfl]
theorem part_assigned : partD rs gs "assigned" d = (nmD d && notRoot d) := by
  unfold partD
  rw [if_neg (by decide +kernel), if_neg (by decide +kernel), if_neg (by decide +kernel), if_neg (by decide +kernel), if_pos rfl]
theorem part_name : partD rs gs "name" d = nmD d := by
  unfold partD
  rw [if_neg (by decide +kernel), if_neg (by decide +kernel), if_neg (by decide +kernel), if_neg (by decide +kernel), if_neg (by decide +kernel)]
end
/-- the roles of the parts behind each word -/
def rolesL : List (Str × List Str) := [("new", ["region", "assigned"]), ("number", ["region", "assigned", "integer"]), ("drop", ["region", "assigned"]), ("enter", ["region", "assigned", "gateway", "region"]),
  ("put", ["region", "name", "name", "name"]), ("get", ["region", "name", "name", "assigned"]), ("same", ["region", "name", "name"]), ("revoke", ["wrapping"])]
def rolesOf (w : Str) : Option (List Str) := (rolesL.find? fun p => decide (p.1 = w)).map (·.2)
/-- whether the gateway leads from the one to the other -/
def leadsD (gs : List Gt) : List PyData → Bool
  | [.str r, _, .str g, .str s] => (gs.any fun x : Gt => decide (x.1 = g) && (decide (s ∈ x.2.1) && decide (r ∈ x.2.1))) && !decide (s = r)
  | _ => false
def stepD (rs : List Str) (gs : List Gt) : PyData → Bool
  | .tuple (.str w :: ds) => match rolesOf w with
    | none => false
    | some rl => decide (ds.length = rl.length) && (((rl.zip ds).map fun p => partD rs gs p.1 p.2).all id && (!decide (w = ("enter" : Str)) || leadsD gs ds))
  | _ => false
theorem step_cons {rs : List Str} {gs : List Gt} {w : Str} {ds : List PyData} {rl : List Str} (e : rolesOf w = some rl) :
    stepD rs gs (.tuple (.str w :: ds)) = (decide (ds.length = rl.length) && (((rl.zip ds).map fun p => partD rs gs p.1 p.2).all id && (!decide (w = ("enter" : Str)) || leadsD gs ds))) := by
  show (match rolesOf w with | none => false | some rl => _) = _
  rw [e]
theorem step_none {rs : List Str} {gs : List Gt} {w : Str} {ds : List PyData} (e : rolesOf w = none) : stepD rs gs (.tuple (.str w :: ds)) = false := by
  show (match rolesOf w with | none => false | some rl => _) = _
  rw [e]
theorem roles_none {w : Str} (h : ∀ p ∈ rolesL, p.1 ≠ w) : rolesOf w = none := by
  unfold rolesOf
  rw [List.find?_eq_none.mpr fun p hp => by simpa using h p hp]
  rfl
theorem step_short {rs : List Str} {gs : List Gt} {d : PyData} (h : ∀ (w : Str) (ds : List PyData), d ≠ .tuple (.str w :: ds)) : stepD rs gs d = false := by
  unfold stepD
  split
  · rename_i w ds
    exact absurd rfl (h w ds)
  · rfl
/-- only of the right length -/
theorem step_len {rs : List Str} {gs : List Gt} {w : Str} {ds : List PyData} {rl : List Str} (e : rolesOf w = some rl) (h : ds.length ≠ rl.length) : stepD rs gs (.tuple (.str w :: ds)) = false := by
  rw [step_cons e, decide_eq_false h, Bool.false_and]
section
variable {rs : List Str} {gs : List Gt} {a x y z : PyData} {w : Str}
theorem step_new : stepD rs gs (.tuple [.str "new", a, x]) = (isIn a rs && (nmD x && notRoot x)) := by
  rw [step_cons (rl := ["region", "assigned"]) (by decide +kernel)]
  simp only [List.zip_cons_cons, List.zip_nil_left, List.map_cons, List.map_nil, List.all_cons, List.all_nil, part_region, part_assigned, id, Bool.and_true, List.length_cons, List.length_nil]
  rw [decide_eq_false (show ¬ ("new" : Str) = "enter" by decide +kernel)]
  simp
theorem step_drop : stepD rs gs (.tuple [.str "drop", a, x]) = (isIn a rs && (nmD x && notRoot x)) := by
  rw [step_cons (rl := ["region", "assigned"]) (by decide +kernel)]
  simp only [List.zip_cons_cons, List.zip_nil_left, List.map_cons, List.map_nil, List.all_cons, List.all_nil, part_region, part_assigned, id, Bool.and_true, List.length_cons, List.length_nil]
  rw [decide_eq_false (show ¬ ("drop" : Str) = "enter" by decide +kernel)]
  simp
theorem step_number : stepD rs gs (.tuple [.str "number", a, x, y]) = (isIn a rs && ((nmD x && notRoot x) && isInt y)) := by
  rw [step_cons (rl := ["region", "assigned", "integer"]) (by decide +kernel)]
  simp only [List.zip_cons_cons, List.zip_nil_left, List.map_cons, List.map_nil, List.all_cons, List.all_nil, part_region, part_assigned, part_integer, id, Bool.and_true, List.length_cons, List.length_nil]
  rw [decide_eq_false (show ¬ ("number" : Str) = "enter" by decide +kernel)]
  simp
theorem step_same : stepD rs gs (.tuple [.str "same", a, x, y]) = (isIn a rs && (nmD x && nmD y)) := by
  rw [step_cons (rl := ["region", "name", "name"]) (by decide +kernel)]
  simp only [List.zip_cons_cons, List.zip_nil_left, List.map_cons, List.map_nil, List.all_cons, List.all_nil, part_region, part_name, id, Bool.and_true, List.length_cons, List.length_nil]
  rw [decide_eq_false (show ¬ ("same" : Str) = "enter" by decide +kernel)]
  simp
theorem step_put : stepD rs gs (.tuple [.str "put", a, x, y, z]) = (isIn a rs && (nmD x && (nmD y && nmD z))) := by
  rw [step_cons (rl := ["region", "name", "name", "name"]) (by decide +kernel)]
  simp only [List.zip_cons_cons, List.zip_nil_left, List.map_cons, List.map_nil, List.all_cons, List.all_nil, part_region, part_name, id, Bool.and_true, List.length_cons, List.length_nil]
  rw [decide_eq_false (show ¬ ("put" : Str) = "enter" by decide +kernel)]
  simp
theorem step_get : stepD rs gs (.tuple [.str "get", a, x, y, z]) = (isIn a rs && (nmD x && (nmD y && (nmD z && notRoot z)))) := by
  rw [step_cons (rl := ["region", "name", "name", "assigned"]) (by decide +kernel)]
  simp only [List.zip_cons_cons, List.zip_nil_left, List.map_cons, List.map_nil, List.all_cons, List.all_nil, part_region, part_name, part_assigned, id, Bool.and_true, List.length_cons, List.length_nil]
  rw [decide_eq_false (show ¬ ("get" : Str) = "enter" by decide +kernel)]
  simp
theorem step_enter : stepD rs gs (.tuple [.str "enter", a, x, y, z]) = (isIn a rs && ((nmD x && notRoot x) && (isIn y (gs.map (·.1)) && (isIn z rs && leadsD gs [a, x, y, z])))) := by
  rw [step_cons (rl := ["region", "assigned", "gateway", "region"]) (by decide +kernel)]
  simp only [List.zip_cons_cons, List.zip_nil_left, List.map_cons, List.map_nil, List.all_cons, List.all_nil, part_region, part_gateway, part_assigned, id, Bool.and_true, List.length_cons, List.length_nil]
  simp only [decide_true, Bool.true_and, Bool.not_true, Bool.false_or, Bool.and_assoc]
theorem step_revoke : stepD rs gs (.tuple [.str "revoke", a]) = isIn a (wrapsW gs) := by
  rw [step_cons (rl := ["wrapping"]) (by decide +kernel)]
  simp only [List.zip_cons_cons, List.zip_nil_left, List.map_cons, List.map_nil, List.all_cons, List.all_nil, part_wrapping, id, Bool.and_true, List.length_cons, List.length_nil]
  rw [decide_eq_false (show ¬ ("revoke" : Str) = "enter" by decide +kernel)]
  simp
end
/-- one gateway of each name -/
theorem any_one {gs : List Gt} (nd : (gs.map (·.1)).Nodup) {g : Gt} (hg : g ∈ gs) (f : Gt → Bool) : (gs.any fun x : Gt => decide (x.1 = g.1) && f x) = f g := by
  have u : ∀ {l : List Gt}, (l.map (·.1)).Nodup → ∀ x ∈ l, ∀ y ∈ l, x.1 = y.1 → x = y := by
    intro l
    induction l with
    | nil => intro _ x hx; cases hx
    | cons h t ih =>
      intro n x hx y hy e
      rw [List.map_cons, List.nodup_cons] at n
      rcases List.mem_cons.mp hx with ex | hx1
      · rcases List.mem_cons.mp hy with ey | hy1
        · rw [ex, ey]
        · exact absurd (List.mem_map.mpr ⟨y, hy1, by rw [← e, ex]⟩) n.1
      · rcases List.mem_cons.mp hy with ey | hy1
        · exact absurd (List.mem_map.mpr ⟨x, hx1, by rw [e, ey]⟩) n.1
        · exact ih n.2 x hx1 y hy1 e
  cases c : f g with
  | true => exact List.any_eq_true.mpr ⟨g, hg, by rw [c]; simp⟩
  | false =>
    refine List.any_eq_false.mpr fun x hx => ?_
    by_cases e : x.1 = g.1
    · rw [u nd x hx g hg e, c]
      simp
    · simp [e]
theorem mem_wraps {gs : List Gt} {s : Str} : s ∈ wrapsW gs ↔ ∃ g ∈ gs, g.2.2 = ("wrap" : Str) ∧ g.1 = s := by
  unfold wrapsW
  constructor
  · intro h
    obtain ⟨g, hg, e⟩ := List.mem_map.mp h
    obtain ⟨h1, h2⟩ := List.mem_filter.mp hg
    exact ⟨g, h1, of_decide_eq_true h2, e⟩
  · rintro ⟨g, h1, h2, h3⟩
    exact List.mem_map.mpr ⟨g, List.mem_filter.mpr ⟨h1, decide_eq_true h2⟩, h3⟩
end WT

set_option Elab.async false
set_option linter.all false
set_option maxRecDepth 100000
set_option maxHeartbeats 4000000
/-! Sets of nested tuples of texts, whole numbers and None: adding. -/
namespace WT
open PySem PySem.Spec PyProof.Rows L2
abbrev Rw := Addr × NestedKey
def rws (w : World) (M : List Rw) : List (Int × Value) := M.map fun q => (q.2.hash w, Value.ref q.1)
/-- such a tuple at a -/
def NT (h : Heap) (q : Rw) : Prop := NestedIs h q.2 (.ref q.1) ∧ q.2.depth ≤ 8
theorem NT.up {h h2 : Heap} {q : Rw} (x : NT h q) (k : ∀ b o vs n, h.get? b = some o → o.data = .seq vs n → h2.get? b = some o) : NT h2 q := ⟨NestedIs.at k _ _ x.1, x.2⟩
theorem NT.kd {P : Program} {w : World} {h : Heap} {q : Rw} (x : NT h q) : (nestedKind P w).is h q.2 q.1 := x
theorem NT.store {h h2 : Heap} {a : Addr} {ob : Obj} {en : Array (Int × Value)} {ec : Nat} {tb : SetTable} {q : Rw} (x : NT h q) (h0 : h.get? a = some ob) (hd : ob.data = .set en ec tb) (sb : Heap.SameBut a h h2) : NT h2 q := by
  refine x.up fun b o vs n e z => ?_
  rw [sb.2 b fun e2 : b = a => ?_]
  · exact e
  · rw [e2, h0] at e
    obtain rfl := Option.some.inj e
    rw [hd] at z
    exact nomatch z
section
variable {P : Program} {w : World}
/-- no class statement's doing -/
def NoCls (P : Program) (w : World) (n : Nat) (s : Shared) (v : Value) : Prop := ∀ (A : Around) (E : Value → Shared → Prop) (Z : Bool → Shared → Prop), Z false s → wpAny (model P w) A (ofAClassStatement n v) Z E s
theorem NoCls.plain {n : Nat} {s : Shared} {v : Value} (h : carriedByValue v = true) : NoCls P w n s v := fun A E Z z => by
  cases v with
  | ref a => exact absurd h Bool.false_ne_true
  | _ => cases n <;> exact wpAny_pure z
theorem NoCls.tuple {n : Nat} {s : Shared} {b : Addr} {o : Obj} {vs : Array Value} {m : Nat} (hg : s.heap.get? b = some o) (hc : o.cls = .type "tuple") (hd : o.data = .seq vs m) (q : ∀ v ∈ vs.toList, NoCls P w n s v) : NoCls P w (n + 1) s (.ref b) := fun A E Z z => by
  have hT : s.TypeIs (.ref b) "tuple" := ⟨o, hg, hc⟩
  unfold ofAClassStatement
  refine wpAny_bind (wpAny_typeOf hT ?_)
  dsimp only
  have e : (("tuple" : String) == "tuple") = true := by decide
  simp only [e, if_true, Bool.not_true, Bool.false_eq_true, if_false]
  try refine wpAny_bind (wpAny_pure ?_)
  try simp only [Bool.not_true, Bool.false_eq_true, if_false]
  show wpAny (model P w) A (seqItems? (.ref b) >>= _) Z E s
  refine wpAny_bind (wpAny_seqItems hg hd ?_)
  dsimp only
  refine wpAny_bind ?_
  show wpAny (model P w) A (forIn vs _ _) _ E s
  rw [← Array.forIn_toList]
  refine wpAny_forIn_list _ (fun rest r s2 => r.1 = none ∧ s2 = s ∧ ∀ v ∈ rest, NoCls P w n s v) _ ?_ ?_ _ _ ⟨rfl, rfl, q⟩
  · rintro v rest r s2 ⟨hr, rfl, hl⟩
    refine wpAny_bind (hl v List.mem_cons_self _ _ _ ?_)
    simp only [Bool.false_eq_true, if_false]
    exact wpAny_pure ⟨rfl, rfl, fun u hu => hl u (List.mem_cons_of_mem _ hu)⟩
  · rintro ⟨r1, r2⟩ s2 ⟨hr, rfl, _⟩
    simp only at hr
    subst hr
    exact wpAny_pure z
/-- whatever is said of how it is hashed -/
def AnyHb (P : Program) (w : World) (n : Nat) (s : Shared) (v : Value) : Prop := ∀ (A : Around) (E : Value → Shared → Prop) (Z : Bool → Shared → Prop), (∀ b, Z b s) → wpAny (model P w) A (hashByValue n v) Z E s
theorem AnyHb.plain {k : NestedKey} {n : Nat} {s : Shared} {v : Value} (hk : NestedIs s.heap k v) (h : carriedByValue v = true) : AnyHb P w n s v := fun A E Z z => by
  cases hk with
  | tup => exact absurd h Bool.false_ne_true
  | none => cases n <;> exact wpAny_pure (z _)
  | bool => cases n <;> exact wpAny_pure (z _)
  | int => cases n <;> exact wpAny_pure (z _)
  | text => cases n <;> exact wpAny_pure (z _)
theorem AnyHb.tuple {n : Nat} {s : Shared} {b : Addr} {o : Obj} {vs : Array Value} {m : Nat} (hg : s.heap.get? b = some o) (hc : o.cls = .type "tuple") (hd : o.data = .seq vs m) (q : ∀ v ∈ vs.toList, AnyHb P w n s v) : AnyHb P w (n + 1) s (.ref b) := fun A E Z z => by
  have hT : s.TypeIs (.ref b) "tuple" := ⟨o, hg, hc⟩
  unfold hashByValue
  refine wpAny_bind (wpAny_specialOf hT PySem.F.slot_tuple_hash.lookup ?_)
  show wpAny (model P w) A (seqItems? (.ref b) >>= _) Z E s
  refine wpAny_bind (wpAny_seqItems hg hd ?_)
  refine wpAny_bind ?_
  show wpAny (model P w) A (forIn vs _ _) _ E s
  rw [← Array.forIn_toList]
  refine wpAny_forIn_list _ (fun rest r s2 => r.1 = none ∧ s2 = s ∧ ∀ v ∈ rest, AnyHb P w n s v) _ ?_ ?_ _ _ ⟨rfl, rfl, q⟩
  · rintro v rest r s2 ⟨hr, rfl, hl⟩
    refine wpAny_bind (hl v List.mem_cons_self _ _ _ fun c => ?_)
    cases c
    · simp only [Bool.not_false, if_true]
      exact wpAny_pure (wpAny_pure (z _))
    · simp only [Bool.not_true, Bool.false_eq_true, if_false]
      exact wpAny_pure ⟨rfl, rfl, fun u hu => hl u (List.mem_cons_of_mem _ hu)⟩
  · rintro ⟨r1, r2⟩ s2 ⟨hr, rfl, _⟩
    simp only at hr
    subst hr
    exact wpAny_pure (z _)
mutual
theorem nocls : ∀ (k : NestedKey) (v : Value) (n : Nat) (s : Shared), NestedIs s.heap k v → k.depth ≤ n → NoCls P w n s v
  | .none, _, n, s, x, _ => by cases x; exact .plain rfl
  | .num i, _, n, s, x, _ => by cases x <;> exact .plain rfl
  | .text y, _, n, s, x, _ => by cases x; exact .plain rfl
  | .tup ks, _, n, s, x, hn => by
    cases x with
    | tup hg hc hd hk =>
      simp only [NestedKey.depth] at hn
      cases n with
      | zero => omega
      | succ n => exact .tuple hg hc hd (noclss ks _ n s hk (by omega))
theorem noclss : ∀ (ks : List NestedKey) (vs : List Value) (n : Nat) (s : Shared), NestedAll s.heap ks vs → NestedKey.depthAll ks ≤ n → ∀ v ∈ vs, NoCls P w n s v
  | [], _, n, s, x, _, v, hv => by cases x; cases hv
  | k :: ks, _, n, s, x, hn, v, hv => by
    cases x with
    | cons x1 x2 =>
      simp only [NestedKey.depthAll] at hn
      rcases List.mem_cons.mp hv with e | hv
      · rw [e]; exact nocls k _ n s x1 (by omega)
      · exact noclss ks _ n s x2 (by omega) v hv
end
mutual
theorem anyhb : ∀ (k : NestedKey) (v : Value) (n : Nat) (s : Shared), NestedIs s.heap k v → k.depth ≤ n → AnyHb P w n s v
  | .none, _, n, s, x, _ => by
    have y := x
    cases x
    exact .plain y rfl
  | .num i, _, n, s, x, _ => by
    have y := x
    cases x <;> exact .plain y rfl
  | .text z, _, n, s, x, _ => by
    have y := x
    cases x
    exact .plain y rfl
  | .tup ks, _, n, s, x, hn => by
    cases x with
    | tup hg hc hd hk =>
      simp only [NestedKey.depth] at hn
      cases n with
      | zero => omega
      | succ n => exact .tuple hg hc hd (anyhbs ks _ n s hk (by omega))
theorem anyhbs : ∀ (ks : List NestedKey) (vs : List Value) (n : Nat) (s : Shared), NestedAll s.heap ks vs → NestedKey.depthAll ks ≤ n → ∀ v ∈ vs, AnyHb P w n s v
  | [], _, n, s, x, _, v, hv => by cases x; cases hv
  | k :: ks, _, n, s, x, hn, v, hv => by
    cases x with
    | cons x1 x2 =>
      simp only [NestedKey.depthAll] at hn
      rcases List.mem_cons.mp hv with e | hv
      · rw [e]; exact anyhb k _ n s x1 (by omega)
      · exact anyhbs ks _ n s x2 (by omega) v hv
end
variable {A : Around} {E : Value → Shared → Prop} {s : Shared}
/-- a search among such tuples tells nothing -/
theorem unseen {q : Rw} (hq : NT s.heap q) {ys : List Value} (hy : ∀ y ∈ ys, ∃ r : Rw, y = Value.ref r.1 ∧ NT s.heap r) {Z : Bool → Shared → Prop} (z : Z false s) : wpAny (model P w) A (searchCouldBeSeen (.ref q.1) ys) Z E s := by
  unfold searchCouldBeSeen
  refine wpAny_bind ?_
  refine wpAny_forIn_list _ (fun rest r s2 => r.1 = none ∧ s2 = s ∧ ∀ y ∈ rest, ∃ r : Rw, y = Value.ref r.1 ∧ NT s.heap r) _ ?_ ?_ _ _ ⟨rfl, rfl, hy⟩
  · rintro v rest r s2 ⟨hr, rfl, hl⟩
    obtain ⟨c, rfl, hc⟩ := hl v List.mem_cons_self
    have more : ∀ y ∈ rest, ∃ r : Rw, y = Value.ref r.1 ∧ NT s2.heap r := fun u hu => hl u (List.mem_cons_of_mem _ hu)
    dsimp only
    by_cases g : (q.1 == c.1 || (carriedByValue (.ref q.1) && carriedByValue (.ref c.1))) = true
    · exact wp_if_pos g (wpAny_pure ⟨rfl, rfl, more⟩)
    · refine wp_if_neg g ?_
      refine wpAny_bind ((nestedKind P w).quiet hq.kd ?_)
      simp only [Bool.not_true, Bool.false_eq_true, if_false]
      refine wpAny_bind ((nestedKind P w).quiet hc.kd ?_)
      simp only [Bool.not_true, Bool.false_eq_true, if_false]
      refine wpAny_bind (nocls q.2 _ 8 s2 hq.1 hq.2 _ _ _ ?_)
      simp only [Bool.false_eq_true, if_false]
      refine wpAny_bind (nocls c.2 _ 8 s2 hc.1 hc.2 _ _ _ ?_)
      simp only [Bool.false_eq_true, if_false]
      exact wpAny_pure ⟨rfl, rfl, more⟩
  · rintro ⟨r1, r2⟩ s2 ⟨hr, rfl, _⟩
    simp only at hr
    subst hr
    exact wpAny_pure z
end
end WT

set_option Elab.async false
set_option linter.all false
set_option maxRecDepth 100000
set_option maxHeartbeats 4000000
/-! Sets of nested tuples: the search, adding one. -/
namespace WT
open PySem PySem.Spec PyProof.Rows L2
/-- the set at a has just the tuples M -/
structure KTab (w : World) (h : Heap) (a : Addr) (M : List Rw) (ob : Obj) (en : Array (Int × Value)) (ec : Nat) (tb : SetTable) : Prop where
  at_ : h.get? a = some ob
  ex : ob.ExactSet
  da : ob.data = .set en ec tb
  rows : en.toList = rws w M
  tab : TabOk tb (M.map fun q => q.2.hash w)
  nd : (M.map Prod.snd).Nodup
  all : ∀ q ∈ M, NT h q
  led : w.params.followText "set-order" = true ∨ tb.led = true
  room : M.length * 5 < tb.mask * 3
  few : M.length < 64
def KS (w : World) (h : Heap) (a : Addr) (M : List Rw) : Prop := ∃ ob en ec tb, KTab w h a M ob en ec tb
/-- the first step of a key's way -/
abbrev k0 (w : World) (m : Nat) (k : NestedKey) : SetTable.Probe := runAt m (SetTable.bits (k.hash w) % (m + 1)) (SetTable.bits (k.hash w))
theorem nth_nodummy (m : Nat) : ∀ (n : Nat) (p : SetTable.Probe), p.dummy = none → (nth m p n).dummy = none
  | 0, _, h => h
  | n + 1, p, h => nth_nodummy m n (adv m p) (by unfold adv; split <;> exact h)
section
variable {P : Program} {w : World} {A : Around} {E : Value → Shared → Prop} {s : Shared} {a : Addr} {M : List Rw} {ob : Obj} {en : Array (Int × Value)} {ec : Nat} {tb : SetTable}
theorem KTab.len (R : KTab w s.heap a M ob en ec tb) : en.size = M.length := by
  rw [← Array.length_toList, R.rows]
  exact List.length_map _
theorem KTab.psz (R : KTab w s.heap a M ob en ec tb) : tb.place.toList.length = M.length := by
  rw [Array.length_toList, R.tab.sz, List.length_map]
theorem KTab.fit (R : KTab w s.heap a M ob en ec tb) : tb.fits en.size = true := by
  have z1 := R.psz
  rw [Array.length_toList] at z1
  have z2 := R.len
  have z3 := R.room
  unfold SetTable.fits SetTable.fill
  rw [R.tab.dm, Bool.and_eq_true, beq_iff_eq, decide_eq_true_eq]
  exact ⟨by omega, by show tb.place.size + 0 ≤ tb.mask; omega⟩
theorem KTab.get (R : KTab w s.heap a M ob en ec tb) {i : Nat} {q : Rw} (h : M[i]? = some q) : en[i]? = some (q.2.hash w, Value.ref q.1) := by
  rw [← Array.getElem?_toList, R.rows]
  show (M.map _)[i]? = _
  rw [List.getElem?_map, h]
  rfl
theorem KTab.sound (R : KTab w s.heap a M ob en ec tb) : ¬ tb.gaveWay = true := by
  unfold SetTable.gaveWay
  rw [mask_odd R.tab.mok]
  exact by decide
theorem k_search (R : KTab w s.heap a M ob en ec tb) {x : Rw} (hx : NT s.heap x) (hu : A.units + 8 < cLine) {n : Nat} (nf : n < 10 * SetTable.turns tb.mask) (ne : way tb.mask (x.2.hash w) n ∉ tb.place.toList) (nb : ∀ c, c < n → way tb.mask (x.2.hash w) c ∈ tb.place.toList)
    {Z : SetFound → Shared → Prop} (yes : x.2 ∈ M.map Prod.snd → Z (.there none) s) (no : x.2 ∉ M.map Prod.snd → Z (.free (way tb.mask (x.2.hash w) n) false) s) :
    ∀ (f c : Nat) (st : Option SetTable.Probe), st.getD (tb.probeStart (x.2.hash w)) = nth tb.mask (k0 w tb.mask x.2) c → c ≤ n → n - c < f →
      (∀ (i : Nat) (q : Rw), M[i]? = some q → q.2 = x.2 → ∃ d, c ≤ d ∧ d < n ∧ tb.place.toList[i]? = some (way tb.mask (x.2.hash w) d)) →
      wpAny (model P w) A (setSearchFrom a (.ref x.1) (x.2.hash w) true f st) Z E s
  | 0, c, st, _, _, hf, _ => by omega
  | f + 1, c, st, es, hc, hf, hre => by
    rw [setSearchFrom_succ]
    refine wpAny_bind (wpAny_setState_of R.at_ R.da R.fit ?_)
    dsimp only
    refine wp_if_neg R.sound ?_
    try refine wpAny_bind (wpAny_pure ?_)
    have jump : ∀ d, nth tb.mask (nth tb.mask (k0 w tb.mask x.2) c) d = nth tb.mask (k0 w tb.mask x.2) (c + d) := fun d => (nth_add tb.mask c _ d).symm
    have jj : ∀ d, (nth tb.mask (nth tb.mask (k0 w tb.mask x.2) c) d).j = way tb.mask (x.2.hash w) (c + d) := fun d => by rw [jump]
    have lastj : (nth tb.mask (nth tb.mask (k0 w tb.mask x.2) c) (n - c)).j = way tb.mask (x.2.hash w) n := by rw [jj, show c + (n - c) = n by omega]
    have hat : ∀ (i : Nat) (q : Rw), M[i]? = some q → (en[i]?.map (·.1)).getD 0 = q.2.hash w := fun i q hq => by rw [R.get hq]; rfl
    -- one that is passed is not the key
    have pass : ∀ {i : Nat} {q : Rw} {d : Nat}, M[i]? = some q → q.2 = x.2 → d < n → c ≤ d → tb.place.toList[i]? = some (way tb.mask (x.2.hash w) d) →
        (∀ (k' i' : Nat), k' < d + 1 - c → tb.place.toList[i']? = some (nth tb.mask (nth tb.mask (k0 w tb.mask x.2) c) k').j → (en[i']?.map (·.1)).getD 0 ≠ x.2.hash w) → False := fun {i q d} h1 h2 h3 h4 h5 h6 => by
      refine h6 (d - c) i (by omega) ?_ ((hat i q h1).trans (by rw [h2]))
      rw [jj, show c + (d - c) = d by omega]
      exact h5
    rcases go_spec tb R.tab.ris R.tab.dm (fun i => (en[i]?.map (·.1)).getD 0) (x.2.hash w) (10 * SetTable.turns tb.mask) (n - c) _ (nth_nodummy _ c _ rfl) (by omega) (fun d hd => by rw [jj]; exact nb _ (by omega)) (by rw [lastj]; exact ne) with ⟨d, i, hd, hi, hh, hno, hp⟩ | ⟨hno, hp⟩
    · have hp2 : tb.probe (fun i => (en[i]?.map (·.1)).getD 0) (x.2.hash w) (st.getD (tb.probeStart (x.2.hash w))) = some (.candidate (way tb.mask (x.2.hash w) (c + d)) i (nth tb.mask (k0 w tb.mask x.2) (c + (d + 1)))) := by
        rw [es, ← jj, ← jump]
        exact hp
      rw [hp2]
      dsimp only
      rw [jj] at hi
      have il : i < M.length := by
        have := (List.getElem?_eq_some_iff.mp hi).1
        rw [R.psz] at this
        exact this
      obtain ⟨q, hq⟩ : ∃ q, M[i]? = some q := ⟨_, List.getElem?_eq_getElem il⟩
      have qm := List.mem_of_getElem? hq
      have go : wpAny (model P w) A (searchRest a (.ref x.1) (x.2.hash w) true f en tb (way tb.mask (x.2.hash w) (c + d)) i (nth tb.mask (k0 w tb.mask x.2) (c + (d + 1)))) Z E s := by
        unfold searchRest
        rw [R.get hq]
        dsimp only
        refine wpAny_bind (wpAny_holding ((nestedKind P w).eqBool hu (R.all q qm).kd hx.kd ?_))
        refine wpAny_bind (wpAny_setState_of R.at_ R.da R.fit ?_)
        dsimp only
        by_cases e : q.2 = x.2
        · exact wp_if_pos (by simp [e]) (wpAny_pure (yes (List.mem_map.mpr ⟨q, qm, e⟩)))
        · refine wp_if_neg (by simp [e]) ?_
          try refine wpAny_bind (wpAny_pure ?_)
          rw [sameMem]
          dsimp only
          have sl := slot_live R.tab.ris hi
          simp only [if_true, sl, R.get hq]
          refine wpAny_bind (wpAny_isSame_ref_self (wpAny_bind (wpAny_pure ?_)))
          simp only [if_true]
          refine wp_if_neg (by simp [e]) ?_
          refine k_search R hx hu nf ne nb yes no f (c + (d + 1)) _ rfl (by omega) (by omega) fun i2 q2 z1 z2 => ?_
          obtain ⟨d2, b1, b2, b3⟩ := hre i2 q2 z1 z2
          refine ⟨d2, ?_, b2, b3⟩
          rcases Nat.lt_trichotomy d2 (c + d) with g | g | g
          · exact (pass z1 z2 b2 b1 b3 fun k' i' hk => hno k' i' (by omega)).elim
          · rw [g] at b3
            have sl2 := slot_live R.tab.ris b3
            rw [sl] at sl2
            injection sl2 with ei
            rw [← ei, hq] at z1
            exact absurd ((congrArg Prod.snd (Option.some.inj z1)).trans z2) e
          · omega
      by_cases hl : tb.led = true
      · refine wp_if_neg (by simp [hl]) ?_
        try refine wpAny_bind (wpAny_pure ?_)
        exact go
      · refine wp_if_pos (by simp [hl]) ?_
        refine wpAny_bind (unseen hx (fun y hy => ?_) ?_)
        · obtain ⟨e, he, ee⟩ := List.mem_map.mp hy
          have e1 : e ∈ en ∧ e.1 = x.2.hash w := by simpa using he
          have e2 : e ∈ en.toList := by simpa using e1.1
          rw [R.rows] at e2
          obtain ⟨r, hr, er⟩ := List.mem_map.mp e2
          exact ⟨r, by rw [← ee, ← er], R.all r hr⟩
        · refine wp_if_neg Bool.false_ne_true ?_
          try refine wpAny_bind (wpAny_pure ?_)
          exact go
    · have hp2 : tb.probe (fun i => (en[i]?.map (·.1)).getD 0) (x.2.hash w) (st.getD (tb.probeStart (x.2.hash w))) = some (.empty (way tb.mask (x.2.hash w) n) none) := by
        rw [es, ← lastj]
        exact hp
      rw [hp2]
      dsimp only
      refine wpAny_pure (no fun hm => ?_)
      obtain ⟨q, hq, e⟩ := List.mem_map.mp hm
      obtain ⟨i, hi, ei⟩ := List.getElem_of_mem hq
      have hi2 : M[i]? = some q := by rw [List.getElem?_eq_getElem hi, ei]
      obtain ⟨d, b1, b2, b3⟩ := hre i q hi2 e
      exact pass hi2 e b2 b1 b3 fun k' i' hk => hno k' i' (by omega)
theorem k_search0 (R : KTab w s.heap a M ob en ec tb) {x : Rw} (hx : NT s.heap x) (hu : A.units + 8 < cLine) {Z : SetFound → Shared → Prop} (yes : x.2 ∈ M.map Prod.snd → Z (.there none) s)
    (no : ∀ n, x.2 ∉ M.map Prod.snd → way tb.mask (x.2.hash w) n ∉ tb.place.toList → (∀ c, c < n → way tb.mask (x.2.hash w) c ∈ tb.place.toList) → Z (.free (way tb.mask (x.2.hash w) n) false) s) :
    wpAny (model P w) A (setSearch a (.ref x.1) (x.2.hash w) true) Z E s := by
  have z1 := R.room
  obtain ⟨n, nf, ne, nb⟩ := R.tab.first (by rw [List.length_map]; omega) (x.2.hash w)
  have big : n < 100000 := by
    have : 10 * SetTable.turns tb.mask ≤ 1420 := by
      unfold SetTable.turns
      rcases R.tab.mok with e | e | e <;> omega
    omega
  unfold setSearch
  refine k_search R hx hu nf ne nb yes (fun z => no n z ne nb) 100000 0 none rfl (Nat.zero_le n) big fun i q hq e => ?_
  have g1 : (M.map fun q => q.2.hash w)[i]? = some (x.2.hash w) := by rw [List.getElem?_map, hq, ← e]; rfl
  have g2 : i < tb.place.toList.length := by
    rw [R.psz]
    exact (List.getElem?_eq_some_iff.mp hq).1
  have g3 := List.getElem?_eq_getElem g2
  obtain ⟨d, hd, ed⟩ := R.tab.before ne g1 g3
  exact ⟨d, Nat.zero_le _, hd, by rw [g3, ed]⟩
end
end WT

set_option Elab.async false
set_option linter.all false
set_option maxRecDepth 100000
set_option maxHeartbeats 4000000
/-! Sets of nested tuples: adding one, laying anew. -/
namespace WT
open PySem PySem.Spec PyProof.Rows L2
theorem rws_len {w : World} {M : List Rw} {en : Array (Int × Value)} (h : en.toList = rws w M) : en.size = M.length := by
  rw [← Array.length_toList, h]
  exact List.length_map _
theorem rws_get {w : World} {M : List Rw} {en : Array (Int × Value)} (h : en.toList = rws w M) (i : Nat) : en[i]? = M[i]?.map fun q => (q.2.hash w, Value.ref q.1) := by
  rw [← Array.getElem?_toList, h]
  exact List.getElem?_map
theorem pick_rng {α : Type} (l : List α) : (List.range l.length).filterMap (fun i => l[i]?) = l := by
  have st : ∀ n, n ≤ l.length → (List.range n).filterMap (fun i => l[i]?) = l.take n := by
    intro n
    induction n with
    | zero => exact fun _ => rfl
    | succ n ih =>
      intro hn
      have e : l[n]? = some l[n] := List.getElem?_eq_getElem hn
      rw [List.range_succ, List.filterMap_append, ih (by omega), List.take_add_one, e]
      simp [e]
  have := st l.length (Nat.le_refl _)
  rwa [List.take_length] at this
/-- the entries in a new order -/
theorem rws_order (w : World) {M : List Rw} {en : Array (Int × Value)} (h : en.toList = rws w M) {od : Array Nat} (hp : od.toList.Perm (List.range M.length)) :
    ∃ N, (od.filterMap (en[·]?)).toList = rws w N ∧ N.Perm M ∧ (N.map fun q => q.2.hash w) = od.toList.map fun i => (en.map (·.1)).getD i 0 := by
  refine ⟨od.toList.filterMap fun i => M[i]?, ?_, ?_, ?_⟩
  · rw [Array.toList_filterMap]
    show _ = List.map _ _
    rw [List.map_filterMap]
    refine congrArg (fun g => List.filterMap g od.toList) (funext fun i => ?_)
    exact rws_get h i
  · have := hp.filterMap fun i => M[i]?
    rwa [pick_rng] at this
  · have all : ∀ i ∈ od.toList, i < M.length := fun i hi => List.mem_range.mp (hp.mem_iff.mp hi)
    generalize od.toList = l at all
    induction l with
    | nil => rfl
    | cons i l ih =>
      have e : M[i]? = some (M[i]'(all i List.mem_cons_self)) := List.getElem?_eq_getElem _
      rw [List.filterMap_cons_some e, List.map_cons, List.map_cons, ih fun j hj => all j (List.mem_cons_of_mem _ hj)]
      congr 1
      have e2 : (en.map (·.1))[i]? = some ((M[i]'(all i List.mem_cons_self)).2.hash w) := by
        rw [Array.getElem?_map, rws_get h, e]
        rfl
      simp [Array.getD_eq_getD_getElem?, e2]
section
variable {P : Program} {w : World} {A : Around} {E : Value → Shared → Prop} {s : Shared} {a : Addr} {M : List Rw} {ob : Obj} {en : Array (Int × Value)} {ec : Nat} {tb : SetTable}
theorem k_relay (h0 : s.heap.get? a = some ob) (hx : ob.ExactSet) (hd : ob.data = .set en ec tb) (hr : en.toList = rws w M) (sz : tb.place.size = en.size) (dm : tb.dummies = #[]) (fl : en.size ≤ tb.mask) (nd : (M.map Prod.snd).Nodup) (all : ∀ q ∈ M, NT s.heap q)
    (ld : w.params.followText "set-order" = true ∨ tb.led = true) (few : M.length < 64) {g m : Nat} (eg : SetTable.sizeAbove g - 1 = m) (gm : MaskOk m) (gs : SetTable.sizeAbove g ≤ 128) (gn : M.length * 5 < m * 3) {Z : Unit → Shared → Prop}
    (z : ∀ h2 N, Heap.SameBut a s.heap h2 → KS w h2 a N → N.Perm M → Z () { s with heap := h2 }) : wpAny (model P w) A (setRelay a g) Z E s := by
  have es := rws_len hr
  have fit : tb.fits en.size = true := by
    unfold SetTable.fits SetTable.fill
    rw [dm, Bool.and_eq_true, beq_iff_eq, decide_eq_true_eq]
    exact ⟨by omega, by show tb.place.size + 0 ≤ tb.mask; omega⟩
  obtain ⟨tb2, od, e1, p1, T, e2, e3, _, _⟩ := relaid_ok tb (hs := en.map (·.1)) (wanted := g) eg gm (by rw [Array.size_map]; omega)
  rw [Array.size_map, es] at p1
  obtain ⟨N, r1, r2, r3⟩ := rws_order w hr p1
  rw [← r3] at T
  have es2 : (od.filterMap (en[·]?)).size = en.size := by
    rw [rws_len r1, r2.length_eq, es]
  rw [setRelay_eq]
  refine wpAny_bind (wpAny_setState_of h0 hd fit ?_)
  dsimp only
  refine wp_if_neg (by rw [sizeLine_eq]; omega) ?_
  try refine wpAny_bind (wpAny_pure ?_)
  rw [e1]
  dsimp only
  refine wpAny_bind ?_
  refine wp_if_neg (by simp [es2]) ?_
  try refine wpAny_bind (wpAny_pure ?_)
  refine wpAny_pure ?_
  dsimp only
  refine wpAny_storeSet_of h0 hd ?_ (by rw [es2, es, sizeLine_eq]; omega)
  have sb : Heap.SameBut a s.heap (s.heap.update a (Obj.putSet (od.filterMap (en[·]?)) tb2)) := Heap.SameBut.update s.heap a _
  refine z _ N sb ⟨_, _, ec + 1, tb2, store_at h0 hd, ⟨hx.1, hx.2.1, hx.2.2⟩, rfl, r1, T, (r2.map Prod.snd).nodup_iff.mpr nd, fun q hq => (all q (r2.mem_iff.mp hq)).store h0 hd sb, by rw [e3]; exact ld, ?_, by rw [r2.length_eq]; exact few⟩ r2
  rw [r2.length_eq, e2]
  exact gn
theorem k_add (R : KS w s.heap a M) {x : Rw} (hx : NT s.heap x) (hu : A.units + 8 < cLine) (few : M.length + 1 < 64) {Z : Bool → Shared → Prop}
    (z : ∀ b h2 N, Heap.SameBut a s.heap h2 → KS w h2 a N → (x.2 ∈ M.map Prod.snd → N = M) → (x.2 ∉ M.map Prod.snd → N.Perm (x :: M)) → Z b { s with heap := h2 }) :
    wpAny (model P w) A (setAddHashed a (.ref x.1) (x.2.hash w)) Z E s := by
  have R0 := R
  obtain ⟨ob, en, ec, tb, R⟩ := R
  have es := R.len
  have rm := R.room
  unfold setAddHashed
  refine wpAny_holding ?_
  rw [show (100000 : Nat) = 99999 + 1 from rfl, setAddHashedIn_succ]
  refine wpAny_bind (wpAny_setState_of R.at_ R.da R.fit ?_)
  dsimp only
  refine wp_if_neg (by simp [byScan, Value.scannable]) ?_
  try refine wpAny_bind (wpAny_pure ?_)
  refine wpAny_bind (k_search0 R hx hu (fun hm => ?_) fun n hm ne nb => ?_)
  · dsimp only
    exact wpAny_pure (z false s.heap M (Heap.SameBut.refl a s.heap) R0 (fun _ => rfl) fun c => absurd hm c)
  · dsimp only
    refine wpAny_bind (wpAny_setState_of R.at_ R.da R.fit ?_)
    dsimp only
    obtain ⟨q1, q2, q3, q4, q5, _, _, _, q9⟩ := R.tab.put ne nb
    generalize hpt : tb.put (way tb.mask (x.2.hash w) n) = pt at q1 q3 q4 q5 q9 ⊢
    obtain ⟨tb1, j⟩ := pt
    dsimp only at q1 q3 q4 q5 q9 ⊢
    subst q1
    generalize hj : SetTable.below tb.place (way tb.mask (x.2.hash w) n) = j at q2 q3 ⊢
    have hin : (SetTable.insertAt en j (x.2.hash w, Value.ref x.1)).toList = rws w (M.take j ++ x :: M.drop j) := by
      rw [SetTable.toList_insertAt, R.rows]
      unfold rws
      rw [List.map_append, List.map_cons, List.map_take, List.map_drop]
    have pm : (M.take j ++ x :: M.drop j).Perm (x :: M) := put_perm M j x
    have e1 : ((M.map fun q => q.2.hash w).take j ++ x.2.hash w :: (M.map fun q => q.2.hash w).drop j) = (M.take j ++ x :: M.drop j).map fun q => q.2.hash w := by
      rw [List.map_append, List.map_cons, List.map_take, List.map_drop]
    rw [e1] at q3
    generalize SetTable.insertAt en j (x.2.hash w, Value.ref x.1) = en1 at hin ⊢
    generalize M.take j ++ x :: M.drop j = M1 at hin pm q3
    have l1 : M1.length = M.length + 1 := pm.length_eq
    have es1 : en1.size = M.length + 1 := (rws_len hin).trans l1
    have nd1 : (M1.map Prod.snd).Nodup := (pm.map Prod.snd).nodup_iff.mpr (List.nodup_cons.mpr ⟨hm, R.nd⟩)
    -- however it is hashed
    have rest : ∀ tb2 : SetTable, tb2.mask = tb1.mask → tb2.place = tb1.place → tb2.dummies = tb1.dummies → tb2.led = tb1.led → TabOk tb2 (M1.map fun q => q.2.hash w) → wpAny (model P w) A (do
          storeSet a en1 tb2
          if (!false && tb2.tooFull) = true then do
              setRelay a (SetTable.grown (en.size + 1))
              pure true
            else pure true) Z E s := fun tb2 m2 pl2 dm2 ld2 T2 => by
      refine wpAny_bind (wpAny_storeSet_of R.at_ R.da ?_ (by rw [es1, sizeLine_eq]; omega))
      have sb : Heap.SameBut a s.heap (s.heap.update a (Obj.putSet en1 tb2)) := Heap.SameBut.update s.heap a _
      have h1 := store_at (es' := en1) (t' := tb2) R.at_ R.da
      generalize s.heap.update a (Obj.putSet en1 tb2) = h2 at sb h1 ⊢
      have all1 : ∀ q ∈ M1, NT h2 q := fun q hq => by
        rcases List.mem_cons.mp (pm.mem_iff.mp hq) with e | hq
        · rw [e]; exact hx.store R.at_ R.da sb
        · exact (R.all q hq).store R.at_ R.da sb
      have ld1 : w.params.followText "set-order" = true ∨ tb2.led = true := by rw [ld2, q5]; exact R.led
      have fl2 : tb2.fill = M.length + 1 := by
        have e : tb2.fill = tb1.fill := by
          unfold SetTable.fill
          rw [pl2, dm2]
        rw [e, q9, List.length_map]
      by_cases hf : tb2.tooFull = true
      · refine wp_if_pos (by simp [hf]) ?_
        refine wpAny_bind ?_
        have full : (M.length + 1) * 5 ≥ tb2.mask * 3 := by
          have := hf
          unfold SetTable.tooFull at this
          rw [decide_eq_true_eq, fl2] at this
          exact this
        rw [m2, q4] at full
        rw [es]
        have relay : ∀ m, SetTable.sizeAbove (SetTable.grown (M.length + 1)) - 1 = m → MaskOk m → SetTable.sizeAbove (SetTable.grown (M.length + 1)) ≤ 128 → (M.length + 1) * 5 < m * 3 →
            wpAny (model P w) A (setRelay a (SetTable.grown (M.length + 1))) (fun _ s2 => wpAny (model P w) A (pure true) Z E s2) E { s with heap := h2 } := fun m g1 g2 g3 g4 => by
          refine k_relay (s := { s with heap := h2 }) h1 ⟨R.ex.1, R.ex.2.1, R.ex.2.2⟩ rfl hin ?_ T2.dm ?_ nd1 all1 ld1 (by omega) g1 g2 g3 (by omega) fun h3 N sb3 R3 pm3 => ?_
          · have := T2.sz
            rw [List.length_map] at this
            omega
          · rw [es1, m2, q4]
            rcases R.tab.mok with e | e | e <;> omega
          · exact wpAny_pure (z true h3 N (sb.trans sb3) R3 (fun c => absurd c hm) fun _ => pm3.trans pm)
        rcases R.tab.mok with e | e | e
        · have e4 : M.length = 4 := by rw [e] at full rm; omega
          exact relay 31 (by rw [e4, size_20]) (.inr (.inl rfl)) (by rw [e4, size_20]; decide) (by omega)
        · have e18 : M.length = 18 := by rw [e] at full rm; omega
          exact relay 127 (by rw [e18, size_76]) (.inr (.inr rfl)) (by rw [e18, size_76]; decide) (by omega)
        · rw [e] at full
          omega
      · refine wp_if_neg (by simp [hf]) ?_
        refine wpAny_pure (z true h2 M1 sb ⟨_, en1, _, tb2, h1, ⟨R.ex.1, R.ex.2.1, R.ex.2.2⟩, rfl, hin, T2, nd1, all1, ld1, ?_, by omega⟩ (fun c => absurd c hm) fun _ => pm)
        have := hf
        unfold SetTable.tooFull at this
        rw [decide_eq_true_eq, fl2] at this
        omega
    have T2 : TabOk { tb1 with plain := false } (M1.map fun q => q.2.hash w) := ⟨q3.ris, q3.dm, q3.sz, q3.mok, q3.bd, q3.reach⟩
    by_cases hpl : tb1.plain = true
    · first
        | refine wp_if_pos hpl (wpAny_bind (anyhb x.2 _ 8 s hx.1 hx.2 _ _ _ fun c => ?_))
        | (refine wpAny_bind ?_; refine wp_if_pos hpl ?_; refine anyhb x.2 _ 8 s hx.1 hx.2 _ _ _ fun c => ?_)
      cases c
      · exact rest _ rfl rfl rfl rfl T2
      · exact rest _ rfl rfl rfl rfl q3
    · first
        | refine wp_if_neg hpl (wpAny_bind (wpAny_pure ?_))
        | (refine wpAny_bind ?_; refine wp_if_neg hpl ?_; refine wpAny_pure ?_)
      exact rest _ rfl rfl rfl rfl q3
end
end WT

set_option Elab.async false
set_option linter.all false
set_option maxRecDepth 100000
set_option maxHeartbeats 4000000
/-! Sets of nested tuples, tracked: a set comprehension, sorted(set). -/
namespace WT
open PySem PySem.Spec PyProof.Rows L2
mutual
theorem nk_reads {h : Heap} : ∀ (k : NestedKey) (u : Value) (as : List Addr), Reads h u k.data as → NestedIs h k u ∧ as = []
  | .none, _, _, r => by
    simp only [NestedKey.data] at r
    cases r
    exact ⟨.none, rfl⟩
  | .num i, _, _, r => by
    simp only [NestedKey.data] at r
    cases r
    exact ⟨.int _ _, rfl⟩
  | .text x, _, _, r => by
    simp only [NestedKey.data] at r
    cases r
    exact ⟨.text _ _, rfl⟩
  | .tup ks, _, _, r => by
    simp only [NestedKey.data] at r
    cases r with
    | tuple h1 h2 h3 h4 =>
      obtain ⟨z1, z2⟩ := nks_reads ks _ _ h4
      exact ⟨.tup h1 h2 h3 z1, z2⟩
theorem nks_reads {h : Heap} : ∀ (ks : List NestedKey) (us : List Value) (as : List Addr), ReadsAll h us (NestedKey.datas ks) as → NestedAll h ks us ∧ as = []
  | [], _, _, r => by
    simp only [NestedKey.datas] at r
    cases r
    exact ⟨.nil, rfl⟩
  | k :: ks, _, _, r => by
    simp only [NestedKey.datas] at r
    cases r with
    | cons r1 r2 =>
      obtain ⟨a1, a2⟩ := nk_reads k _ _ r1
      obtain ⟨b1, b2⟩ := nks_reads ks _ _ r2
      exact ⟨.cons a1 b1, by rw [a2, b2]; rfl⟩
end
/-- the set, without the tuples themselves -/
def KS0 (w : World) (h : Heap) (a : Addr) (M : List Rw) : Prop := ∃ ob en ec tb, h.get? a = some ob ∧ ob.ExactSet ∧ ob.data = .set en ec tb ∧ en.toList = rws w M ∧ TabOk tb (M.map fun q => q.2.hash w) ∧ (M.map Prod.snd).Nodup ∧ (∀ q ∈ M, q.2.depth ≤ 8) ∧
  (w.params.followText "set-order" = true ∨ tb.led = true) ∧ M.length * 5 < tb.mask * 3 ∧ M.length < 64
theorem KS.bare {w : World} {h : Heap} {a : Addr} {M : List Rw} (R : KS w h a M) : KS0 w h a M := by
  obtain ⟨ob, en, ec, tb, R⟩ := R
  exact ⟨ob, en, ec, tb, R.at_, R.ex, R.da, R.rows, R.tab, R.nd, fun q hq => (R.all q hq).2, R.led, R.room, R.few⟩
theorem KS0.full {w : World} {h : Heap} {a : Addr} {M : List Rw} (R : KS0 w h a M) (k : ∀ q ∈ M, NestedIs h q.2 (.ref q.1)) : KS w h a M := by
  obtain ⟨ob, en, ec, tb, g1, g2, g3, g4, g5, g6, g7, g8, g9, g10⟩ := R
  exact ⟨ob, en, ec, tb, g1, g2, g3, g4, g5, g6, fun q hq => ⟨k q hq, g7 q hq⟩, g8, g9, g10⟩
def KSO (w : World) (a : Addr) (M : List Rw) : HO := .ext fun h => KS0 w h a M
theorem kso_ok {P : Program} {w : World} {H : Hp} {h : Heap} {a : Addr} {M : List Rw} (R : KS0 w h a M) : ObjOk P w H h a (KSO w a M) := by
  have ⟨ob, en, ec, tb, g, r⟩ := R
  refine ⟨R, ⟨ob, g⟩, fun h1 h2 ⟨ob2, en2, ec2, tb2, g2, r2⟩ k => ⟨ob2, en2, ec2, tb2, k ob2 g2, r2⟩⟩
/-- an empty one -/
theorem ks0_new (w : World) {h : Heap} {a : Addr} (g : h.get? a = some { cls := .type "set", dict := none, data := .set #[] 0 (.fresh 0 0 (!w.params.followText "set-order")) }) : KS0 w h a [] := by
  refine ⟨_, #[], 0, _, g, ⟨rfl, rfl, rfl⟩, rfl, rfl, ⟨List.Pairwise.nil, rfl, rfl, .inl rfl, fun x hx => ?_, fun i k j hi => ?_⟩, List.nodup_nil, fun q hq => absurd hq List.not_mem_nil, ?_, ?_, by decide⟩
  · cases hx
  · simp at hi
  · show _ ∨ (!w.params.followText "set-order") = true
    cases w.params.followText "set-order"
    · exact .inr rfl
    · exact .inl rfl
  · show 0 * 5 < 7 * 3
    decide
section
variable {X : Cx} {pins : List (Addr × Obj)} {σ : L2.St} {H : Hp} {s : Shared}
theorem nk_dp (I : Inv X pins σ H s) {k : NestedKey} {v : V} {u : Value} (d : Dp X.K H v k.data) (r : RelV v u) : NestedIs s.heap k u := by
  obtain ⟨as, q⟩ := Dp.reads I _ _ _ d r
  exact (nk_reads k u as q).1
/-- such a set at D, its tuples too -/
def KSet (K : PySem.W.Frag) (w : World) (H : Hp) (D : Addr) (M : List Rw) : Prop := H D = some (KSO w D M) ∧ ∀ q ∈ M, Dp K H (.ref q.1) q.2.data
theorem kset_get (I : Inv X pins σ H s) {D : Addr} {M : List Rw} (h : KSet X.K X.w H D M) : KS X.w s.heap D M :=
  KS0.full (I.hok D _ h.1).1 fun q hq => nk_dp I (h.2 q hq) rfl
theorem addK_ok {E : Value → Shared → Prop} {D : Addr} {M : List Rw} {x : Rw} {Q : Value → Shared → Prop} (I : Inv X pins σ H s) (h : KSet X.K X.w H D M) (hx : Dp X.K H (.ref x.1) x.2.data) (hd : x.2.depth ≤ 8) (hu : X.A.units + 64 < cLine) (few : M.length + 1 < 64)
    (q : ∀ s2 N, (x.2 ∈ M.map Prod.snd → N = M) → (x.2 ∉ M.map Prod.snd → N.Perm (x :: M)) → Inv X pins σ (upd H D (KSO X.w D N)) s2 → Q .none s2) : wpAny (model X.prog X.w) X.A (call (.builtin "set.add") [.ref D, .ref x.1]) Q E s := by
  have R := kset_get I h
  have hn : NT s.heap x := ⟨nk_dp I hx rfl, hd⟩
  have hT : s.TypeIs (.ref D) "set" := by
    obtain ⟨ob, _, _, _, r⟩ := R
    exact ⟨ob, r.at_, r.ex.1⟩
  refine wpAny_call_entry PySem.F.slot_set_add hT PySem.F.entry_set_add ?_ (PySem.F.args_set_add_2 _ _)
  unfold Builtin.«set.add» Builtin.Frozenset.oneOther
  simp only [List.isEmpty_nil, bind_assoc]
  unfold Builtin.Frozenset.addrOf setAdd
  refine wpAny_bind (wpAny_pure ?_)
  try dsimp only
  refine wpAny_bind (wpAny_pure ?_)
  try dsimp only
  refine wpAny_bind (wpAny_holding (wpAny_bind ((nestedKind X.prog X.w).pyHash (k := x.2) (a := x.1) ?_ hn ?_)))
  · show (X.A.in1).units + 8 < cLine
    simp only [Around.in1_units]
    omega
  refine k_add (s := { s with toks := s.toks + x.2.draws }) R hn ?_ few fun b h2 N sb R2 c1 c2 => ?_
  · simp only [Around.in1_units]
    omega
  show wpAny (model X.prog X.w) _ (ret Value.none) _ _ _
  refine wpAny_pure ⟨_, rfl, q _ N c1 c2 ?_⟩
  have he : ∃ u, h2.get? D = some u := by
    obtain ⟨ob, _, _, _, r⟩ := R2
    exact ⟨ob, r.at_⟩
  exact I.write (e := D) (t' := s.toks + x.2.draws) (by rw [h.1]; trivial) (.inl rfl) (fun b u hb e => (sb.2 b hb).trans e) he (kso_ok R2.bare)
end
end WT

set_option Elab.async false
set_option linter.all false
set_option maxRecDepth 100000
set_option maxHeartbeats 4000000
/-! {f(x) for x in xs}, its items nested tuples; sorted of such a set. -/
namespace WT
open PySem PySem.Spec PyProof.Rows L2 PpSet PySem.W
abbrev newS (w : World) : Obj := { cls := .type "set", dict := none, data := .set #[] 0 (.fresh 0 0 (!w.params.followText "set-order")) }
section
variable {X : Cx}
/-- one turn's end: the item y goes in -/
def PutK (K : PySem.W.Frag) (w : World) (D : Addr) (y : V) (H : Hp) (Nx : Hp → Prop) : Prop := ∃ (q : Rw) (M : List Rw), y = .ref q.1 ∧ KSet K w H D M ∧ Dp K H (.ref q.1) q.2.data ∧ q.2.depth ≤ 8 ∧ M.length + 1 < 64 ∧
  ∀ N, (q.2 ∈ M.map Prod.snd → N = M) → (q.2 ∉ M.map Prod.snd → N.Perm (q :: M)) → Nx (upd H D (KSO w D N))
def tScK (K : PySem.W.Frag) (w : World) (wi : TI) (g : TG) (tt : L2.TT) (te : TE) (vs : List Nat) : TE := fun σ H Q => wi σ H fun J H1 => ∀ D, H1 D = none → ∃ W : Nat → Nat → Hp → Prop, (∃ m, W 0 m (upd H1 D (KSO w D []))) ∧ ∀ i m H, W i m H →
  (J.stop i H ∧ Q (.ref D) H) ∨ (J.go i H ∧ ∃ Nx : Hp → Prop, (∀ H', Nx H' → ∃ m', m' < m ∧ W (i + 1) m' H') ∧ ∀ x H', J.yld i H x H' → g x (wipe σ vs) H' fun σ2 H2 => wipe σ2 vs = wipe σ vs ∧ tt σ2 H2 fun b H3 =>
    if b = true then te σ2 H3 fun y H4 => PutK K w D y H4 Nx else Nx H3)
theorem pe_scK {elt tg iter : Expr} {ifs : List Expr} {scope : Scope} {own : List (PySem.Str × Nat)} {pos : Pos} {wi : TI} {g : TG} {tt : L2.TT} {te : TE} (hc : X.calm = true) (hu : X.A.units + 64 < cLine) (hN : X.N.Nodup) (hi : PI X tg iter wi) (ok : BlkOk X.N X.env.scope scope own)
    (hg : ∀ (s : Shared) (H : Hp) (C : Addr) (cl : List (PySem.Str × Addr)) (fp : List Addr), PG (X.blk s H scope (compEnvC scope cl C X.env) fp) tg g) (ht : ∀ (s : Shared) (H : Hp) (C : Addr) (cl : List (PySem.Str × Addr)) (fp : List Addr), PTs (X.blk s H scope (compEnvC scope cl C X.env) fp) ifs tt)
    (he : ∀ (s : Shared) (H : Hp) (C : Addr) (cl : List (PySem.Str × Addr)) (fp : List Addr), PE (X.blk s H scope (compEnvC scope cl C X.env) fp) elt te) (hs : ∀ x, foldedSetIterable iter X.env x = pure x := by intro _; rfl) :
    PE X (.SetComp elt [⟨tg, iter, ifs, 0⟩] scope pos) (tScK X.K X.w wi g tt te (own.map (·.2))) := by
  refine ⟨fun pins s σ H Q I h => ?_⟩
  rw [eval_SetComp]
  have fr : ∀ y ∈ scope.names, y.2 = .free → ∃ c, X.env.cells.lookup y.1 = some c := fun y hy e => by
    rcases ok.free y hy e with k | k
    · exact I.ok.has _ (.inl k)
    · exact I.ok.has _ (.inr k)
  refine wpAny_comprehension_free rfl hs (closure_ok fr) ok.kind (fun y hy e => by rw [ok.uniq y hy, e]) (thn (hi.run pins s σ H _ I h) fun xv s1 hx => thn hx fun itv s2 h2 => ?_)
  obtain ⟨it, fp, tn, J, H2, e, I2, T, st2, f2, q⟩ := h2
  subst e
  refine newSet_ok (newEnv_comp ?_)
  generalize hD : s2.heap.objs.size = D
  have Dn : H2 D = none := I2.hok.fresh (Nat.le_of_eq hD)
  obtain ⟨W, ⟨m0, w0⟩, turn⟩ := q D Dn
  generalize hs3 : ({ s2 with heap := s2.heap.push (newS X.w) } : Shared) = s3
  have g3 : s3.heap = s2.heap.push (newS X.w) := by rw [← hs3]
  generalize hH3 : upd H2 D (KSO X.w D []) = H3 at w0
  have I3 : Inv X pins σ H3 s3 := by
    rw [← hH3, ← hs3]
    refine I2.laid (t' := s2.toks) (fun b o z => Heap.get?_push_of_some _ z) (Nat.le_of_eq hD) (kso_ok ?_)
    rw [← hD]
    exact ks0_new X.w (Heap.get?_push_size _ rfl)
  have f3 : ∀ b ∈ fp, FpOk X pins H3 b ∧ b < s3.heap.objs.size := fun b hb => by
    obtain ⟨o, e, _⟩ := T.obj _ _ st2 b hb
    have lt := Heap.lt_size e
    refine ⟨⟨?_, (f2 b hb).2⟩, by rw [g3, Heap.size_push]; exact Nat.lt_succ_of_lt lt⟩
    rw [← hH3, upd_ne (by rw [← hD]; exact Nat.ne_of_lt lt)]
    exact (f2 b hb).1
  have st3 : tn 0 s3.heap := T.keep _ _ _ st2 fun b _ o e => by rw [g3]; exact Heap.get?_push_of_some _ e
  have I4 := block_start I3 ok hN f3
  have pg := hg s3 H3 s3.heap.objs.size (cellsFrom (s3.heap.objs.size + 1) scope.names (cloFrom X.env.cells scope.names [])) fp
  have pt := ht s3 H3 s3.heap.objs.size (cellsFrom (s3.heap.objs.size + 1) scope.names (cloFrom X.env.cells scope.names [])) fp
  have pe := he s3 H3 s3.heap.objs.size (cellsFrom (s3.heap.objs.size + 1) scope.names (cloFrom X.env.cells scope.names [])) fp
  show codeAny (model X.prog X.w) X.A (.compStart (.SetComp elt [⟨tg, iter, ifs, 0⟩] scope pos) 0 (.ref it) (.ref D) (compEnvC scope (cellsFrom (s3.heap.objs.size + 1) scope.names (cloFrom X.env.cells scope.names [])) s3.heap.objs.size X.env)) (compPost (model X.prog X.w) X.A X.xe none (EP X pins σ Q) (.ref D) s3.heap.objs.size) { s3 with heap := pushCells (s3.heap.push { cls := .type "dict", data := .dict #[] }) scope.names }
  have nofp : ∀ b ∈ fp, H3 b = none := fun b hb => (f3 b hb).1.1
  generalize hce : compEnvC scope (cellsFrom (s3.heap.objs.size + 1) scope.names (cloFrom X.env.cells scope.names [])) s3.heap.objs.size X.env = ce at I4 pg pt pe ⊢
  have cl : ce.locals = s3.heap.objs.size := by subst hce; rfl
  generalize hs4 : ({ s3 with heap := pushCells (s3.heap.push { cls := .type "dict", data := .dict #[] }) scope.names } : Shared) = s4 at I4 ⊢
  have st4 : tn 0 s4.heap := T.keep _ _ _ st3 fun b _ o e => by rw [← hs4]; exact pushCells_keeps _ _ _ _ (Heap.get?_push_of_some _ e)
  have okfp : ∀ {σ' : L2.St} {H' : Hp} {s' : Shared}, Inv (X.blk s3 H3 scope ce fp) [] σ' H' s' → (∀ b ∈ fp, H' b = none) → ∀ b ∈ fp, FpOk (X.blk s3 H3 scope ce fp) [] H' b := fun I' hn b hb =>
    ⟨hn b hb, (I'.ok.exf b hb).1, I'.ok.exfs b hb, .inl hb, fun x c e => (I'.ok.exf b hb).2 x c e, fun p hp => absurd (show p ∈ ([] : List (Addr × Obj)) ++ [] from hp) (by simp)⟩
  have loop : codeAny (model X.prog X.w) X.A (.compLoop (.SetComp elt [⟨tg, iter, ifs, 0⟩] scope pos) 0 (.ref it) (.ref D) ce) (compPost (model X.prog X.w) X.A X.xe none (EP X pins σ Q) (.ref D) s3.heap.objs.size) s4 := by
    refine compLoopS_any (fun n s' => ∃ i H', Inv (X.blk s3 H3 scope ce fp) [] (wipe σ (own.map (·.2))) H' s' ∧ tn i s'.heap ∧ (∀ b ∈ fp, H' b = none) ∧ W i n H') ?_ m0 ⟨0, H3, I4, st4, nofp, w0⟩
    rintro n s5 ⟨i, H5, I5, st5, n5, w5⟩
    rcases turn i n H5 w5 with ⟨stop, qq⟩ | ⟨go, Nx, hNx, step⟩
    · refine thnF (T.done (X.blk s3 H3 scope ce fp) rfl rfl rfl hc i [] s5 _ H5 (fun _ _ => False) I5 (okfp I5 n5) st5 stop) fun r s6 ⟨hr, I6⟩ => ?_
      subst hr
      have I7 : Inv X pins σ H5 s6 := I3.call' (ch := fp) I6.os I6.base I6.hok I6.bare fun b hb => ⟨(f3 b hb).1.2.2.2.1, (f3 b hb).1.2.1, (f3 b hb).1.2.2.2.2.1, (f3 b hb).1.2.2.2.2.2⟩
      have nC : H5 s3.heap.objs.size = none := by
        have z : H5 ce.locals = none := I6.free
        rwa [cl] at z
      obtain ⟨m, hn, _⟩ := I6.loc
      have hn : s6.heap.Ns ce.locals m := hn
      rw [cl] at hn
      refine ⟨m, hn, fun h6 sb => ?_⟩
      obtain ⟨f0, f1, f2, f3, f4, f5⟩ := I3.fpOk (Nat.le_refl _) nC
      exact ⟨.ref D, H5, I7.turned (t' := s6.toks) (fun b o hb e => (sb.2 b hb).trans e) f0 f1 f3 f4 f5, rfl, qq⟩
    · refine thnF (T.item (X.blk s3 H3 scope ce fp) rfl rfl rfl hc i [] s5 _ H5 (fun _ _ => False) I5 (okfp I5 n5) st5 go) fun r s6 ⟨u, hr, h6⟩ => ?_
      subst hr
      refine thnF h6 fun _ s7 ⟨x, H7, I7, r7, y7, st7, n7⟩ => ?_
      refine thnF (pg.run _ s7 _ H7 x u _ (I7.pinned (okfp I7 n7) (T.obj _ _ st7)) r7 (step x H7 y7)) fun _ s8 ⟨σ8, H8, I8, hw8, q8⟩ => ?_
      refine thnF (pt.run _ s8 σ8 H8 _ I8 q8) fun b s9 ⟨H9, I9, q9⟩ => ?_
      have fin : ∀ {s' : Shared} {H' : Hp}, Inv (X.blk s3 H3 scope ce fp) ([] ++ pinsAt fp s7.heap) σ8 H' s' → Nx H' → ∃ m, m < n ∧ ∃ i H', Inv (X.blk s3 H3 scope ce fp) [] (wipe σ (own.map (·.2))) H' s' ∧ tn i s'.heap ∧ (∀ b ∈ fp, H' b = none) ∧ W i m H' := fun {s' H'} I' nx => by
        obtain ⟨m', hm, w'⟩ := hNx H' nx
        have pin : ∀ b ∈ fp, ∀ o, s7.heap.get? b = some o → s'.heap.get? b = some o ∧ H' b = none := fun b hb o e =>
          let z := I'.pin (b, o) (List.mem_append_right _ (List.mem_append_right _ (mem_pinsAt hb e)))
          ⟨z.1, z.2.1⟩
        refine ⟨m', hm, i + 1, H', (I'.unpinned (pins := [])).weak (by rw [← hw8, wipe_length]) (fun j v e => ?_), T.keep _ _ _ st7 fun b hb o e => (pin b hb o e).1, fun b hb => ?_, w'⟩
        · rw [← hw8] at e
          exact (wipe_some e).1
        · obtain ⟨o, e, _⟩ := T.obj _ _ st7 b hb
          exact (pin b hb o e).2
      cases b with
      | false =>
        simp only [Bool.false_eq_true, if_false] at q9 ⊢
        exact fin I9 q9
      | true =>
        simp only [if_true] at q9 ⊢
        refine thnF (pe.run _ s9 σ8 H9 _ I9 q9) fun z s10 ⟨yv, H10, I10, r10, x0, M, ey, ks, dx, dd, few, nx⟩ => ?_
        subst ey
        cases r10
        exact addK_ok (X := X.blk s3 H3 scope ce fp) I10 ks dx dd hu few fun s11 N c1 c2 I11 => fin I11 (nx N c1 c2)
  exact codeAny_compStart_set loop (T.self X.A 0 _ _ _ st4 loop)
end
end WT

set_option Elab.async false
set_option linter.all false
set_option maxRecDepth 100000
set_option maxHeartbeats 4000000
/-! sorted of a set of nested tuples. -/
namespace WT
open PySem PySem.Spec PyProof.Rows L2 PySem.W
mutual
theorem dpt_le : ∀ k : NestedKey, k.data.depth ≤ k.depth
  | .none => by simp [NestedKey.data, PyData.depth]
  | .num i => by simp [NestedKey.data, PyData.depth]
  | .text x => by simp [NestedKey.data, PyData.depth]
  | .tup ks => by
    have := dpts_le ks
    simp only [NestedKey.data, PyData.depth, NestedKey.depth]
    omega
theorem dpts_le : ∀ ks : List NestedKey, PyData.depthAll (NestedKey.datas ks) ≤ NestedKey.depthAll ks
  | [] => by simp [NestedKey.datas, PyData.depthAll]
  | k :: ks => by
    have h1 := dpt_le k
    have h2 := dpts_le ks
    simp only [NestedKey.datas, PyData.depthAll, NestedKey.depthAll]
    omega
end
/-- the order of the items -/
abbrev leK : Rw → Rw → Bool := dataLe false fun q => q.2.data
theorem leK_sorted (l : List Rw) : (l.mergeSort leK).Pairwise fun a b => leK a b = true := by
  have T := sortLe_total (listOrd itemOrd) false fun b : Rw => keyToks b.2.data
  refine List.pairwise_mergeSort (fun a b c => T.trans a b c) (fun a b => ?_) l
  rcases T.total a b with h | h
  · show (leK a b || _) = true
    rw [show leK a b = true from h]
    rfl
  · show (_ || leK b a) = true
    rw [show leK b a = true from h, Bool.or_true]
section
variable {P : Program} {w : World} {A : Around} {E : Value → Shared → Prop} {s : Shared} {a : Addr} {M : List Rw}
theorem refs_each : ∀ M : List Rw, EachIs (fun v (q : Rw) => v = Value.ref q.1) (M.map fun q => Value.ref q.1) M
  | [] => .nil
  | q :: M => .cons rfl (refs_each M)
theorem each_refs : ∀ {vs : List Value} {M : List Rw}, EachIs (fun v (q : Rw) => v = Value.ref q.1) vs M → vs = M.map fun q => Value.ref q.1
  | _, _, .nil => rfl
  | _, _, .cons h t => by rw [List.map_cons, h, each_refs t]
theorem reads_each {h : Heap} {p : Addr} : ∀ {M : List Rw}, (∀ q ∈ M, Reads h (.ref q.1) q.2.data []) → EachIs (fun v (q : Rw) => ∃ as, Reads h v q.2.data as ∧ p ∉ as) (M.map fun q => Value.ref q.1) M
  | [], _ => .nil
  | q :: M, k => .cons ⟨[], k q List.mem_cons_self, by simp⟩ (reads_each fun r hr => k r (List.mem_cons_of_mem _ hr))
theorem sorted_ks {Q : Value → Shared → Prop} (R : KS w s.heap a M) (calm : A.handled = none) (hu : A.units + 64 < cLine) (hr : ∀ q ∈ M, Reads s.heap (.ref q.1) q.2.data []) (al : AllAlike (M.map fun q => q.2.data)) (so : Sortable (M.map fun q => q.2.data))
    (z : ∀ s2 p (out : Array Value) (c : Nat) (N : List Rw), (∀ b o, s.heap.get? b = some o → s2.heap.get? b = some o) → s2.gens = s.gens → s2.os = s.os → s.heap.objs.size ≤ p → s2.heap.get? p = some (seqObj "list" out c) → out.toList = N.map (fun q => Value.ref q.1) → N.Perm M → N.Pairwise (fun a b => leK a b = true) → Q (.ref p) s2) :
    wpAny (model P w) A (call (.builtin "sorted") [.ref a]) Q E s := by
  obtain ⟨ob, en, ec, tb, R⟩ := R
  have es := R.len
  have few := R.few
  refine Calls.call_function_entry kind_sorted plain_sorted entry_sorted (args_sorted1 _) ?_
  unfold Builtin.«sorted»
  refine wpAny_bind (m := checkCount "sorted" 1 1 _) (wpAny_pure (wpAny_bind (collect_set (A := A.in1) calm ⟨ob, R.at_, R.ex.1, R.da⟩ R.fit (by unfold scanBound; omega) R.tab.ris R.led fun s1 vs k1 hz g1 o1 pm => ?_)))
  rw [R.rows] at pm
  have e0 : (rws w M).map (·.2) = M.map fun q => Value.ref q.1 := by
    unfold rws
    rw [List.map_map]
    rfl
  rw [e0] at pm
  obtain ⟨M2, p2, rfl⟩ := perm_map_inv pm rfl
  have l2 := p2.length_eq
  refine wpAny_bind (wpAny_newList ?_ (by rw [List.length_map, sizeLine_eq]; omega))
  have hoL : (s1.heap.push (seqObj "list" (M2.map fun q => Value.ref q.1).toArray 0)).get? s1.heap.objs.size = some (seqObj "list" (M2.map fun q => Value.ref q.1).toArray 0) := Heap.get?_push_size _ rfl
  have al2 : AllAlike (M2.map fun q => q.2.data) := fun d hd d' hd' => al d ((p2.map _).mem_iff.mp hd) d' ((p2.map _).mem_iff.mp hd')
  have so2 : Sortable (M2.map fun q => q.2.data) := so.imp (fun k d hd => k d ((p2.map _).mem_iff.mp hd)) fun k d hd => k d ((p2.map _).mem_iff.mp hd)
  have kk : ∀ b o, s.heap.get? b = some o → (s1.heap.push (seqObj "list" (M2.map fun q => Value.ref q.1).toArray 0)).get? b = some o := fun b o e => Heap.get?_push_of_some _ (k1 b o e)
  refine wpAny_bind (wpAny_holding (list_sort_data (enc := fun q : Rw => q.2.data) (bs := M2) (s := { s1 with heap := s1.heap.push (seqObj "list" (M2.map fun q => Value.ref q.1).toArray 0) }) hoL (refs_each M2)
    (reads_each fun q hq => PyProof.Rows.Reads.keeps kk (hr q (p2.mem_iff.mp hq))) al2 so2 (by rw [sizeLine_eq]; omega) (fun q hq => ?_) fun out ho he => ?_))
  · have d1 := (R.all q (p2.mem_iff.mp hq)).2
    have d2 := dpt_le q.2
    simp only [Around.in1_units]
    omega
  have eo := each_refs he
  obtain ⟨c, hc⟩ := sortedHeap_at (vs := M2.map fun q => Value.ref q.1) (out := List.toArray out) hoL
  have pn := List.mergeSort_perm M2 leK
  refine wpAny_pure ⟨_, rfl, z _ s1.heap.objs.size (List.toArray out) c (M2.mergeSort leK) (fun b u e => ?_) g1 o1 hz hc (by rw [eo]) (pn.trans p2) (leK_sorted M2)⟩
  have e1 := k1 b u e
  have lt := Heap.lt_size e1
  show (sortedHeap (s1.heap.push (seqObj "list" (M2.map fun q => Value.ref q.1).toArray 0)) s1.heap.objs.size _ _).get? b = some u
  rw [sortedHeap_old (Nat.ne_of_lt lt) (by rw [size_push']; exact Nat.lt_succ_of_lt lt)]
  exact Heap.get?_push_of_some _ e1
end
section
variable {X : Cx}
theorem refs_vals : ∀ M : List Rw, Vals (M.map fun q => V.ref q.1) (M.map fun q => Value.ref q.1)
  | [] => .nil
  | q :: M => .cons rfl (refs_vals M)
/-- sorted(a set of nested tuples) -/
def rSortedK (K : PySem.W.Frag) (w : World) : List V → Hp → VK → Prop := fun vs H Q => ∃ (a : Addr) (M : List Rw), vs = [.ref a] ∧ KSet K w H a M ∧ AllAlike (M.map fun q => q.2.data) ∧ Sortable (M.map fun q => q.2.data) ∧
  ∀ (N : List Rw) (p : Addr), N.Perm M → N.Pairwise (fun a b => leK a b = true) → (N.map Prod.snd).Nodup → N.length < 64 → H p = none → Q (.ref p) (upd H p (.lst (N.map fun q => V.ref q.1)))
theorem cr_sortedK (calm : X.calm = true) (hu : X.A.units + 64 < cLine) : CallR X (.builtin "sorted") (rSortedK X.K X.w) := by
  intro pins s σ H vs us Q I r h
  obtain ⟨a, M, rfl, ks, al, so, q⟩ := h
  rw [Vals.ref1 r]
  have R := kset_get I ks
  have few : M.length < 64 ∧ (M.map Prod.snd).Nodup := by
    obtain ⟨_, _, _, _, R⟩ := R
    exact ⟨R.few, R.nd⟩
  refine sorted_ks R (I.ok.hd calm) hu (fun x hx => ?_) al so fun s2 p out c N k g o hp hg hout pm pw => ?_
  · obtain ⟨as, z⟩ := Dp.reads I _ _ (.ref x.1) (ks.2 x hx) rfl
    have := (nk_reads _ _ as z).2
    rw [this] at z
    exact z
  have ln := pm.length_eq
  have hlen : (N.map fun q => V.ref q.1).length ≤ sizeLine := by rw [List.length_map, sizeLine_eq]; omega
  have hn : H p = none := I.hok.fresh hp
  have J : Inv X pins σ (upd H p (.lst (N.map fun q => V.ref q.1))) { s with heap := s2.heap, gens := s2.gens, drawn := s2.drawn, toks := s2.toks } :=
    I.call (ch := []) (Un.laid k hp hn) (I.hok.laid k hp ⟨hlen, out.toList, c, by rw [hout]; exact refs_vals N, hg⟩) (by rw [g]; exact I.bare) (fun _ z => nomatch z)
  have e : s2 = { s with heap := s2.heap, gens := s2.gens, drawn := s2.drawn, toks := s2.toks } := by
    obtain ⟨x1, x2, x3, x4, x5⟩ := s2
    cases o
    rfl
  rw [e]
  exact ⟨.ref p, _, J, rfl, q N p pm pw ((pm.map Prod.snd).nodup_iff.mpr few.2) (by omega) hn⟩
end
/-- over a tuple that the turns leave as it is -/
theorem sc_tupK {K : PySem.W.Frag} {w : World} {a : Addr} {xs : List V} {g : TG} {tt : L2.TT} {te : TE} {vs : List Nat} {σ : L2.St} {H1 : Hp} {D : Addr} {Qd : Hp → Prop} (Pv : Nat → Hp → Prop) (h0 : Pv 0 (upd H1 D (KSO w D []))) (hl : ∀ i H, i ≤ xs.length → Pv i H → SqT K H a xs)
    (hs : ∀ i x H, xs[i]? = some x → Pv i H → g x (wipe σ vs) H fun σ2 H2 => wipe σ2 vs = wipe σ vs ∧ tt σ2 H2 fun b H3 => if b = true then te σ2 H3 fun y H4 => PutK K w D y H4 (Pv (i + 1)) else Pv (i + 1) H3) (hd : ∀ H, Pv xs.length H → Qd H) :
    ∃ W : Nat → Nat → Hp → Prop, (∃ m, W 0 m (upd H1 D (KSO w D []))) ∧ ∀ i m H, W i m H →
      ((Itt K a).stop i H ∧ Qd H) ∨ ((Itt K a).go i H ∧ ∃ Nx : Hp → Prop, (∀ H', Nx H' → ∃ m', m' < m ∧ W (i + 1) m' H') ∧ ∀ x H', (Itt K a).yld i H x H' → g x (wipe σ vs) H' fun σ2 H2 => wipe σ2 vs = wipe σ vs ∧ tt σ2 H2 fun b H3 =>
        if b = true then te σ2 H3 fun y H4 => PutK K w D y H4 Nx else Nx H3) := by
  refine ⟨fun i m H => m + i = xs.length ∧ Pv i H, ⟨xs.length, rfl, h0⟩, fun i m H ⟨e, p⟩ => ?_⟩
  have q := hl i H (by omega) p
  rcases Nat.lt_or_ge i xs.length with lt | ge
  · refine .inr ⟨⟨xs, xs[i], q, by simp [lt]⟩, Pv (i + 1), fun H2 p2 => ⟨m - 1, by omega, by omega, p2⟩, fun x H2 y => ?_⟩
    obtain ⟨e2, y⟩ := y
    subst e2
    exact hs i x _ (y xs q) p
  · obtain rfl : i = xs.length := by omega
    exact .inl ⟨⟨xs, q, Nat.le_refl _⟩, hd H p⟩
end WT

set_option Elab.async false
set_option linter.all false
set_option maxRecDepth 100000
set_option maxHeartbeats 1000000
/-! The zones of a world, as lists of regions. -/
namespace WT
open PySem PySem.Spec PyProof.Rows L2 PySem.W
instance (x y : Str) : Decidable (Bef x y) := inferInstanceAs (Decidable (x.cps.toList < y.cps.toList))
open Classical in
/-- connected, as a truth value -/
noncomputable def conB (gs : List Gt) (bar : List Str) (x y : Str) : Bool := decide (Conn gs bar x y)
theorem conB_iff {gs : List Gt} {bar : List Str} {x y : Str} : conB gs bar x y = true ↔ Conn gs bar x y := by
  unfold conB
  exact @decide_eq_true_iff _ (Classical.propDecidable _)
/-- an equivalence -/
structure EqvB (R : Str → Str → Bool) : Prop where
  refl : ∀ x, R x x = true
  symm : ∀ {x y}, R x y = true → R y x = true
  trans : ∀ {x y z}, R x y = true → R y z = true → R x z = true
theorem conB_eqv (gs : List Gt) (bar : List Str) : EqvB (conB gs bar) where
  refl := fun x => conB_iff.mpr .refl
  symm := fun h => conB_iff.mpr (conB_iff.mp h).symm
  trans := fun h k => conB_iff.mpr ((conB_iff.mp h).trans (conB_iff.mp k))
def zoneL (R : Str → Str → Bool) (rs : List Str) (x : Str) : List Str := rs.filter (R x)
/-- the first of its zone -/
def headB (R : Str → Str → Bool) (rs : List Str) (x : Str) : Bool := rs.all fun y => !R x y || !decide (Bef y x)
def headsL (R : Str → Str → Bool) (rs : List Str) : List Str := rs.filter (headB R rs)
def zonesL (R : Str → Str → Bool) (rs : List Str) : List (List Str) := (headsL R rs).map (zoneL R rs)
theorem headB_iff {R : Str → Str → Bool} {rs : List Str} {x : Str} : headB R rs x = true ↔ ∀ y ∈ rs, R x y = true → ¬ Bef y x := by
  unfold headB
  rw [List.all_eq_true]
  constructor
  · intro h y hy hr hb
    have := h y hy
    rw [hr, decide_eq_true hb] at this
    cases this
  · intro h y hy
    by_cases hr : R x y = true
    · rw [hr, decide_eq_false (h y hy hr)]
      rfl
    · rw [Bool.not_eq_true] at hr
      rw [hr]
      rfl
theorem mem_zone {R : Str → Str → Bool} {rs : List Str} {x y : Str} : y ∈ zoneL R rs x ↔ y ∈ rs ∧ R x y = true := List.mem_filter
theorem zone_eq {R : Str → Str → Bool} (E : EqvB R) {rs : List Str} {x y : Str} (h : R x y = true) : zoneL R rs x = zoneL R rs y := by
  unfold zoneL
  refine List.filter_congr fun z _ => ?_
  refine Bool.eq_iff_iff.mpr ⟨fun k => E.trans (E.symm h) k, fun k => E.trans h k⟩
theorem mem_heads {R : Str → Str → Bool} {rs : List Str} {x : Str} : x ∈ headsL R rs ↔ x ∈ rs ∧ headB R rs x = true := List.mem_filter
/-- a zone begins with its first region -/
theorem zone_head {R : Str → Str → Bool} (E : EqvB R) {rs : List Str} (A : AscS rs) {x : Str} (hx : x ∈ rs) : ∃ h t, zoneL R rs x = h :: t ∧ h ∈ headsL R rs ∧ R x h = true := by
  have A2 : AscS (zoneL R rs x) := List.Pairwise.filter _ A
  cases e : zoneL R rs x with
  | nil =>
    have : x ∈ zoneL R rs x := mem_zone.mpr ⟨hx, E.refl x⟩
    rw [e] at this
    cases this
  | cons h t =>
    have hm : h ∈ zoneL R rs x := by rw [e]; exact List.mem_cons_self
    obtain ⟨h1, h2⟩ := mem_zone.mp hm
    refine ⟨h, t, rfl, mem_heads.mpr ⟨h1, headB_iff.mpr fun y hy hr hb => ?_⟩, h2⟩
    have ym : y ∈ zoneL R rs x := mem_zone.mpr ⟨hy, E.trans h2 hr⟩
    rw [e] at ym A2
    rcases List.mem_cons.mp ym with z | z
    · rw [z] at hb
      exact hb.ne rfl
    · exact (hb.trans ((List.pairwise_cons.mp A2).1 y z)).ne rfl
theorem head_zone {R : Str → Str → Bool} (E : EqvB R) {rs : List Str} (A : AscS rs) {x : Str} (hx : x ∈ headsL R rs) : ∃ t, zoneL R rs x = x :: t := by
  obtain ⟨h1, h2⟩ := mem_heads.mp hx
  obtain ⟨h, t, e, hh, r⟩ := zone_head E A h1
  have k := mem_heads.mp hh
  have : h = x := by
    rcases str_tri h x with c | c | c
    · exact absurd c (headB_iff.mp h2 h k.1 r)
    · exact c
    · exact absurd c (headB_iff.mp k.2 x h1 (E.symm r))
  exact ⟨t, by rw [e, this]⟩
theorem heads_asc {R : Str → Str → Bool} {rs : List Str} (A : AscS rs) : AscS (headsL R rs) := List.Pairwise.filter _ A
/-- ascending lists of the same texts are the same -/
theorem ascs_ext : ∀ {xs ys : List Str}, AscS xs → AscS ys → (∀ z, z ∈ xs ↔ z ∈ ys) → xs = ys
  | [], [], _, _, _ => rfl
  | [], y :: ys, _, _, h => absurd ((h y).mpr List.mem_cons_self) List.not_mem_nil
  | x :: xs, [], _, _, h => absurd ((h x).mp List.mem_cons_self) List.not_mem_nil
  | x :: xs, y :: ys, a, b, h => by
    obtain ⟨a1, a2⟩ := List.pairwise_cons.mp a
    obtain ⟨b1, b2⟩ := List.pairwise_cons.mp b
    have e : x = y := by
      rcases List.mem_cons.mp ((h x).mp List.mem_cons_self) with c | c
      · exact c
      · rcases List.mem_cons.mp ((h y).mpr List.mem_cons_self) with d | d
        · exact d.symm
        · exact absurd rfl ((b1 x c).trans (a1 y d)).ne
    subst e
    refine congrArg _ (ascs_ext a2 b2 fun z => ⟨fun m => ?_, fun m => ?_⟩)
    · rcases List.mem_cons.mp ((h z).mp (List.mem_cons_of_mem _ m)) with c | c
      · rw [c] at m
        exact absurd rfl (a1 x m).ne
      · exact c
    · rcases List.mem_cons.mp ((h z).mpr (List.mem_cons_of_mem _ m)) with c | c
      · rw [c] at m
        exact absurd rfl (b1 x m).ne
      · exact c
/-- a tuple of texts as data -/
abbrev tupD (l : List Str) : PyData := .tuple (l.map PyData.str)
theorem tup_lt {x y : Str} {xs ys : List Str} (ne : x ≠ y) (h : dataLt (tupD (y :: ys)) (tupD (x :: xs)) = false) : Bef x y := by
  rw [dataLt_tuple, List.map_cons, List.map_cons, dataLt_cons (by simp [alike])] at h
  have ee : PyData.eqv (.str y) (.str x) = false := by
    rw [PyData.eqv]
    exact beq_eq_false_iff_ne.mpr fun z => ne z.symm
  rw [ee, if_neg Bool.false_ne_true, dataLt_str] at h
  exact bef_of (of_decide_eq_false h) ne
theorem tup_le {x y : Str} {xs ys : List Str} (b : Bef x y) : dataLt (tupD (y :: ys)) (tupD (x :: xs)) = false := by
  rw [dataLt_tuple, List.map_cons, List.map_cons, dataLt_cons (by simp [alike])]
  have ee : PyData.eqv (.str y) (.str x) = false := by
    rw [PyData.eqv]
    exact beq_eq_false_iff_ne.mpr fun z => b.ne z.symm
  rw [ee, if_neg Bool.false_ne_true, dataLt_str]
  exact decide_eq_false fun z => absurd rfl (Bef.trans b z).ne
/-- the zones are the only such list -/
theorem zones_only {R : Str → Str → Bool} (E : EqvB R) {rs : List Str} (A : AscS rs) {Z : List (List Str)} (mem : ∀ l, l ∈ Z ↔ ∃ x ∈ rs, l = zoneL R rs x) (nd : Z.Nodup) (srt : Z.Pairwise fun l m => dataLt (tupD m) (tupD l) = false) : Z = zonesL R rs := by
  have hd : ∀ l ∈ Z, ∃ h t, l = h :: t ∧ h ∈ headsL R rs ∧ l = zoneL R rs h := fun l hl => by
    obtain ⟨x, hx, e⟩ := (mem l).mp hl
    obtain ⟨h, t, e2, hh, r⟩ := zone_head E A hx
    exact ⟨h, t, by rw [e, e2], hh, by rw [e, zone_eq E r]⟩
  have eZ : Z = (Z.map fun l => l.headD "").map (zoneL R rs) := by
    rw [List.map_map]
    conv => lhs; rw [← List.map_id Z]
    refine List.map_congr_left fun l hl => ?_
    obtain ⟨h, t, e, _, e2⟩ := hd l hl
    show l = zoneL R rs (l.headD "")
    rw [e] at e2 ⊢
    exact e2
  have asc : AscS (Z.map fun l => l.headD "") := by
    unfold AscS
    rw [List.pairwise_map]
    refine List.Pairwise.imp_of_mem (fun {l m} hl hm ⟨k, ne⟩ => ?_) (srt.and nd)
    obtain ⟨h, t, e, _, e2⟩ := hd l hl
    obtain ⟨h', t', e', _, e2'⟩ := hd m hm
    rw [e, e'] at k ⊢
    refine tup_lt (fun z => ne ?_) k
    have z : h = h' := z
    rw [e2, e2', z]
  have hm : ∀ z, z ∈ (Z.map fun l => l.headD "") ↔ z ∈ headsL R rs := fun z => by
    rw [List.mem_map]
    constructor
    · rintro ⟨l, hl, rfl⟩
      obtain ⟨h, t, e, hh, _⟩ := hd l hl
      rw [e]
      exact hh
    · intro hz
      obtain ⟨t, e⟩ := head_zone E A hz
      exact ⟨zoneL R rs z, (mem _).mpr ⟨z, (mem_heads.mp hz).1, rfl⟩, by rw [e]; rfl⟩
  rw [eZ, ascs_ext asc (heads_asc A) hm]
  rfl
/-- the zones stand in order -/
theorem zones_sorted {R : Str → Str → Bool} (E : EqvB R) {rs : List Str} (A : AscS rs) : (zonesL R rs).Pairwise fun l m => dataLt (tupD m) (tupD l) = false := by
  unfold zonesL
  rw [List.pairwise_map]
  refine List.Pairwise.imp_of_mem (fun {x y} hx hy b => ?_) (heads_asc (R := R) A)
  obtain ⟨t, e⟩ := head_zone E A hx
  obtain ⟨t', e'⟩ := head_zone E A hy
  rw [e, e']
  exact tup_le b
theorem zones_congr {R R' : Str → Str → Bool} {rs : List Str} (h : ∀ x ∈ rs, ∀ y ∈ rs, R x y = R' x y) : zonesL R rs = zonesL R' rs := by
  have h1 : headsL R rs = headsL R' rs := List.filter_congr fun x hx => by
    unfold headB
    refine Bool.eq_iff_iff.mpr ?_
    rw [List.all_eq_true, List.all_eq_true]
    exact ⟨fun k y hy => by rw [← h x hx y hy]; exact k y hy, fun k y hy => by rw [h x hx y hy]; exact k y hy⟩
  unfold zonesL
  rw [h1]
  refine List.map_congr_left fun x hx => ?_
  exact List.filter_congr fun y hy => h x (mem_heads.mp hx).1 y hy
/-- such a tuple as a key -/
abbrev keyT (l : List Str) : NestedKey := .tup (l.map NestedKey.text)
theorem datas_texts : ∀ l : List Str, NestedKey.datas (l.map NestedKey.text) = l.map PyData.str
  | [] => by rw [List.map_nil, NestedKey.datas, List.map_nil]
  | x :: l => by rw [List.map_cons, NestedKey.datas, datas_texts l, NestedKey.data, List.map_cons]
theorem keyT_data (l : List Str) : (keyT l).data = tupD l := by
  rw [NestedKey.data, datas_texts]
theorem depths_texts : ∀ l : List Str, NestedKey.depthAll (l.map NestedKey.text) = 0
  | [] => by rw [List.map_nil, NestedKey.depthAll]
  | x :: l => by rw [List.map_cons, NestedKey.depthAll, depths_texts l, NestedKey.depth]; rfl
theorem keyT_depth (l : List Str) : (keyT l).depth ≤ 8 := by
  rw [NestedKey.depth, depths_texts]
  decide
theorem texts_inj : ∀ {l m : List Str}, l.map NestedKey.text = m.map NestedKey.text → l = m
  | [], [], _ => rfl
  | [], _ :: _, h => nomatch h
  | _ :: _, [], h => nomatch h
  | x :: l, y :: m, h => by
    rw [List.map_cons, List.map_cons] at h
    injection h with h1 h2
    injection h1 with h1
    rw [h1, texts_inj h2]
theorem keyT_inj {l m : List Str} (h : keyT l = keyT m) : l = m := by
  injection h with h
  exact texts_inj h
/-- tuples of texts in memory -/
abbrev TupsAt (H : Hp) : List Addr → List (List Str) → Prop := Paired fun t (l : List Str) => H t = some (.tup (l.map V.str))
theorem tups_at_same {H H' : Hp} {ts : List Addr} {ls : List (List Str)} (h : TupsAt H ts ls) (s : ∀ t xs, H t = some (.tup xs) → H' t = some (.tup xs)) : TupsAt H' ts ls := Paired.mapP h fun _ _ z => s _ _ z
theorem dpT_strs {K : PySem.W.Frag} {H : Hp} {t : Addr} {l : List Str} (h : H t = some (.tup (l.map V.str))) : Dp K H (.ref t) (keyT l).data := by
  rw [keyT_data]
  exact .tup (SqT.of h) (dp_strs l)
/-- the rows that a set of zones has -/
theorem rows_out {R : Str → Str → Bool} (E : EqvB R) {rs : List Str} (A : AscS rs) {N : List Rw} {H : Hp} (hn : ∀ q ∈ N, ∃ l, q.2 = keyT l ∧ H q.1 = some (.tup (l.map V.str)) ∧ ∃ x ∈ rs, l = zoneL R rs x) (all : ∀ x ∈ rs, keyT (zoneL R rs x) ∈ N.map Prod.snd) (nd : (N.map Prod.snd).Nodup)
    (srt : N.Pairwise fun a b => leK a b = true) : TupsAt H (N.map Prod.fst) (zonesL R rs) := by
  obtain ⟨Z, eZ, pZ⟩ : ∃ Z : List (List Str), N.map Prod.snd = Z.map keyT ∧ TupsAt H (N.map Prod.fst) Z ∧ ∀ l ∈ Z, ∃ x ∈ rs, l = zoneL R rs x := by
    clear all nd srt
    induction N with
    | nil => exact ⟨[], rfl, .nil, fun l hl => absurd hl List.not_mem_nil⟩
    | cons q N ih =>
      obtain ⟨Z, e, p, m⟩ := ih fun r hr => hn r (List.mem_cons_of_mem _ hr)
      obtain ⟨l, e1, e2, e3⟩ := hn q List.mem_cons_self
      refine ⟨l :: Z, by rw [List.map_cons, List.map_cons, e, e1], .cons e2 p, fun l' hl => ?_⟩
      rcases List.mem_cons.mp hl with z | z
      · rw [z]; exact e3
      · exact m l' z
  have e : Z = zonesL R rs := by
    refine zones_only E A (fun l => ⟨pZ.2 l, fun ⟨x, hx, e⟩ => ?_⟩) ?_ ?_
    · have := all x hx
      rw [eZ] at this
      obtain ⟨l', h1, h2⟩ := List.mem_map.mp this
      rw [e, ← keyT_inj h2]
      exact h1
    · rw [eZ] at nd
      exact List.Pairwise.of_map keyT (fun _ _ ne z => ne (congrArg keyT z)) nd
    · have s2 : (N.map Prod.snd).Pairwise fun a b => dataLt b.data a.data = false := by
        rw [List.pairwise_map]
        refine srt.imp fun {a b} k => ?_
        have k : (!dataLt b.2.data a.2.data) = true := k
        rwa [Bool.not_eq_true'] at k
      rw [eZ, List.pairwise_map] at s2
      refine s2.imp fun {a b} k => ?_
      rw [keyT_data, keyT_data] at k
      exact k
  rw [← e]
  exact pZ.1
theorem alike_tups : ∀ l m : List Str, alike (tupD l) (tupD m) = true := fun l m => by
  show alike (.tuple _) (.tuple _) = true
  rw [alike, alikeAll_strs]
theorem mem_zones {R : Str → Str → Bool} {rs : List Str} {l : List Str} (h : l ∈ zonesL R rs) : ∃ x ∈ headsL R rs, l = zoneL R rs x := by
  obtain ⟨x, hx, e⟩ := List.mem_map.mp h
  exact ⟨x, hx, e.symm⟩
theorem zone_sub {R : Str → Str → Bool} {rs : List Str} {l : List Str} (h : l ∈ zonesL R rs) : (∀ y ∈ l, y ∈ rs) ∧ l.length ≤ rs.length := by
  obtain ⟨x, _, rfl⟩ := mem_zones h
  exact ⟨fun y hy => (mem_zone.mp hy).1, List.length_filter_le _ _⟩
theorem zones_len {R : Str → Str → Bool} {rs : List Str} : (zonesL R rs).length ≤ rs.length := by
  unfold zonesL
  rw [List.length_map]
  exact List.length_filter_le _ _
theorem zones_flat {R : Str → Str → Bool} (E : EqvB R) {rs : List Str} (A : AscS rs) : (zonesL R rs).flatten.Nodup ∧ ∀ z, z ∈ (zonesL R rs).flatten ↔ z ∈ rs := by
  refine ⟨?_, fun z => ?_⟩
  · unfold List.Nodup
    rw [List.pairwise_flatten]
    refine ⟨fun l hl => ?_, ?_⟩
    · obtain ⟨x, _, rfl⟩ := mem_zones hl
      exact (List.Pairwise.filter _ A).imp fun {a b} h => Bef.ne h
    · unfold zonesL
      rw [List.pairwise_map]
      refine List.Pairwise.imp_of_mem (fun {x y} hx hy b u hu v hv e => ?_) (heads_asc (R := R) A)
      subst e
      have r1 := (mem_zone.mp hu).2
      have r2 := (mem_zone.mp hv).2
      obtain ⟨k1, k2⟩ := mem_heads.mp hx
      obtain ⟨k3, k4⟩ := mem_heads.mp hy
      exact headB_iff.mp k4 x k1 (E.trans r2 (E.symm r1)) b
  · rw [List.mem_flatten]
    constructor
    · rintro ⟨l, hl, hz⟩
      exact (zone_sub hl).1 z hz
    · intro hz
      obtain ⟨h, t, e, hh, r⟩ := zone_head E A hz
      exact ⟨zoneL R rs h, List.mem_map.mpr ⟨h, hh, rfl⟩, mem_zone.mpr ⟨hz, E.symm r⟩⟩
end WT

set_option Elab.async false
set_option linter.all false
set_option maxRecDepth 100000
set_option maxHeartbeats 1000000
namespace K13
open PySem PySem.Spec PyProof.Rows L2 WT
abbrev st_wrapping_names : Stmt := top 5
theorem sc_wrapping_names : FnScope ["world", "name", "those", "kind"] ["world"] (defScope st_wrapping_names) := ⟨rfl, rfl, rfl, by decide +kernel, rfl, by decide +kernel, by decide +kernel⟩
section
variable {P : Program} {w : World} {K : PySem.W.Frag} {mg : Str → Option Value} {base : Heap} {f fW fC fZ : Addr} {fd fdW fdC fdZ : FuncData} {dT : Addr}
def spWnames : Sp := fun vs H Q _ => ∃ (wa r g : Addr) (as : List Addr) (rs : List Str) (gs : List Gt), vs = [.ref wa] ∧ WorldAt H wa r g as rs gs ∧ gs.length ≤ 100 ∧
  ∀ (H' : Hp) (p : Addr), Same H H' → H' p = some (.tup ((wrapsW gs).map V.str)) → Q (.ref p) H'
theorem ok_wrapping_names (F : Fun K "wrapping_names" "wrapping_names" st_wrapping_names f fd) (B : Blt mg) : FnOk P w K mg base CX0 1 f fd ["world"] spWnames := by
  refine F.ok sc_wrapping_names (fun vs H Q E h => ?_) (fun cdv A outer s H vs Q E hr h => ?_)
  · obtain ⟨_, _, _, _, _, _, rfl, _⟩ := h
    rfl
  · obtain ⟨wa, r, g, as, rs, gs, rfl, hw, hgl, q⟩ := h
    refine ⟨_, (pss_one (ps_ret (pe_callTy call_tuple_of (by rfl) B.tuple (by decide +kernel) (pa_cons (pe_lc (own := [("name", 1), ("those", 2), ("kind", 3)]) (by rfl) sc_wrapping_names.nd (pi_tup (pe_ix ix_tup (pv 0) pe_int (fun _ _ => rfl))) (blkOk_by (own := [("name", 1), ("those", 2), ("kind", 3)]) (N := ["world", "name", "those", "kind"]) (sc := defScope st_wrapping_names) (by decide +kernel)) (fun _ _ _ _ _ => (pg_tupK (K := K) (n := 3) rfl (pgs_cons (pg_name (i := 1) sc_wrapping_names.nd rfl (.inl rfl)) (pgs_cons (pg_name (i := 2) sc_wrapping_names.nd rfl (.inl rfl)) (pgs_cons (pg_name (i := 3) sc_wrapping_names.nd rfl (.inl rfl)) pgs_nil))))) (fun _ _ _ _ _ => (pts_one (pt_cmpR op_eq (pv 3) pe_str (nomark _)))) (fun _ _ _ _ _ => (pv 1))) pa_nil)))), ?_⟩
    have hlen := Paired.length hw.each
    refine ⟨_, rfl, wa, _, 1, .ref g, rfl, rfl, SqT.of hw.top, atI_nat (j := 1) rfl, g, rfl, ⟨_, SqT.of hw.gat⟩, fun N nN => lc_tup (K := K) (a := g) (xs := as.map V.ref) (fun m H' => Same H H' ∧ H' N = some (.lst ((wrapsW (gs.take m)).map V.str)))
      ⟨same_new nN, by rw [upd_same]; rfl⟩ (fun m H' _ ⟨s', _⟩ => SqT.of (s' _ _ hw.gat)) (fun m v H2 hm hP => ?_) fun H2 hP => ?_⟩
    · obtain ⟨s2, hN⟩ := hP
      rw [List.getElem?_map] at hm
      obtain ⟨t, ht, rfl⟩ := Option.map_eq_some_iff.mp hm
      obtain ⟨gg, hgg, ia, e1, e2⟩ := pair_at (hw.same s2).each ht
      have stp : wrapsW (gs.take (m + 1)) = wrapsW (gs.take m) ++ (if gg.2.2 = ("wrap" : Str) then [gg.1] else []) := by
        unfold wrapsW
        rw [List.take_add_one, hgg, List.filter_append, List.map_append]
        by_cases c : gg.2.2 = ("wrap" : Str)
        · rw [if_pos c]
          simp [c]
        · rw [if_neg c]
          simp [c]
      refine ⟨t, [.str gg.1, .ref ia, .str gg.2.2], rfl, SqT.of e1, rfl, .str gg.1, _, rfl, .ref ia, _, rfl, .str gg.2.2, [], rfl, rfl, rfl, _, rfl, rfl, _, rfl, ?_⟩
      by_cases c : gg.2.2 = ("wrap" : Str)
      · refine ifT (by simp [c]) ⟨_, rfl, _, hN, ?_, ?_, ?_⟩
        · have l1 : (wrapsW (gs.take m)).length ≤ gs.length := by
            unfold wrapsW
            rw [List.length_map]
            refine Nat.le_trans (List.length_filter_le _ _) ?_
            rw [List.length_take]
            exact Nat.min_le_right _ _
          rw [List.length_map]
          exact Nat.lt_of_le_of_lt (show (wrapsW (gs.take m)).length ≤ 100 by omega) (by decide)
        · intro c o ec
          rw [upd_ne (ne_of_none ec nN)]
          exact s2 _ _ ec
        · rw [upd_same, stp, if_pos c, List.map_append]
          rfl
      · refine ifF (by simp [c]) ⟨s2, ?_⟩
        rw [stp, if_neg c, List.append_nil]
        exact hN
    · obtain ⟨s2, hN⟩ := hP
      rw [List.length_map, hlen, List.take_length] at hN
      exact ⟨N, _, rfl, .inl ⟨SqL.of hN, fun t nt => q _ t (s2.trans (same_new nt)) upd_same⟩⟩
end
end K13

set_option Elab.async false
set_option linter.all false
set_option maxRecDepth 100000
set_option maxHeartbeats 4000000
namespace K13
open PySem PySem.Spec PyProof.Rows L2 WT
abbrev st_gateway_names : Stmt := top 4
theorem sc_gateway_names : FnScope ["world", "gateway"] ["world"] (defScope st_gateway_names) := ⟨rfl, rfl, rfl, by decide +kernel, rfl, by decide +kernel, by decide +kernel⟩
abbrev st_members : Stmt := top 6
theorem sc_members : FnScope ["world", "name", "gateway"] ["world", "name"] (defScope st_members) := ⟨rfl, rfl, rfl, by decide +kernel, rfl, by decide +kernel, by decide +kernel⟩
theorem ix_tupK {X : Cx} {K : PySem.W.Frag} (hK : X.K = K := by rfl) : IxR X (rIxT K) := by
  subst hK
  exact ix_tup
section
variable {P : Program} {w : World} {K : PySem.W.Frag} {mg : Str → Option Value} {base : Heap} {f : Addr} {fd : FuncData}
/-- gateway_names(world) -/
def spGnames : Sp := fun vs H Q _ => ∃ (wa r g : Addr) (as : List Addr) (rs : List Str) (gs : List Gt), vs = [.ref wa] ∧ WorldAt H wa r g as rs gs ∧ gs.length ≤ 100 ∧
  ∀ (H' : Hp) (p : Addr), Same H H' → H' p = some (.tup ((gs.map (·.1)).map V.str)) → Q (.ref p) H'
theorem ok_gateway_names (F : Fun K "gateway_names" "gateway_names" st_gateway_names f fd) (B : Blt mg) : FnOk P w K mg base CX0 1 f fd ["world"] spGnames := by
  refine F.ok sc_gateway_names (fun vs H Q E h => ?_) (fun cdv A outer s H vs Q E hr h => ?_)
  · obtain ⟨_, _, _, _, _, _, rfl, _⟩ := h
    rfl
  · obtain ⟨wa, r, g, as, rs, gs, rfl, hw, hgl, q⟩ := h
    refine ⟨_, (pss_one (ps_ret (pe_callTy call_tuple_of (by rfl) B.tuple (by decide +kernel) (pa_cons (pe_lc (own := [("gateway", 1)]) (by rfl) sc_gateway_names.nd (pi_tup (pe_ix ix_tup (pv 0) pe_int (fun _ _ => rfl))) (blkOk_by (own := [("gateway", 1)]) (N := ["world", "gateway"]) (sc := defScope st_gateway_names) (by decide +kernel)) (fun _ _ _ _ _ => (pg_name (i := 1) sc_gateway_names.nd rfl (.inl rfl))) (fun _ _ _ _ _ => pts_nil) (fun _ _ _ _ _ => (pe_ix (ix_tupK (K := K)) (pv 1) pe_int (fun _ _ => rfl)))) pa_nil)))), ?_⟩
    have hlen := Paired.length hw.each
    refine ⟨_, rfl, wa, _, 1, .ref g, rfl, rfl, SqT.of hw.top, atI_nat (j := 1) rfl, g, rfl, ⟨_, SqT.of hw.gat⟩, fun N nN => lc_tup (K := K) (a := g) (xs := as.map V.ref) (fun m H' => Same H H' ∧ H' N = some (.lst (((gs.map (·.1)).take m).map V.str)))
      ⟨same_new nN, upd_same⟩ (fun m H' _ ⟨s', _⟩ => SqT.of (s' _ _ hw.gat)) (fun m v H2 hm hP => ?_) fun H2 hP => ?_⟩
    · obtain ⟨s2, hN⟩ := hP
      rw [List.getElem?_map] at hm
      obtain ⟨t, ht, rfl⟩ := Option.map_eq_some_iff.mp hm
      obtain ⟨gg, hgg, ia, e1, e2⟩ := pair_at (hw.same s2).each ht
      refine ⟨rfl, _, rfl, t, _, 0, .str gg.1, rfl, rfl, SqT.of e1, atI_nat (j := 0) rfl, _, hN, ?_, ?_, ?_⟩
      · rw [List.length_map, List.length_take, List.length_map]
        exact Nat.lt_of_le_of_lt (show min m gs.length ≤ 100 by omega) (by decide)
      · intro c o ec
        rw [upd_ne (ne_of_none ec nN)]
        exact s2 _ _ ec
      · have e : (gs.map (·.1))[m]? = some gg.1 := by
          rw [List.getElem?_map, hgg]
          rfl
        rw [upd_same, List.take_add_one, e, List.map_append]
        rfl
    · obtain ⟨s2, hN⟩ := hP
      rw [List.length_map, List.take_of_length_le (by rw [List.length_map]; omega)] at hN
      exact ⟨N, _, rfl, .inl ⟨SqL.of hN, fun t nt => q _ t (s2.trans (same_new nt)) upd_same⟩⟩
/-- members(world, name), name a gateway -/
def spMembers : Sp := fun vs H Q _ => ∃ (wa r g : Addr) (as : List Addr) (rs : List Str) (gs : List Gt) (x : Str), vs = [.ref wa, .str x] ∧ WorldAt H wa r g as rs gs ∧ (∃ g ∈ gs, g.1 = x) ∧
  ∀ (i : Addr) (g : Gt), g ∈ gs → g.1 = x → H i = some (.tup (g.2.1.map V.str)) → Q (.ref i) H
theorem ok_members (F : Fun K "members" "members" st_members f fd) : FnOk P w K mg base CX0 1 f fd ["world", "name"] spMembers := by
  refine F.ok sc_members (fun vs H Q E h => ?_) (fun cdv A outer s H vs Q E hr h => ?_)
  · obtain ⟨_, _, _, _, _, _, _, rfl, _⟩ := h
    rfl
  · obtain ⟨wa, r, g, as, rs, gs, x, rfl, hw, hx, q⟩ := h
    refine ⟨_, (pss_cons (ps_for PassesOwn.never rfl (pi_tup (pe_ix ix_tup (pv 0) pe_int (fun _ _ => rfl))) (pg_name (i := 2) sc_members.nd rfl (.inl rfl))
       (pss_one (ps_if (pt_cmpR op_eq (pe_ix ix_tup (pv 2) pe_int (fun _ _ => rfl)) (pv 1) (nomark _))
        (pss_one (ps_ret (pe_ix ix_tup (pv 2) pe_int (fun _ _ => rfl))))
        pss_nil)))
      (pss_one ps_never)), ?_⟩
    have hlen := Paired.length hw.each
    refine ⟨_, rfl, wa, _, 1, .ref g, rfl, rfl, SqT.of hw.top, atI_nat (j := 1) rfl, g, rfl, ⟨_, SqT.of hw.gat⟩, for_it (walk_tup (xs := as.map V.ref)) (fun j σ H' => ∃ v2 : Option V, σ = [some (.ref wa), some (.str x), v2] ∧ H' = H ∧ ∀ g ∈ gs.take j, g.1 ≠ x)
      ⟨none, rfl, rfl, fun g hg => nomatch hg⟩ (fun j σ H' _ ⟨_, _, e, _⟩ => by rw [e]; exact SqT.of hw.gat) (fun j v σ H2 H3 hj hP hY => ?_) (fun σ H2 hP => ?_)⟩
    · obtain ⟨v2, rfl, rfl, hno⟩ := hP
      obtain ⟨rfl, hv⟩ := hY
      rw [List.getElem?_map] at hv
      obtain ⟨t, ht, rfl⟩ := Option.map_eq_some_iff.mp hv
      obtain ⟨gg, hgg, ia, e1, e2⟩ := pair_at hw.each ht
      refine ⟨_, rfl, t, _, 0, .str gg.1, rfl, rfl, SqT.of e1, atI_nat (j := 0) rfl, _, rfl, rfl, _, rfl, ?_⟩
      by_cases c : gg.1 = x
      · exact ifT (by simp [c]) ⟨_, rfl, t, _, 1, .ref ia, rfl, rfl, SqT.of e1, atI_nat (j := 1) rfl, q ia gg (List.mem_of_getElem? hgg) c e2⟩
      · refine ifF (by simp [c]) ⟨_, rfl, rfl, fun g hg => ?_⟩
        rw [List.take_add_one, hgg] at hg
        rcases List.mem_append.mp hg with hg | hg
        · exact hno g hg
        · have : g = gg := by simpa using hg
          rw [this]
          exact c
    · obtain ⟨v2, rfl, rfl, hno⟩ := hP
      rw [List.length_map, hlen, List.take_length] at hno
      obtain ⟨g, hg, e⟩ := hx
      exact absurd e (hno g hg)
end
end K13

set_option Elab.async false
set_option linter.all false
set_option maxRecDepth 100000
set_option maxHeartbeats 4000000
/-! zip over two tuples while the tuple that it gave out is still held. -/
namespace PySem
open Sem (wp)
section
variable {prog : Program} {w : World} {A : Around} {E : Value → Shared → Prop} {s : Shared} {z TI TO T i1 i2 a b : Addr} {f : Bool} {oT : Obj} {k1 k2 : Nat} {xs ys : Array Value}
theorem zipHeldT_item {x y : Value} {Q : Value → Shared → Prop} (D : ZipApart z TI TO i1 i2 a b) (hz : IsZipHeld s.heap z TI TO T f) (hT : s.heap.get? T = some oT) (hTI : IsPair s.heap TI (.ref i1) (.ref i2))
    (h1 : s.heap.IsTupleIter i1 a k1) (h2 : s.heap.IsTupleIter i2 b k2) (ha : s.heap.IsTuple a xs) (hb : s.heap.IsTuple b ys) (hx : xs[k1]? = some x) (hy : ys[k2]? = some y)
    (q : ∀ h', IsZipHeld h' z TI TO T true → h'.IsTupleIter i1 a (k1 + 1) → h'.IsTupleIter i2 b (k2 + 1) → IsPair h' s.heap.objs.size x y →
      (∀ c o, c ≠ z → c ≠ i1 → c ≠ i2 → s.heap.get? c = some o → h'.get? c = some o) → Q (.ref s.heap.objs.size) { s with heap := h' }) :
    wpAny (model prog w) A (Builtin.«zip.__next__» ⟨[.ref z], []⟩) (fun fin s' => ∃ v, fin = .done (.ret v) ∧ Q v s') E s := by
  show wpAny _ _ (field (.ref z) 2 >>= _) _ _ _
  refine wpAny_bind (wpAny_field hz rfl (x := .bool false) rfl ?_)
  show wpAny _ _ (field (.ref z) 3 >>= _) _ _ _
  refine wpAny_bind (wpAny_field hz rfl (x := .ref TI) rfl (wpAny_bind (wpAny_seqItems hTI rfl ?_)))
  show wpAny _ _ (Builtin.SmallTypes.ownedTupleIsFree (.ref z) >>= _) _ _ _
  refine wpAny_bind (wpAny_tupleHeld_zip hz hT fun ha1 hz1 sb1 => ?_)
  simp only [Bool.false_eq_true, if_false]
  refine wpAny_bind ?_
  rw [← Array.forIn_toList]
  simp only [List.forIn_cons, List.forIn_nil]
  refine wpAny_bind (wpAny_bind (wpAny_holding ?_))
  show wpAny _ _ (Builtin.SmallTypes.nextOf (.ref i1) >>= _) _ _ _
  refine wpAny_bind (wpAny_nextOf_tuple_item (s := { s with heap := ha1 }) (h1.at fun o e => sb1.extBut _ _ D.i1z e) (ha.extBut sb1.extBut D.l1z) hx fun ha2 it1 sb2 => wpAny_pure (wpAny_pure ?_))
  refine wpAny_bind (wpAny_bind (wpAny_holding ?_))
  show wpAny _ _ (Builtin.SmallTypes.nextOf (.ref i2) >>= _) _ _ _
  refine wpAny_bind (wpAny_nextOf_tuple_item (s := { s with heap := ha2 }) (h2.at fun o e => sb2.extBut _ _ D.i12.symm (sb1.extBut _ _ D.i2z e)) ((hb.extBut sb1.extBut D.l2z).extBut sb2.extBut D.l2i1) hy fun ha3 it2 sb3 => wpAny_pure (wpAny_pure (wpAny_pure ?_)))
  show wpAny _ _ (newTuple [x, y] >>= _) _ _ _
  refine wpAny_bind (wpAny_newTuple (wpAny_pure ⟨_, rfl, ?_⟩))
  have size3 : ha3.objs.size = s.heap.objs.size := by rw [sb3.1, sb2.1, sb1.1]
  have pair : IsPair (ha3.push { cls := .type "tuple", data := .seq #[x, y] }) ha3.objs.size x y := Heap.get?_push_size _ rfl
  show Q (.ref ha3.objs.size) _
  rw [size3] at pair ⊢
  exact q _ (Heap.get?_push_of_some _ (sb3.extBut _ _ D.i2z.symm (sb2.extBut _ _ D.i1z.symm hz1))) (it1.at fun o e => Heap.get?_push_of_some _ (sb3.extBut _ _ D.i12 e)) (it2.at fun o e => Heap.get?_push_of_some _ e) pair
    fun c o c1 c2 c3 e => Heap.get?_push_of_some _ (sb3.extBut _ _ c3 (sb2.extBut _ _ c2 (sb1.extBut _ _ c1 e)))
theorem zipHeldT_end {Q : Fin → Shared → Prop} (hh : A.handled = none) (D : ZipApart z TI TO i1 i2 a b) (hz : IsZipHeld s.heap z TI TO T f) (hT : s.heap.get? T = some oT) (hTI : IsPair s.heap TI (.ref i1) (.ref i2))
    (h1 : s.heap.IsTupleIter i1 a k1) (h2 : s.heap.IsTupleIter i2 b k2) (ha : s.heap.IsTuple a xs) (hb : s.heap.IsTuple b ys) (hend : xs[k1]? = none ∨ ys[k2]? = none)
    (q : ∀ h' e, (∀ c o, c ≠ z → c ≠ i1 → c ≠ i2 → s.heap.get? c = some o → h'.get? c = some o) → (∃ o, h'.get? e = some o ∧ o.cls = .type "StopIteration") → E (.ref e) { s with heap := h' }) :
    wpAny (model prog w) A (Builtin.«zip.__next__» ⟨[.ref z], []⟩) Q E s := by
  show wpAny _ _ (field (.ref z) 2 >>= _) _ _ _
  refine wpAny_bind (wpAny_field hz rfl (x := .bool false) rfl ?_)
  show wpAny _ _ (field (.ref z) 3 >>= _) _ _ _
  refine wpAny_bind (wpAny_field hz rfl (x := .ref TI) rfl (wpAny_bind (wpAny_seqItems hTI rfl ?_)))
  show wpAny _ _ (Builtin.SmallTypes.ownedTupleIsFree (.ref z) >>= _) _ _ _
  refine wpAny_bind (wpAny_tupleHeld_zip hz hT fun ha1 hz1 sb1 => ?_)
  simp only [Bool.false_eq_true, if_false]
  refine wpAny_bind ?_
  rw [← Array.forIn_toList]
  simp only [List.forIn_cons, List.forIn_nil]
  refine wpAny_bind (wpAny_bind (wpAny_holding ?_))
  show wpAny _ _ (Builtin.SmallTypes.nextOf (.ref i1) >>= _) _ _ _
  have t1 : ha1.IsTupleIter i1 a k1 := h1.at fun o e => sb1.extBut _ _ D.i1z e
  cases hx : xs[k1]? with
  | none =>
    exact wpAny_bind (wpAny_nextOf_tuple_end (s := { s with heap := ha1 }) hh t1 (ha.extBut sb1.extBut D.l1z) hx fun ha2 e sb2 he => q ha2 e (fun c o c1 c2 _ k => sb2 _ _ c2 (sb1.extBut _ _ c1 k)) he)
  | some x =>
    have hy : ys[k2]? = none := hend.resolve_left (by rw [hx]; exact fun k => nomatch k)
    refine wpAny_bind (wpAny_nextOf_tuple_item (s := { s with heap := ha1 }) t1 (ha.extBut sb1.extBut D.l1z) hx fun ha2 it1 sb2 => wpAny_pure (wpAny_pure ?_))
    refine wpAny_bind (wpAny_bind (wpAny_holding ?_))
    show wpAny _ _ (Builtin.SmallTypes.nextOf (.ref i2) >>= _) _ _ _
    exact wpAny_bind (wpAny_nextOf_tuple_end (s := { s with heap := ha2 }) hh (h2.at fun o e => sb2.extBut _ _ D.i12.symm (sb1.extBut _ _ D.i2z e)) ((hb.extBut sb1.extBut D.l2z).extBut sb2.extBut D.l2i1) hy
      fun ha3 e sb3 he => q ha3 e (fun c o c1 c2 c3 k => sb3 _ _ c3 (sb2.extBut _ _ c2 (sb1.extBut _ _ c1 k))) he)
end
/-- a zip over the tuples at a and b, i pairs given; what it gave last may still be held -/
structure ZipAt (h : Heap) (z TI TO i1 i2 a b : Addr) (xs ys : Array Value) (i : Nat) : Prop where
  zip : IsZip h z TI TO .none ∨ ∃ T f oT, IsZipHeld h z TI TO T f ∧ h.get? T = some oT ∧ T ≠ z ∧ T ≠ i1 ∧ T ≠ i2
  ti : IsPair h TI (.ref i1) (.ref i2)
  out : ∃ u v, IsPair h TO u v
  one : h.IsTupleIter i1 a i
  two : h.IsTupleIter i2 b i
  fst : h.IsTuple a xs
  snd : h.IsTuple b ys
section
variable {prog : Program} {w : World} {A : Around} {E : Value → Shared → Prop} {s : Shared} {z TI TO i1 i2 a b : Addr} {i : Nat} {xs ys : Array Value}
theorem ZipAt.type {h : Shared} (Z : ZipAt h.heap z TI TO i1 i2 a b xs ys i) : h.TypeIs (.ref z) "zip" := by
  rcases Z.zip with hz | ⟨T, f, oT, hz, _⟩
  · exact ⟨_, hz, rfl⟩
  · exact ⟨_, hz, rfl⟩
theorem zipAt_item {x y : Value} {Q : Option Value → Shared → Prop} (D : ZipApart z TI TO i1 i2 a b) (Z : ZipAt s.heap z TI TO i1 i2 a b xs ys i) (hx : xs[i]? = some x) (hy : ys[i]? = some y)
    (q : ∀ h', ZipAt h' z TI TO i1 i2 a b xs ys (i + 1) → IsPair h' s.heap.objs.size x y → (∀ c o, c ≠ z → c ≠ TO → c ≠ i1 → c ≠ i2 → s.heap.get? c = some o → h'.get? c = some o) → Q (some (.ref s.heap.objs.size)) { s with heap := h' }) :
    wpAny (model prog w) A (pyNext (.ref z)) Q E s := by
  obtain ⟨u, v, ho⟩ := Z.out
  have mv : ∀ {h' : Heap} {t : Addr} {us : Array Value}, (∀ c o, c ≠ z → c ≠ TO → c ≠ i1 → c ≠ i2 → s.heap.get? c = some o → h'.get? c = some o) → t ≠ z → t ≠ TO → t ≠ i1 → t ≠ i2 → s.heap.IsTuple t us → h'.IsTuple t us :=
    fun k n1 n2 n3 n4 ht => ht.at fun o e => k _ o n1 n2 n3 n4 e
  have lt1 : i1 < s.heap.objs.size := by
    obtain ⟨_, e, _⟩ := Z.one
    exact Heap.lt_size e
  have lt2 : i2 < s.heap.objs.size := by
    obtain ⟨_, e, _⟩ := Z.two
    exact Heap.lt_size e
  rcases Z.zip with hz | ⟨T, f, oT, hz, hT, n1, n2, n3⟩
  · refine RZ.pyNext_zipT_item D hz Z.ti ho Z.one Z.two Z.fst Z.snd hx hy fun h' e1 e2 e3 e4 e5 _ k => q h' ⟨.inr ⟨_, false, _, e1, e5, Nat.ne_of_gt (Heap.lt_size hz), Nat.ne_of_gt lt1, Nat.ne_of_gt lt2⟩, k _ _ D.TIz D.TITO D.TIi1 D.TIi2 Z.ti, ⟨_, _, e2⟩, e3, e4, ?_, ?_⟩ e5 k
    · exact mv k D.l1z D.l1TO D.l1i1 D.l1i2 Z.fst
    · exact mv k D.l2z D.l2TO D.l2i1 D.l2i2 Z.snd
  · have ty : s.TypeIs (.ref z) "zip" := Z.type
    unfold pyNext
    refine wpAny_bind (wpAny_attempt (wpAny_callSpecial?_slot (name := Str.ofString "__next__") ty F.slot_zip_next (wpAny_call_entry F.slot_zip_next ty F.entry_zip_next (zipHeldT_item D hz hT Z.ti Z.one Z.two Z.fst Z.snd hx hy fun h' e1 e3 e4 e5 k => wpAny_pure ?_) (F.args_zip_next_1 _))))
    have k' : ∀ c o, c ≠ z → c ≠ TO → c ≠ i1 → c ≠ i2 → s.heap.get? c = some o → h'.get? c = some o := fun c o c1 _ c3 c4 e => k c o c1 c3 c4 e
    exact q h' ⟨.inr ⟨T, true, oT, e1, k _ _ n1 n2 n3 hT, n1, n2, n3⟩, k _ _ D.TIz D.TIi1 D.TIi2 Z.ti, ⟨u, v, k _ _ D.TOz D.TOi1 D.TOi2 ho⟩, e3, e4, mv k' D.l1z D.l1TO D.l1i1 D.l1i2 Z.fst, mv k' D.l2z D.l2TO D.l2i1 D.l2i2 Z.snd⟩ e5 k'
theorem zipAt_end {Q : Option Value → Shared → Prop} (hh : A.handled = none) (D : ZipApart z TI TO i1 i2 a b) (Z : ZipAt s.heap z TI TO i1 i2 a b xs ys i) (hend : xs[i]? = none ∨ ys[i]? = none)
    (q : ∀ h', (∀ c o, c ≠ z → c ≠ TO → c ≠ i1 → c ≠ i2 → s.heap.get? c = some o → h'.get? c = some o) → Q none { s with heap := h' }) : wpAny (model prog w) A (pyNext (.ref z)) Q E s := by
  obtain ⟨u, v, ho⟩ := Z.out
  rcases Z.zip with hz | ⟨T, f, oT, hz, hT, _⟩
  · exact RZ.pyNext_zipT_end hh D hz Z.ti ho Z.one Z.two Z.fst Z.snd hend q
  · have ty : s.TypeIs (.ref z) "zip" := Z.type
    unfold pyNext
    refine wpAny_bind (wpAny_attempt (wpAny_callSpecial?_slot (name := Str.ofString "__next__") ty F.slot_zip_next (wpAny_call_entry F.slot_zip_next ty F.entry_zip_next (zipHeldT_end hh D hz hT Z.ti Z.one Z.two Z.fst Z.snd hend fun h' e k he => ?_) (F.args_zip_next_1 _))))
    obtain ⟨o, eo, ec⟩ := he
    exact wpAny_bind (wpAny_isInstance (T := "StopIteration") (b := true) ⟨o, eo, ec⟩ isSubtype_stop (wpAny_pure (q _ fun c o c1 _ c3 c4 e => k c o c1 c3 c4 e)))
theorem ZipAt.keep {h h' : Heap} {S : Addr} (Z : ZipAt h z TI TO i1 i2 a b xs ys i) (k : ∀ c o, c ≠ S → h.get? c = some o → h'.get? c = some o) (ks : ∃ o, h'.get? S = some o) (nz : z ≠ S) (nTI : TI ≠ S) (nTO : TO ≠ S) (n1 : i1 ≠ S) (n2 : i2 ≠ S) (na : a ≠ S) (nb : b ≠ S) :
    ZipAt h' z TI TO i1 i2 a b xs ys i := by
  obtain ⟨u, v, ho⟩ := Z.out
  refine ⟨?_, k _ _ nTI Z.ti, ⟨u, v, k _ _ nTO ho⟩, Z.one.at fun o e => k _ _ n1 e, Z.two.at fun o e => k _ _ n2 e, Z.fst.at fun o e => k _ _ na e, Z.snd.at fun o e => k _ _ nb e⟩
  rcases Z.zip with hz | ⟨T, f, oT, hz, hT, r⟩
  · exact .inl (k _ _ nz hz)
  · by_cases c : T = S
    · obtain ⟨o, ho⟩ := ks
      exact .inr ⟨T, f, o, k _ _ nz hz, by rw [c]; exact ho, r⟩
    · exact .inr ⟨T, f, oT, k _ _ nz hz, k _ _ c hT, r⟩
theorem far {p t base : Nat} (h1 : p < base) (h2 : base ≤ t) : t ≠ p := Nat.ne_of_gt (Nat.lt_of_lt_of_le h1 h2)
/-- the pairs that were given, where they stand -/
def PairsAt (h : Heap) (xs ys : Array Value) (base : Nat) (ts : List Addr) : Prop := ts.Nodup ∧ ∀ (j : Nat) (t : Addr), ts[j]? = some t → base ≤ t ∧ ∃ x y, xs[j]? = some x ∧ ys[j]? = some y ∧ IsPair h t x y
theorem zip_loop {R : Result → Shared → Prop} {S : Addr} {res : Value} {base n : Nat} (hh : A.in1.handled = none) (D : ZipApart z TI TO i1 i2 a b) (hn : n ≤ sizeLine) (hx : n ≤ xs.size) (hy : n ≤ ys.size) (hend : xs[n]? = none ∨ ys[n]? = none)
    (nz : z ≠ S) (nTI : TI ≠ S) (nTO : TO ≠ S) (n1 : i1 ≠ S) (n2 : i2 ≠ S) (na : a ≠ S) (nb : b ≠ S) (lz : z < base) (lTO : TO < base) (l1 : i1 < base) (l2 : i2 < base) (lS : S < base) :
    ∀ (k i : Nat) (s : Shared) (acc : Array Value) (c : Nat) (ts : List Addr), n - i = k → i ≤ n → base ≤ s.heap.objs.size → ZipAt s.heap z TI TO i1 i2 a b xs ys i → s.heap.get? S = some { cls := .type "list", dict := none, data := .seq acc c, slots := #[] } →
      acc.toList = ts.map Value.ref → ts.length = i → PairsAt s.heap xs ys base ts →
      (∀ (h' : Heap) (acc' : Array Value) (c' : Nat) (ts' : List Addr), (∀ d o, d ≠ z → d ≠ TO → d ≠ i1 → d ≠ i2 → d ≠ S → s.heap.get? d = some o → h'.get? d = some o) → h'.get? S = some { cls := .type "list", dict := none, data := .seq acc' c', slots := #[] } →
        acc'.toList = ts'.map Value.ref → ts'.length = n → PairsAt h' xs ys base ts' → R (.ok (.ret res)) { s with heap := h' }) →
      codeAny (model prog w) A (.builtin "list.extend.loop" ⟨[.ref S, .ref z, res], []⟩) R s := by
  intro k
  induction k with
  | zero =>
    intro i s acc c ts hk hi hb Z hS ea hl hp q
    obtain rfl : i = n := by omega
    refine codeAny_builtin F.entry_extend_loop ?_
    rw [Around.under_plainId F.plain_extend_loop _]
    show wpAny _ A.in1 (pyNext (.ref z) >>= _) _ _ s
    refine wpAny_bind (zipAt_end hh D Z hend fun h' kp => ?_)
    refine wpAny_pure (q h' acc c ts (fun d o d1 d2 d3 d4 _ e => kp d o d1 d2 d3 d4 e) (kp S _ (Ne.symm nz) (Ne.symm nTO) (Ne.symm n1) (Ne.symm n2) hS) ea hl ⟨hp.1, fun j t ht => ?_⟩)
    obtain ⟨hbt, x, y, e1, e2, e3⟩ := hp.2 j t ht
    exact ⟨hbt, x, y, e1, e2, kp t _ (far lz hbt) (far lTO hbt) (far l1 hbt) (far l2 hbt) e3⟩
  | succ k ih =>
    intro i s acc c ts hk hi hb Z hS ea hl hp q
    have ix : i < xs.size := by omega
    have iy : i < ys.size := by omega
    refine codeAny_builtin F.entry_extend_loop ?_
    rw [Around.under_plainId F.plain_extend_loop _]
    show wpAny _ A.in1 (pyNext (.ref z) >>= _) _ _ s
    refine wpAny_bind (zipAt_item D Z (x := xs[i]) (y := ys[i]) (by simp [ix]) (by simp [iy]) fun h' Z' pr kp => ?_)
    have hS' : h'.get? S = some { cls := .type "list", dict := none, data := .seq acc c, slots := #[] } := kp S _ (Ne.symm nz) (Ne.symm nTO) (Ne.symm n1) (Ne.symm n2) hS
    have hsz : acc.size = i := by
      have := congrArg List.length ea
      rw [List.length_map, hl, Array.length_toList] at this
      exact this
    show wpAny _ A.in1 (updateSeq S (·.push (.ref s.heap.objs.size)) >>= _) _ _ _
    refine wpAny_bind ?_
    have self := Heap.get?_update_self (Obj.mapSeq (·.push (Value.ref s.heap.objs.size))) hS' rfl
    have oth : ∀ d o, d ≠ S → h'.get? d = some o → (h'.update S (Obj.mapSeq (·.push (Value.ref s.heap.objs.size)))).get? d = some o := fun d o hd e => (Heap.get?_update_other _ _ (Ne.symm hd)).trans e
    refine wpAny_updateSeq hS' rfl (wpAny_pure ⟨plainId_quiet F.plain_extend_loop _, ih (i + 1) _ (acc.push (.ref s.heap.objs.size)) _ (ts ++ [s.heap.objs.size]) (by omega) (by omega) ?_ (Z'.keep oth ⟨_, self⟩ nz nTI nTO n1 n2 na nb) self ?_ ?_ ?_ ?_⟩)
      (by rw [hsz]; omega) (by show (acc.push _).size ≤ sizeLine + 1; rw [Array.size_push, hsz]; omega)
    · show base ≤ (h'.update S _).objs.size
      rw [Heap.size_update]
      exact Nat.le_of_lt (Nat.lt_of_le_of_lt hb (Heap.lt_size pr))
    · rw [Array.toList_push, ea, List.map_append]
      rfl
    · rw [List.length_append, hl]
      rfl
    · refine ⟨List.nodup_append.mpr ⟨hp.1, by simp, fun t ht t' ht' e => ?_⟩, fun j t ht => ?_⟩
      · obtain ⟨j, hj, ej⟩ := List.getElem_of_mem ht
        obtain ⟨_, x, y, _, _, e3⟩ := hp.2 j t (by rw [List.getElem?_eq_getElem hj, ej])
        rw [List.mem_singleton.mp ht'] at e
        exact Nat.ne_of_lt (Heap.lt_size e3) e
      rw [List.getElem?_append] at ht
      split at ht
      · obtain ⟨hbt, x, y, e1, e2, e3⟩ := hp.2 j t ht
        exact ⟨hbt, x, y, e1, e2, oth _ _ (far lS hbt) (kp t _ (far lz hbt) (far lTO hbt) (far l1 hbt) (far l2 hbt) e3)⟩
      · have hj : j = i ∧ t = s.heap.objs.size := by
          rename_i hge
          cases e : j - ts.length with
          | zero =>
            rw [e] at ht
            exact ⟨by omega, by simpa using ht.symm⟩
          | succ m =>
            rw [e] at ht
            simp at ht
        obtain ⟨rfl, rfl⟩ := hj
        exact ⟨hb, xs[j], ys[j], by simp [ix], by simp [iy], oth _ _ (far lS hb) pr⟩
    · intro h2 acc' c' ts' kp2 hS2 ea2 hl2 hp2
      exact q h2 acc' c' ts' (fun d o d1 d2 d3 d4 d5 e => kp2 d o d1 d2 d3 d4 d5 (oth d o d5 (kp d o d1 d2 d3 d4 e))) hS2 ea2 hl2 hp2
end
end PySem

set_option Elab.async false
set_option linter.all false
set_option maxRecDepth 100000
set_option maxHeartbeats 4000000
/-! tuple(zip(a, b)), a and b tuples. -/
namespace PySem
open Sem (wp)
theorem F.zip_no_len : typeLookup (.type "zip") "__len__" = pure none := by rw [typeLookup_type, builtinLookup_eq_fast]; kernel_rfl
theorem F.zip_no_hint : typeLookup (.type "zip") "__length_hint__" = pure none := by rw [typeLookup_type, builtinLookup_eq_fast]; kernel_rfl
section
variable {prog : Program} {w : World} {A : Around} {E : Value → Shared → Prop} {s : Shared} {z TI TO i1 i2 a b : Addr} {xs ys : Array Value}
theorem collect_zip {Q : List Value → Shared → Prop} {n : Nat} (hh : A.in1.handled = none) (D : ZipApart z TI TO i1 i2 a b) (hz : IsZip s.heap z TI TO .none) (hTI : IsPair s.heap TI (.ref i1) (.ref i2)) (hTO : ∃ u v, IsPair s.heap TO u v) (h1 : s.heap.IsTupleIter i1 a 0) (h2 : s.heap.IsTupleIter i2 b 0)
    (ha : s.heap.IsTuple a xs) (hb : s.heap.IsTuple b ys) (hn : n ≤ sizeLine) (hx : n ≤ xs.size) (hy : n ≤ ys.size) (hend : xs[n]? = none ∨ ys[n]? = none)
    (q : ∀ (h' : Heap) (ts : List Addr), (∀ d o, d ≠ z → d ≠ TO → d ≠ i1 → d ≠ i2 → s.heap.get? d = some o → h'.get? d = some o) → ts.length = n → PairsAt h' xs ys (s.heap.objs.size + 1) ts → Q (ts.map Value.ref) { s with heap := h' }) :
    wpAny (model prog w) A (collect (.ref z)) Q E s := by
  have lt : ∀ {c : Addr} {o : Obj}, s.heap.get? c = some o → c < s.heap.objs.size := fun e => Heap.lt_size e
  have lz := lt hz
  have lTI := lt hTI
  obtain ⟨u, v, hTO'⟩ := hTO
  have lTO := lt hTO'
  have l1 : i1 < s.heap.objs.size := by obtain ⟨_, e, _⟩ := h1; exact lt e
  have l2 : i2 < s.heap.objs.size := by obtain ⟨_, e, _⟩ := h2; exact lt e
  have la : a < s.heap.objs.size := by obtain ⟨_, e, _⟩ := ha; exact lt e
  have lb : b < s.heap.objs.size := by obtain ⟨_, e, _⟩ := hb; exact lt e
  unfold collect; refine wpAny_bind (wpAny_runValue (codeAny_builtin F.entry_proto_collect ?_)); rw [Around.under_plainId F.plain_proto_collect _]
  show wpAny _ A.in1 (newList [] >>= fun l => again (.builtin "list.__iadd__" ⟨[l, .ref z], []⟩)) _ _ s
  refine wpAny_bind (wpAny_newObj_type (wpAny_pure ⟨plainId_quiet F.plain_list_iadd _, codeAny_builtin F.entry_list_iadd ?_⟩)); rw [Around.under_plainId F.plain_list_iadd _]
  have up : ∀ c o, s.heap.get? c = some o → (s.heap.push { cls := .type "list", data := .seq ([] : List Value).toArray }).get? c = some o := fun c o e => Heap.get?_push_of_some _ e
  have hS1 : (s.heap.push { cls := .type "list", data := .seq ([] : List Value).toArray }).get? s.heap.objs.size = some { cls := .type "list", data := .seq ([] : List Value).toArray } := Heap.get?_push_size _ rfl
  show wpAny _ A.in1 (Builtin.List.listExtendWith (.ref s.heap.objs.size) (.ref z) (.ref s.heap.objs.size)) _ _ _
  unfold Builtin.List.listExtendWith; refine wpAny_bind (wpAny_typeOf (T := "zip") ⟨_, up _ _ hz, rfl⟩ ?_)
  have d1 : Builtin.List.listSameRef (.ref s.heap.objs.size) (.ref z) = false := by simp [Builtin.List.listSameRef, Nat.ne_of_gt lz]
  have d2 : (Value.type "zip" == Value.type "list") = false := by decide
  have d3 : (Value.type "zip" == Value.type "tuple") = false := by decide
  simp only [d1, d2, d3, Bool.or_false, Bool.false_eq_true, if_false]
  refine wpAny_bind (wpAny_pyIter_zip (up _ _ hz) (wpAny_bind (wpAny_holding ?_)))
  unfold Builtin.List.listLengthHint; refine wpAny_bind (wpAny_specialOf (T := "zip") ⟨_, up _ _ hz, rfl⟩ F.zip_no_len ?_)
  show wpAny _ A.in1 (specialOf (Value.ref z) (Str.ofString "__length_hint__") >>= _) _ _ _
  refine wpAny_bind (wpAny_specialOf (T := "zip") ⟨_, up _ _ hz, rfl⟩ F.zip_no_hint (wpAny_pure ?_))
  show wpAny _ A.in1 (rule "list.extend.makes-room" >>= fun _ => Builtin.List.listTouch (.ref s.heap.objs.size) >>= fun _ => again (.builtin "list.extend.loop" ⟨[.ref s.heap.objs.size, .ref z, .ref s.heap.objs.size], []⟩)) _ _ _
  refine wpAny_bind (wpAny_rule (wpAny_bind ?_))
  show wpAny _ A.in1 (updateSeq s.heap.objs.size (·.push .none) >>= fun _ => updateSeq s.heap.objs.size (·.pop)) _ _ _
  refine wpAny_bind (wpAny_updateSeq hS1 rfl ?_)
  have hS2 := Heap.get?_update_self (Obj.mapSeq (·.push Value.none)) hS1 rfl
  refine wpAny_updateSeq hS2 rfl ?_
  have hS3 := Heap.get?_update_self (Obj.mapSeq (·.pop)) hS2 rfl
  have kp : ∀ c o, c ≠ s.heap.objs.size → s.heap.get? c = some o → (((s.heap.push { cls := .type "list", data := .seq ([] : List Value).toArray }).update s.heap.objs.size (Obj.mapSeq (·.push Value.none))).update s.heap.objs.size (Obj.mapSeq (·.pop))).get? c = some o :=
    fun c o hc e => (Heap.get?_update_other _ _ (Ne.symm hc)).trans ((Heap.get?_update_other _ _ (Ne.symm hc)).trans (up c o e))
  have k2 : ∀ c o, s.heap.get? c = some o → (((s.heap.push { cls := .type "list", data := .seq ([] : List Value).toArray }).update s.heap.objs.size (Obj.mapSeq (·.push Value.none))).update s.heap.objs.size (Obj.mapSeq (·.pop))).get? c = some o := fun c o e => kp c o (Nat.ne_of_lt (lt e)) e
  refine wpAny_pure ⟨plainId_quiet F.plain_extend_loop _, zip_loop (base := s.heap.objs.size + 1) (n := n) hh D hn hx hy hend (Nat.ne_of_lt lz) (Nat.ne_of_lt lTI) (Nat.ne_of_lt lTO) (Nat.ne_of_lt l1) (Nat.ne_of_lt l2) (Nat.ne_of_lt la) (Nat.ne_of_lt lb)
    (Nat.lt_succ_of_lt lz) (Nat.lt_succ_of_lt lTO) (Nat.lt_succ_of_lt l1) (Nat.lt_succ_of_lt l2) (Nat.lt_succ_self _) n 0 _ _ _ [] rfl (Nat.zero_le _) ?_ ⟨.inl (k2 _ _ hz), k2 _ _ hTI, ⟨u, v, k2 _ _ hTO'⟩, h1.at fun o e => k2 _ _ e, h2.at fun o e => k2 _ _ e, ha.at fun o e => k2 _ _ e, hb.at fun o e => k2 _ _ e⟩ hS3 ?_ rfl ⟨List.nodup_nil, fun j t ht => ?_⟩ fun h' acc c ts kk hS ea hl hp => ?_⟩
  · show s.heap.objs.size + 1 ≤ (((s.heap.push _).update _ _).update _ _).objs.size
    rw [Heap.size_update, Heap.size_update, Heap.size_push]
    exact Nat.le_refl _
  · rfl
  · simp at ht
  · show wpAny _ A (load s.heap.objs.size >>= _) _ _ _
    refine wpAny_bind (wpAny_load hS (wpAny_pure ?_))
    show Q acc.toList _
    rw [ea]
    exact q h' ts (fun d o d1 d2 d3 d4 e => kk d o d1 d2 d3 d4 (Nat.ne_of_lt (lt e)) (k2 d o e)) hl hp
theorem code_tuple_zip {Q1 : Value → Shared → Prop} {n : Nat} (hh : A.handled = none) (D : ZipApart z TI TO i1 i2 a b) (hz : IsZip s.heap z TI TO .none) (hTI : IsPair s.heap TI (.ref i1) (.ref i2)) (hTO : ∃ u v, IsPair s.heap TO u v) (h1 : s.heap.IsTupleIter i1 a 0) (h2 : s.heap.IsTupleIter i2 b 0)
    (ha : s.heap.IsTuple a xs) (hb : s.heap.IsTuple b ys) (hn : n ≤ sizeLine) (hx : n ≤ xs.size) (hy : n ≤ ys.size) (hend : xs[n]? = none ∨ ys[n]? = none)
    (q : ∀ (h' : Heap) (ts : List Addr), (∀ d o, d ≠ z → d ≠ TO → d ≠ i1 → d ≠ i2 → s.heap.get? d = some o → h'.get? d = some o) → ts.length = n → PairsAt h' xs ys (s.heap.objs.size + 1) ts →
      Q1 (.ref h'.objs.size) { s with heap := h'.push { cls := .type "tuple", data := .seq (ts.map Value.ref).toArray } }) :
    codeAny (model prog w) A (.call (.builtin "tuple.__new__") ⟨[.type "tuple", .ref z], []⟩) (wants Q1 E) s := by
  refine codeAny_of_tree ?_
  show wpAny _ A.in1 (do checkBuiltinCall "tuple.__new__" ⟨[.type "tuple", .ref z], []⟩; again (.builtin "tuple.__new__" ⟨[.type "tuple", .ref z], []⟩)) _ _ s
  refine wpAny_bind (wpAny_of_eq (F.newCall_tuple_1 _) (wpAny_pure ⟨plainId_quiet F.plain_tuple_new _, codeAny_builtin F.entry_tuple_new ?_⟩)); rw [Around.under_plainId F.plain_tuple_new _]
  have w1 := sub_tuple_self
  have w2 := init_tuple_lookup
  have w3 := madeHere_tuple
  have ty : s.TypeIs (.ref z) "zip" := ⟨_, hz, rfl⟩
  wp_walk using wpAny_typeOf ty, collect_zip (n := n) (A := A.in1) (show A.in1.in1.handled = none from hh) D hz hTI hTO h1 h2 ha hb hn hx hy hend
  intro h' ts kp hl hp
  show wpAny _ _ (Builtin.Tuple.tupleExact (ts.map Value.ref).toArray >>= fun v => ret v) _ _ _
  unfold Builtin.Tuple.tupleExact
  exact wpAny_bind (wpAny_newObj_type (wpAny_pure (q h' ts kp hl hp)) (by show (ts.map Value.ref).toArray.size ≤ sizeLine; rw [List.size_toArray, List.length_map, hl]; exact hn))
theorem call_tuple_zip {Q : Value → Shared → Prop} {n : Nat} (hh : A.handled = none) (D : ZipApart z TI TO i1 i2 a b) (hz : IsZip s.heap z TI TO .none) (hTI : IsPair s.heap TI (.ref i1) (.ref i2)) (hTO : ∃ u v, IsPair s.heap TO u v) (h1 : s.heap.IsTupleIter i1 a 0) (h2 : s.heap.IsTupleIter i2 b 0)
    (ha : s.heap.IsTuple a xs) (hb : s.heap.IsTuple b ys) (hn : n ≤ sizeLine) (hx : n ≤ xs.size) (hy : n ≤ ys.size) (hend : xs[n]? = none ∨ ys[n]? = none)
    (q : ∀ (h' : Heap) (ts : List Addr), (∀ d o, d ≠ z → d ≠ TO → d ≠ i1 → d ≠ i2 → s.heap.get? d = some o → h'.get? d = some o) → ts.length = n → PairsAt h' xs ys (s.heap.objs.size + 1) ts →
      Q (.ref h'.objs.size) { s with heap := h'.push { cls := .type "tuple", data := .seq (ts.map Value.ref).toArray } }) :
    wpAny (model prog w) A (call (.type "tuple") [.ref z]) Q E s := by
  refine callType_codes (Q₁ := fun obj st => st.TypeIs obj "tuple" ∧ Q obj st) F.called_tuple (F.typeCall_tuple_1 _) F.entry_object_init
    (code_tuple_zip (A := A.in1) (show A.in1.handled = none from hh) D hz hTI hTO h1 h2 ha hb hn hx hy hend fun h' ts kp hl hp => ⟨⟨_, Heap.get?_push_size _ rfl, rfl⟩, q h' ts kp hl hp⟩) fun obj st hst => ?_
  exact ⟨hst.1, F.args_object_init_2 obj _, object_init_meets F.called_tuple.init.lookup F.called_tuple.made (by decide) prog w A.in1 _ st ⟨hst.1, rfl, hst.2⟩⟩
end
end PySem

set_option Elab.async false
set_option linter.all false
set_option maxRecDepth 100000
set_option maxHeartbeats 4000000
namespace WT
open PySem PySem.Spec PyProof.Rows L2
section
variable {X : Cx} {pins : List (Addr × Obj)} {σ : L2.St}
/-- pairs that stand untracked are tracked from now on -/
theorem take_pairs {s : Shared} : ∀ (ts : List Addr) (ps : List (V × V)) (H : Hp), Paired (fun t (p : V × V) => ∃ u v, IsPair s.heap t u v ∧ RelV p.1 u ∧ RelV p.2 v) ts ps → ts.Nodup → (∀ t ∈ ts, FpOk X pins H t) → L2.Inv X pins σ H s →
    ∃ H', L2.Same H H' ∧ L2.Inv X pins σ H' s ∧ Paired (fun t (p : V × V) => H' t = some (.tup [p.1, p.2])) ts ps ∧ ∀ c, c ∉ ts → H' c = H c
  | [], _, H, .nil, _, _, I => ⟨H, fun _ _ e => e, I, .nil, fun _ _ => rfl⟩
  | t :: ts, p :: ps, H, .cons h r, nd, fp, I => by
    obtain ⟨u, v, hp, ru, rv⟩ := h
    obtain ⟨nt, nd'⟩ := List.nodup_cons.mp nd
    have f := fp t List.mem_cons_self
    have I' : L2.Inv X pins σ (upd H t (.tup [p.1, p.2])) s := L2.Inv.take (h' := s.heap) (t' := s.toks) I (fun b ob _ e => e) f ⟨by show 2 ≤ sizeLine; decide, [u, v], .cons ru (.cons rv .nil), ⟨_, hp, rfl, _, rfl⟩⟩
    obtain ⟨H', h1, h2, h3, h4⟩ := take_pairs ts ps _ r nd' (fun c hc => by
      have g := fp c (List.mem_cons_of_mem _ hc)
      exact ⟨by rw [upd_ne (fun z : c = t => nt (z ▸ hc))]; exact g.1, g.2⟩) I'
    refine ⟨H', fun c o e => h1 _ _ ?_, h2, .cons ?_ h3, fun c hc => ?_⟩
    · rw [upd_ne (ne_of_none e f.1)]
      exact e
    · rw [h4 t nt, upd_same]
    · rw [h4 c fun z => hc (List.mem_cons_of_mem _ z), upd_ne (fun z : c = t => hc (by rw [z]; exact List.mem_cons_self))]
theorem paired_of {α β : Type} {R : α → β → Prop} : ∀ {l : List α} {m : List β}, l.length = m.length → (∀ (j : Nat) (x : α) (y : β), l[j]? = some x → m[j]? = some y → R x y) → Paired R l m
  | [], [], _, _ => .nil
  | x :: l, y :: m, h, f => .cons (f 0 x y rfl rfl) (paired_of (by simpa using h) fun j u v h1 h2 => f (j + 1) u v h1 h2)
  | [], _ :: _, h, _ => by simp at h
  | _ :: _, [], h, _ => by simp at h
theorem vals_refs : ∀ ts : List Addr, Vals (ts.map V.ref) (ts.map Value.ref)
  | [] => .nil
  | _ :: ts => .cons rfl (vals_refs ts)
/-- tuple(zip(a, b)): the pairs, each a new tuple -/
def tTupZip (K : PySem.W.Frag) (ta : TA) : TE := fun σ H Q => ta σ H fun vs H1 => ∃ (a b : Addr) (xs ys : List V), vs = [.ref a, .ref b] ∧ SqT K H1 a xs ∧ SqT K H1 b ys ∧
  ∀ (H' : Hp) (p : Addr) (ts : List Addr), L2.Same H1 H' → H' p = some (.tup (ts.map V.ref)) → Paired (fun t (q : V × V) => H' t = some (.tup [q.1, q.2])) ts (xs.zip ys) → Q (.ref p) H'
theorem pe_tupZip {e1 e2 : Expr} {ta : TA} {p p2 pz pos : Pos} (hcalm : X.calm = true) (hg : Gl X "tuple") (hm : X.mg "tuple" = none) (hg2 : Gl X "zip") (hm2 : X.mg "zip" = none) (ha : PA X [e1, e2] ta)
    (hs : starEach [e1, e2] X.env = (false, eval e1 X.env) :: starEach [e2] X.env := by rfl) (hpl : (backTo pz (starEach [e2] X.env)).any (·.1) = false := by rfl)
    (hs2 : starEach [.Call (.Name "zip" p2) [e1, e2] [] pz] X.env = [(false, eval (.Call (.Name "zip" p2) [e1, e2] [] pz) X.env)] := by rfl) :
    PE X (.Call (.Name "tuple" p) [.Call (.Name "zip" p2) [e1, e2] [] pz] [] pos) (tTupZip X.K ta) := by
  refine ⟨fun pins s σ H Q I h => Call_ (ld_blt I hg hm PyProof.Rows.boot_tuple (PyProof.Rows.callWith_type1 ?_ hs2 rfl))⟩
  rw [hs2]
  show wpAny _ _ (spliced ((false, eval (.Call (.Name "zip" p2) [e1, e2] [] pz) X.env) :: [])) _ _ s
  refine Calls.spliced_cons (Call_ (ld_blt I hg2 hm2 PyProof.Rows.boot_zip (PyProof.Rows.callWith_type1 (thn (ha.run pz pins s σ H _ I h) fun us s1 ⟨vs, H1, I1, r1, q1⟩ => ?_) hs hpl)))
  obtain ⟨a, b, xs, ys, rfl, hqx, hqy, q⟩ := q1
  obtain ⟨its, rx, px, _⟩ := I1.tuple hqx
  obtain ⟨jts, ry, py, hly⟩ := I1.tuple hqy
  cases r1 with
  | cons ra rr =>
    cases rr with
    | cons rb rr =>
      cases rr
      cases ra
      cases rb
      have ta' : s1.heap.IsTuple a its.toArray := px
      have tb' : s1.heap.IsTuple b jts.toArray := py
      obtain ⟨oa, hoa, _⟩ := id px
      obtain ⟨ob, hob, _⟩ := id py
      have lx := Vals.length rx
      have ly := Vals.length ry
      refine RZ.call_zipT ta' tb' fun h' hz hTI hTO h1 h2 hsz hk => Calls.spliced_nil ?_
      have hn : (xs.zip ys).length ≤ sizeLine := by
        rw [List.length_zip]
        exact Nat.le_trans (Nat.min_le_right _ _) hly
      refine call_tuple_zip (n := (xs.zip ys).length) (I1.ok.hd hcalm) (PySem.W.ktu_apart s1.heap.objs.size a b (Heap.lt_size hoa) (Heap.lt_size hob)) hz hTI ⟨_, _, hTO⟩ h1 h2 (ta'.at fun o e => hk _ o e) (tb'.at fun o e => hk _ o e) hn ?_ ?_ ?_ fun h2 ts kp hl hp => ?_
      · rw [List.length_zip, List.size_toArray]
        omega
      · rw [List.length_zip, List.size_toArray]
        omega
      · rw [List.length_zip]
        rcases Nat.le_total xs.length ys.length with c | c
        · exact .inl (by simp; omega)
        · exact .inr (by simp; omega)
      have old : ∀ c o, s1.heap.get? c = some o → (h2.push { cls := .type "tuple", data := .seq (ts.map Value.ref).toArray }).get? c = some o := fun c o e => by
        have lc := Heap.lt_size e
        exact Heap.get?_push_of_some _ (kp c o (Nat.ne_of_lt (Nat.lt_of_lt_of_le lc (Nat.le_add_right _ _))) (Nat.ne_of_lt (Nat.lt_of_lt_of_le lc (Nat.le_add_right _ _))) (Nat.ne_of_lt lc) (Nat.ne_of_lt (Nat.lt_of_lt_of_le lc (Nat.le_add_right _ _))) (hk c o e))
      have I2 : L2.Inv X pins σ H1 { s1 with heap := h2.push { cls := .type "tuple", data := .seq (ts.map Value.ref).toArray } } := I1.kept (t' := s1.toks) old
      have big : ∀ t ∈ ts, s1.heap.objs.size ≤ t ∧ t < h2.objs.size := fun t ht => by
        obtain ⟨j, hj, ej⟩ := List.getElem_of_mem ht
        obtain ⟨hb, x, y, _, _, e3⟩ := hp.2 j t (by rw [List.getElem?_eq_getElem hj, ej])
        rw [hsz] at hb
        exact ⟨Nat.le_trans (Nat.le_add_right _ 6) hb, Heap.lt_size e3⟩
      have pp : Paired (fun t (pq : V × V) => ∃ u v, IsPair (h2.push { cls := .type "tuple", data := .seq (ts.map Value.ref).toArray }) t u v ∧ RelV pq.1 u ∧ RelV pq.2 v) ts (xs.zip ys) := paired_of hl fun j t pq ht hq => by
        obtain ⟨_, u, v, e1, e2, e3⟩ := hp.2 j t ht
        have hq1 : xs[j]? = some pq.1 ∧ ys[j]? = some pq.2 := by
          rw [List.getElem?_zip_eq_some] at hq
          exact hq
        obtain ⟨u', hu, ru⟩ := rx.get hq1.1
        obtain ⟨v', hv, rv⟩ := ry.get hq1.2
        have e1 : its[j]? = some u := by simpa using e1
        have e2 : jts[j]? = some v := by simpa using e2
        rw [hu] at e1
        rw [hv] at e2
        cases e1
        cases e2
        exact ⟨_, _, Heap.get?_push_of_some _ e3, ru, rv⟩
      obtain ⟨H', sm, I3, prs, oth⟩ := take_pairs (X := X) (pins := pins) (σ := σ) ts (xs.zip ys) H1 pp hp.1 (fun t ht => I1.fpOk (big t ht).1 (I1.hok.fresh (big t ht).1)) I2
      have hpn : h2.objs.size ∉ ts := fun z => Nat.lt_irrefl _ (big _ z).2
      have DD := PySem.W.ktu_apart s1.heap.objs.size a b (Heap.lt_size hoa) (Heap.lt_size hob)
      have l2 : s1.heap.objs.size ≤ h2.objs.size := Nat.le_trans (Nat.le_add_right _ 2) (Nat.le_of_lt (Heap.lt_size (kp _ _ DD.TIz DD.TITO DD.TIi1 DD.TIi2 hTI)))
      have hnone : H' h2.objs.size = none := by
        rw [oth _ hpn]
        exact I1.hok.fresh l2
      have fp : FpOk X pins H' h2.objs.size := I1.fpOk l2 hnone
      have lts : (ts.map V.ref).length ≤ sizeLine := by
        rw [List.length_map, hl]
        exact hn
      have I4 := L2.Inv.take (h' := h2.push { cls := .type "tuple", data := .seq (ts.map Value.ref).toArray }) (t' := s1.toks) (o := .tup (ts.map V.ref)) I3 (fun b ob _ e => e) fp ⟨lts, ts.map Value.ref, vals_refs ts, ⟨_, Heap.get?_push_size _ rfl, rfl, _, rfl⟩⟩
      have z := same_new hnone (o := .tup (ts.map V.ref))
      exact ⟨.ref h2.objs.size, _, I4, rfl, q _ _ ts (sm.trans z) upd_same (Paired.mapP prs fun _ _ e => z _ _ e)⟩
end
end WT

set_option Elab.async false
set_option linter.all false
set_option maxRecDepth 100000
set_option maxHeartbeats 4000000
namespace K13
open PySem PySem.Spec PyProof.Rows L2 WT
abbrev st_cycle_through : Stmt := top 10
theorem sc_cycle_through : FnScope ["world", "name", "those", "paths", "path", "one", "other", "found"] ["world", "name"] (defScope st_cycle_through) := ⟨rfl, rfl, rfl, by decide +kernel, rfl, by decide +kernel, by decide +kernel⟩
theorem pi_tupK {X : Cx} {K : PySem.W.Frag} {tg l : Expr} {tl : TE} (hl : PE X l tl) (hK : X.K = K := by rfl) : PI X tg l (iTup K tl) := by
  subst hK
  exact pi_tup hl
theorem walk_W {J : It} {n : Nat} {G : Hp → Prop} {Y : Nat → Hp → V → Hp → Prop} (w : Walk J n G Y) {Body : V → Hp → (Hp → Prop) → Prop} {Qd : Hp → Prop} {H0 : Hp} (Pv : Nat → Hp → Prop) (h0 : Pv 0 H0) (hG : ∀ i H, i ≤ n → Pv i H → G H)
    (hs : ∀ i x H H', i < n → Pv i H → Y i H x H' → Body x H' (Pv (i + 1))) (hd : ∀ H, Pv n H → Qd H) :
    ∃ W : Nat → Nat → Hp → Prop, (∃ m, W 0 m H0) ∧ ∀ i m H, W i m H → (J.stop i H ∧ Qd H) ∨ (J.go i H ∧ ∃ Nx : Hp → Prop, (∀ H', Nx H' → ∃ m', m' < m ∧ W (i + 1) m' H') ∧ ∀ x H', J.yld i H x H' → Body x H' Nx) := by
  refine ⟨fun i m H => m = n - i ∧ i ≤ n ∧ Pv i H, ⟨n, rfl, Nat.zero_le _, h0⟩, ?_⟩
  rintro i m H ⟨rfl, hi, p⟩
  by_cases c : i < n
  · exact .inr ⟨w.goes i H c (hG i H hi p), Pv (i + 1), fun H' p' => ⟨n - (i + 1), by omega, rfl, c, p'⟩, fun x H' y => hs i x H H' c p (w.yields i H x H' c (hG i H hi p) y)⟩
  · obtain rfl : i = n := by omega
    exact .inl ⟨w.stops H (hG _ H hi p), hd H p⟩
/-- the answers so far -/
def Asked (H : Hp) : List V → List (Str × Option Pth) → Prop := Paired fun v p => PathRes p.1 H v p.2
theorem res_tup {one : Str} {H H' : Hp} {v : V} {o : Option Pth} (h : PathRes one H v o) (k : ∀ t xs, H t = some (.tup xs) → H' t = some (.tup xs)) : PathRes one H' v o := by
  cases o with
  | none => exact h
  | some l =>
    obtain ⟨t, h1, h2⟩ := h
    exact ⟨t, h1, k _ _ h2⟩
section
variable {P : Program} {w : World} {K : PySem.W.Frag} {mg : Str → Option Value} {base : Heap} {f fM fS : Addr} {fd fdM fdS : FuncData}
/-- cycle_through(world, name) -/
def spCyc : Sp := fun vs H Q _ => ∃ (wa r g : Addr) (as : List Addr) (rs : List Str) (gs : List Gt) (gx : Gt), vs = [.ref wa, .str gx.1] ∧ WorldAt H wa r g as rs gs ∧ gx ∈ gs ∧ (gs.map (·.1)).Nodup ∧ rs.length ≤ 100 ∧ gs.length ≤ 100 ∧ (∀ g ∈ gs, g.2.1.length ≤ 100 ∧ ∀ y ∈ g.2.1, y ∈ rs) ∧
  ∀ (H' : Hp) (v : V), Same H H' → CycRes H' v (cycT gs rs gx) → Q v H'
theorem ok_cycle_through (F : Fun K "cycle_through" "cycle_through" st_cycle_through f fd) (B : Blt mg) (hzip : mg "zip" = none) (F_members : DfO P w K mg base "members" 1 fM fdM ["world", "name"] spMembers)
    (F_shortest_path : DfO P w K mg base "shortest_path" 2 fS fdS ["world", "one", "other", "without"] (spShort K)) : FnOk P w K mg base CX0 3 f fd ["world", "name"] spCyc := by
  refine F.ok sc_cycle_through (fun vs H Q E h => ?_) (fun cdv A outer s H vs Q E hr h => ?_)
  · obtain ⟨_, _, _, _, _, _, _, rfl, _⟩ := h
    rfl
  · obtain ⟨wa, r, g, as, rs, gs, gx, rfl, hw, hgx, nd0, hrl, hgl, hil, q⟩ := h
    refine ⟨_, (pss_cons (ps_set (i := 2) sc_cycle_through.nd rfl (.inr rfl) (pe_call F_members.G (hr.mono (by decide)) (by rfl) F_members.g F_members.kp F_members.bd .nil pass0 (pa_cons (pv 0) (pa_cons (pv 1) pa_nil))))
      (pss_cons (ps_setLc2 (i := 3) (own := [("one", 5), ("other", 6)]) (vs1 := [6]) (by rfl) sc_cycle_through.nd rfl rfl (sw_true rfl rfl rfl (by decide +kernel)) (pi_tup (pv 2)) (blkOk_by (own := [("one", 5), ("other", 6)]) (N := ["world", "name", "those", "paths", "path", "one", "other", "found"]) (sc := defScope st_cycle_through) (by decide +kernel)) (by decide) (fun _ _ _ _ _ => (pg_name (i := 5) sc_cycle_through.nd rfl (.inl rfl))) (fun _ _ _ _ _ => pts_nil) (fun _ _ _ _ _ => (pi_tupK (K := K) (pv 2))) (fun _ _ _ _ _ => (pg_name (i := 6) sc_cycle_through.nd rfl (.inl rfl))) (fun _ _ _ _ _ => (pts_one (pt_cmpR op_lt_str (pv 5) (pv 6) (nomark _)))) (fun _ _ _ _ _ => (pe_call F_shortest_path.G (hr.mono (by decide)) (by rfl) F_shortest_path.g F_shortest_path.kp F_shortest_path.bd .nil pass0 (pa_cons (pv 0) (pa_cons (pv 5) (pa_cons (pv 6) (pa_cons (pe_tup (pa_cons (pv 1) pa_nil)) pa_nil)))))))
      (pss_cons (ps_set (i := 4) sc_cycle_through.nd rfl (.inl rfl) (pe_minLenI (by rfl) (by rfl) B.min (by rfl) B.len (pa_cons (pe_lc (own := [("found", 7)]) (by rfl) sc_cycle_through.nd (pi_list (pv 3)) (blkOk_by (own := [("found", 7)]) (N := ["world", "name", "those", "paths", "path", "one", "other", "found"]) (sc := defScope st_cycle_through) (by decide +kernel)) (fun _ _ _ _ _ => (pg_name (i := 7) sc_cycle_through.nd rfl (.inl rfl))) (fun _ _ _ _ _ => (pts_one (pt_cmpR op_notN (pv 7) pe_non (nomark _)))) (fun _ _ _ _ _ => (pv 7))) pa_nil)))
      (pss_cons (ps_if (pt_cmpR op_isN (pv 4) pe_non (nomark _))
       (pss_one (ps_ret pe_non))
       pss_nil)
      (pss_one (ps_ret (pe_op op_catA (pe_tup (pa_cons (pe_tup (pa_cons (pe_ix ix_tup (pv 4) (pe_un un_neg pe_int) (fun _ _ => rfl)) (pa_cons (pv 1) pa_nil))) pa_nil)) (pe_tupZip (by rfl) (by rfl) B.tuple (by rfl) hzip (pa_cons (pe_slice3 2 (by decide) (by decide) (pv 4) po_none (po_some (pe_un un_neg pe_int)) pe_int) (pa_cons (pe_slice3 2 (by decide) (by decide) (pv 4) (po_some pe_int) po_none pe_int) pa_nil)))))))))), ?_⟩
    have hm : ∀ g ∈ gs, ∀ z ∈ g.2.1, z ∈ rs := fun g hg => (hil g hg).2
    -- those = members(world, name)
    refine ⟨_, rfl, _, rfl, wa, r, g, as, rs, gs, gx.1, rfl, hw, ⟨gx, hgx, rfl⟩, fun i gg hgg egg hi => ?_⟩
    obtain rfl : gg = gx := by_name nd0 hgg hgx egg
    obtain ⟨ml, msub⟩ := hil gg hgg
    -- paths
    refine ⟨_, rfl, i, rfl, ⟨_, SqT.of hi⟩, fun D nD => walk_W (walk_tup (xs := gg.2.1.map V.str))
      (fun m H' => Same H H' ∧ ∃ vs : List V, vs.length ≤ m * 100 ∧ H' D = some (.lst vs) ∧ Asked H' vs (((gg.2.1.take m).flatMap (rowP gg.2.1)).map (askP gs rs gg.1))) ⟨same_new nD, [], Nat.zero_le _, upd_same, .nil⟩ (fun m H' _ ⟨s', _⟩ => SqT.of (s' _ _ hi)) (fun m v H2 H3 hm2 hP hY => ?_) fun H2 hP => ?_⟩
    · obtain ⟨s2, vs, hvl, hD2, ak2⟩ := hP
      obtain ⟨rfl, hv⟩ := hY
      rw [List.getElem?_map] at hv
      obtain ⟨y, hy, rfl⟩ := Option.map_eq_some_iff.mp hv
      have hmlt : m < gg.2.1.length := (List.getElem?_eq_some_iff.mp hy).1
      refine ⟨rfl, ⟨_, rfl, i, rfl, ⟨_, SqT.of (s2 _ _ hi)⟩, walk_W (walk_tup (xs := gg.2.1.map V.str))
        (fun j H' => Same H H' ∧ ∃ vs : List V, vs.length ≤ m * 100 + j ∧ H' D = some (.lst vs) ∧ Asked H' vs (((gg.2.1.take m).flatMap (rowP gg.2.1) ++ rowP (gg.2.1.take j) y).map (askP gs rs gg.1))) ⟨s2, vs, hvl, hD2, by
          rw [show rowP (gg.2.1.take 0) y = [] from rfl, List.append_nil]
          exact ak2⟩ (fun j H' _ ⟨s', _⟩ => SqT.of (s' _ _ hi)) (fun j u H4 H5 hj hP hY => ?_) fun H4 hP => ?_⟩⟩
      · obtain ⟨s4, vs, hvl, hD4, ak4⟩ := hP
        obtain ⟨rfl, hu⟩ := hY
        rw [List.getElem?_map] at hu
        obtain ⟨z, hz, rfl⟩ := Option.map_eq_some_iff.mp hu
        have hj' : j < gg.2.1.length := (List.getElem?_eq_some_iff.mp hz).1
        have stp : rowP (gg.2.1.take (j + 1)) y = rowP (gg.2.1.take j) y ++ (if y.cps.toList < z.cps.toList then [(y, z)] else []) := by
          unfold rowP
          rw [List.take_add_one, hz, List.filter_append, List.map_append]
          congr 1
          by_cases c : y.cps.toList < z.cps.toList
          · rw [if_pos c]
            simp [ltS, c]
          · rw [if_neg c]
            simp [ltS, c]
        refine ⟨rfl, _, rfl, _, rfl, y, z, rfl, rfl, _, rfl, ?_⟩
        by_cases c : y.cps.toList < z.cps.toList
        · refine ifT (decide_eq_true c) ⟨_, rfl, _, rfl, _, rfl, _, rfl, (by show 1 ≤ sizeLine; decide), fun tn ntn => ?_⟩
          have zt := same_new ntn (o := .tup [.str gg.1])
          refine ⟨wa, r, g, tn, as, rs, gs, y, z, [gg.1], rfl, (hw.same s4).same zt, SqT.of upd_same, hrl, hgl, nd0, hil, msub y (List.mem_of_getElem? hy), fun H6 v s6 hres => ?_⟩
          have s46 := zt.trans s6
          have hD6 := s46 _ _ hD4
          have keep : ∀ (t : Addr) (xs : List V) (o : HO), H6 t = some (.tup xs) → upd H6 D o t = some (.tup xs) := fun t xs o e => by
            rw [upd_ne (ne_of e hD6 (by intro q; cases q))]
            exact e
          refine ⟨vs, hD6, Nat.lt_of_le_of_lt (show vs.length ≤ 100000 by have : m * 100 ≤ 10000 := by omega
                                                                          omega) (by decide), fun d o ed => ?_, vs ++ [v], by rw [List.length_append]; show vs.length + 1 ≤ _; omega, upd_same, ?_⟩
          · rw [upd_ne (ne_of_none ed nD)]
            exact s46 _ _ (s4 _ _ ed)
          · rw [stp, if_pos c, ← List.append_assoc, List.map_append]
            exact pair_snoc (Paired.mapP ak4 fun _ _ h => res_tup h fun t xs e => keep _ _ _ (s46 _ _ e)) (res_tup hres fun t xs e => keep _ _ _ e)
        · refine ifF (decide_eq_false c) ⟨s4, vs, by omega, hD4, ?_⟩
          rw [stp, if_neg c, List.append_nil]
          exact ak4
      · obtain ⟨s4, vs, hvl, hD4, ak4⟩ := hP
        rw [List.length_map] at hvl ak4
        rw [List.take_length] at ak4
        refine ⟨s4, vs, by omega, hD4, ?_⟩
        rw [List.take_add_one, hy, List.flatMap_append]
        have : (Option.some y).toList.flatMap (rowP gg.2.1) = rowP gg.2.1 y := by simp
        rw [this]
        exact ak4
    · obtain ⟨s2, vs, hvl, hD2, ak2⟩ := hP
      rw [List.length_map, List.take_length] at ak2
      rw [List.length_map] at hvl
      change Asked H2 vs ((pairsP gg.2.1).map (askP gs rs gg.1)) at ak2
      generalize hps : (pairsP gg.2.1).map (askP gs rs gg.1) = ps at ak2
      have lps := Paired.length ak2
      -- path = min(..)
      refine ⟨_, rfl, D, rfl, ⟨_, SqL.of hD2⟩, fun L nL => lc_list (K := K) (a := D) (xs := vs) (fun m H' => Same H2 H' ∧ ∃ ts : List (Addr × List V), H' L = some (.lst (ts.map fun t => V.ref t.1)) ∧ Paired (fun (t : Addr × List V) (p : Str × Pth) => H' t.1 = some (.tup t.2) ∧ t.2 = pathV p.1 p.2) ts (fsOf (ps.take m)))
        ⟨same_new nL, [], upd_same, .nil⟩ (fun m H' _ ⟨s', _⟩ => SqL.of (s' _ _ hD2)) (fun m v H3 hm2 hP => ?_) fun H3 hP => ?_⟩
      · obtain ⟨s3, ts, hL, hts⟩ := hP
        have hml : m < vs.length := (List.getElem?_eq_some_iff.mp hm2).1
        obtain ⟨p, hp, hres⟩ := pair_at ak2 hm2
        obtain ⟨p1, p2⟩ := p
        have stp : fsOf (ps.take (m + 1)) = fsOf (ps.take m) ++ (p2.map fun l => (p1, l)).toList := by
          unfold fsOf
          rw [List.take_add_one, hp, List.filterMap_append]
          cases p2 <;> rfl
        refine ⟨rfl, _, rfl, rfl, _, rfl, ?_⟩
        cases p2 with
        | none =>
          have hres : v = .non := hres
          refine ifF (by simp [hres]) ⟨s3, ts, hL, ?_⟩
          rw [stp]
          show Paired _ ts (fsOf (ps.take m) ++ [])
          rw [List.append_nil]
          exact hts
        | some l =>
          obtain ⟨t, rfl, ht⟩ := hres
          have lts := Paired.length hts
          have lfs : (fsOf (ps.take m)).length ≤ m := by
            unfold fsOf
            refine Nat.le_trans (List.length_filterMap_le ..) ?_
            rw [List.length_take]
            exact Nat.min_le_left _ _
          have nt : ∀ (d : Addr) (ys : List V) (o : HO), H3 d = some (.tup ys) → upd H3 L o d = some (.tup ys) := fun d ys o e => by
            rw [upd_ne (ne_of e hL (by intro q; cases q))]
            exact e
          refine ifT (by simp) ⟨_, rfl, _, hL, ?_, fun d o ed => ?_, ts ++ [(t, pathV p1 l)], ?_, ?_⟩
          · rw [List.length_map]
            exact Nat.lt_of_le_of_lt (show ts.length ≤ 100000 by omega) (by decide)
          · rw [upd_ne (ne_of_none ed nL)]
            exact s3 _ _ ed
          · rw [upd_same, List.map_append]
            rfl
          · rw [stp]
            exact pair_snoc (Paired.mapP hts fun _ _ h => ⟨nt _ _ _ h.1, h.2⟩) ⟨nt _ _ _ (s3 _ _ ht), rfl⟩
      · obtain ⟨s3, ts, hL, hts⟩ := hP
        rw [lps, List.take_length] at hts
        have s23 := s2.trans s3
        have lens : ts.map (fun t => t.2.length) = (fsOf ps).map plen := by
          have : ∀ {ts : List (Addr × List V)} {fs : List (Str × Pth)}, Paired (fun (t : Addr × List V) (p : Str × Pth) => H3 t.1 = some (.tup t.2) ∧ t.2 = pathV p.1 p.2) ts fs → ts.map (fun t => t.2.length) = fs.map plen := fun h => by
            induction h with
            | nil => rfl
            | cons h _ ih =>
              rw [List.map_cons, List.map_cons, ih, h.2]
              rfl
          exact this hts
        have ct : cycT gs rs gg = (bestF (fsOf ps)).map (cycOf gg.1) := by
          unfold cycT
          rw [hps]
        refine ⟨L, ts, rfl, SqL.of hL, fun t ht => ?_, fun e => ?_, fun t ht => ?_⟩
        · obtain ⟨j, hj⟩ := List.getElem?_of_mem ht
          obtain ⟨p, _, h1, _⟩ := pair_at hts hj
          exact SqT.of h1
        · refine ⟨_, rfl, rfl, _, rfl, ifT rfl (q _ .non s23 ?_)⟩
          have : fsOf ps = [] := by
            have l1 := Paired.length hts
            rw [e] at l1
            exact List.length_eq_zero_iff.mp l1.symm
          rw [ct, this]
          exact rfl
        · obtain ⟨p, hp, h1, h2⟩ := pair_at hts ht
          rw [lens] at hp
          obtain ⟨a0, l0⟩ := p
          have cte : cycT gs rs gg = some (cycOf gg.1 (a0, l0)) := by
            rw [ct]
            unfold bestF
            rw [hp]
            rfl
          have lf := best_some (fs := fsOf ps) (f := (a0, l0)) hp
          obtain ⟨b0, k1, k2, k3, k4⟩ := mem_fs.mp (by rw [hps]; exact lf.1)
          obtain ⟨G0, _⟩ := spath_good nd0 hm (hm gg hgg a0 k1) k4
          have len0 := G0.len (hm gg hgg a0 k1)
          have lsz : (pathV a0 l0).length ≤ 300 := by
            rw [pathV_len]
            omega
          have h2 : t.2 = pathV a0 l0 := h2
          rw [h2] at h1
          refine ⟨_, rfl, rfl, _, rfl, ifF rfl ?_⟩
          refine ⟨_, rfl, 1, rfl, t.1, pathV a0 l0, -1, .str (lastOf a0 l0), rfl, rfl, SqT.of h1, pathV_last a0 l0, _, rfl, (by show 2 ≤ sizeLine; decide), fun p1 n1 => ?_⟩
          have z1 := same_new n1 (o := .tup [.str (lastOf a0 l0), .str gg.1])
          have hp1 : upd H3 p1 (.tup [.str (lastOf a0 l0), .str gg.1]) p1 = some (.tup [.str (lastOf a0 l0), .str gg.1]) := upd_same
          have ht1 := z1 _ _ h1
          generalize upd H3 p1 (.tup [.str (lastOf a0 l0), .str gg.1]) = H4 at z1 hp1 ht1 ⊢
          refine ⟨(by show 1 ≤ sizeLine; decide), fun p2 n2 => ?_⟩
          have z2 := same_new n2 (o := .tup [.ref p1])
          have hp2 : upd H4 p2 (.tup [.ref p1]) p2 = some (.tup [.ref p1]) := upd_same
          have ht2 := z2 _ _ ht1
          have hp12 := z2 _ _ hp1
          generalize upd H4 p2 (.tup [.ref p1]) = H5 at z2 hp2 ht2 hp12 ⊢
          have sz1 : (stepL (pathV a0 l0) none (some (-1)) 2).length ≤ sizeLine := by
            rw [step_init, List.length_map]
            simp
            exact Nat.le_trans (show l0.length ≤ 100 by omega) (by decide)
          have sz2 : (stepL (pathV a0 l0) (some 1) none 2).length ≤ sizeLine := by
            rw [step_odd, List.length_map, List.length_map]
            exact Nat.le_trans (show l0.length ≤ 100 by omega) (by decide)
          refine ⟨_, rfl, 1, rfl, -1, rfl, t.1, pathV a0 l0, rfl, rfl, SqT.of ht2, sz1, fun p3 n3 => ?_⟩
          have z3 := same_new n3 (o := .tup (stepL (pathV a0 l0) none (some (-1)) 2))
          refine ⟨_, rfl, 1, rfl, t.1, pathV a0 l0, rfl, rfl, SqT.of (z3 _ _ ht2), sz2, fun p4 n4 => ?_⟩
          have z4 := same_new n4 (o := .tup (stepL (pathV a0 l0) (some 1) none 2))
          refine ⟨p3, p4, _, _, rfl, SqT.of (z4 _ _ upd_same), SqT.of upd_same, fun H6 p us s6 hp6 prs => ?_⟩
          rw [step_init, step_odd] at prs
          have prs2 := pair_zip prs
          have s56 := z3.trans (z4.trans s6)
          have s06 : Same H H6 := s23.trans (z1.trans (z2.trans s56))
          have lus := Paired.length prs2
          have hl0 : us.length = l0.length := by
            rw [lus, List.length_zip]
            simp
          have hus : us.length ≤ 300 := by omega
          have l0pos : l0 ≠ [] := fun z => by
            have e1 := (spath_some hm (hm gg hgg a0 k1) k4).1
            rw [z] at e1
            cases e1
            exact str_irrefl k3 rfl
          refine ⟨p2, p, [.ref p1], us.map V.ref, rfl, rfl, SqT.of (s56 _ _ hp2), SqT.of hp6, ?_, (fun z => nomatch z), fun z _ => ?_, fun _ _ p5 n5 => q _ _ (s06.trans (same_new n5)) ?_⟩
          · rw [List.length_map]
            exact Nat.le_trans (show 1 + us.length ≤ 301 by omega) (by decide)
          · exfalso
            rename_i z2
            first
              | (have := List.map_eq_nil_iff.mp z; rw [this] at hl0; exact l0pos (List.length_eq_zero_iff.mp hl0.symm))
              | (have := List.map_eq_nil_iff.mp z2; rw [this] at hl0; exact l0pos (List.length_eq_zero_iff.mp hl0.symm))
          · rw [cte]
            have z5 := same_new n5 (o := .tup ([.ref p1] ++ us.map V.ref))
            exact ⟨p5, p1 :: us, rfl, upd_same, .cons (z5 _ _ (s56 _ _ hp12)) (Paired.mapP prs2 fun _ _ h => z5 _ _ h)⟩
end
end K13

set_option Elab.async false
set_option linter.all false
namespace WT
open PySem PySem.Spec PyProof.Rows L2
/-! ### worlds known by hand: what the searches find where ways round are known -/
/-- the names of those gateways of hs that lie on a cycle, or of those that do not -/
def pickG (gs : List Gt) (rs : List Str) (b : Bool) (hs : List Gt) : List Str := (hs.filter fun g => decide ((cycT gs rs g).isSome = b)).map (·.1)
theorem pick_snoc (gs : List Gt) (rs : List Str) (b : Bool) (hs : List Gt) (g : Gt) : pickG gs rs b (hs ++ [g]) = pickG gs rs b hs ++ (if (cycT gs rs g).isSome = b then [g.1] else []) := by
  unfold pickG
  rw [List.filter_append, List.map_append]
  by_cases c : (cycT gs rs g).isSome = b <;> simp [c]
theorem pick_len (gs : List Gt) (rs : List Str) (b : Bool) (hs : List Gt) : (pickG gs rs b hs).length ≤ hs.length := by
  unfold pickG
  rw [List.length_map]
  exact List.length_filter_le _ _
/-- a way round through the gateway, of n gateways -/
def CycW (gs : List Gt) (g : Gt) (n : Nat) : Prop := ∃ a ∈ g.2.1, ∃ b ∈ g.2.1, b ≠ a ∧ ∃ l, SPath gs [g.1] a l b ∧ n = 1 + l.length
structure Wds (gs : List Gt) (rs : List Str) : Prop where
  nd : (gs.map (·.1)).Nodup
  sub : ∀ g ∈ gs, ∀ z ∈ g.2.1, z ∈ rs
section
variable {gs : List Gt} {rs : List Str} {g : Gt} {n : Nat}
theorem two_way (h : CycW gs g n) : 2 ≤ n := by
  obtain ⟨a, _, b, _, ne, l, p, rfl⟩ := h
  cases p with
  | nil => exact absurd rfl ne
  | cons _ _ =>
    rw [List.length_cons]
    omega
theorem cyc_is (W : Wds gs rs) (hg : g ∈ gs) {c : List (Str × Str)} (h : cycT gs rs g = some c) : CycW gs g c.length := by
  obtain ⟨_, _, ⟨a, ha, b, hb, ne, l, G, e, en⟩, _⟩ := cycT_some W.nd W.sub hg h
  exact ⟨a, ha, b, hb, ne, l, by rw [← e]; exact G.last, en⟩
theorem cyc_way (W : Wds gs rs) (hg : g ∈ gs) (h : CycW gs g n) : ∃ c, cycT gs rs g = some c ∧ c.length ≤ n := by
  obtain ⟨a, ha, b, hb, ne, l, p, rfl⟩ := h
  cases e : cycT gs rs g with
  | none =>
    refine absurd ?_ ((cycT_none W.sub hg).mp e)
    rcases str_tri a b with q | q | q
    · exact ⟨a, ha, b, hb, q, p.conn⟩
    · exact absurd q.symm ne
    · exact ⟨b, hb, a, ha, q, p.conn.symm⟩
  | some c =>
    refine ⟨c, rfl, ?_⟩
    obtain ⟨_, _, _, lo⟩ := cycT_some W.nd W.sub hg e
    cases e2 : spath gs [g.1] rs a b with
    | none => exact absurd p.conn ((spath_none W.sub (W.sub g hg a ha)).mp e2)
    | some l2 =>
      obtain ⟨G, el⟩ := spath_good W.nd W.sub (W.sub g hg a ha) e2
      have k1 := (spath_some W.sub (W.sub g hg a ha) e2).2 l p
      have k2 := lo (1 + l2.length) ⟨a, ha, b, hb, ne, l2, G, el, rfl⟩
      omega
theorem girth_is (W : Wds gs rs) (h : ∃ g ∈ wrapsG gs, CycW gs g n) (lo : ∀ g ∈ wrapsG gs, ∀ m, CycW gs g m → n ≤ m) : ∃ c, scyc gs rs = some c ∧ c.length = n := by
  obtain ⟨g, hg, w⟩ := h
  have hgs : ∀ g ∈ wrapsG gs, g ∈ gs := fun g h => (List.mem_filter.mp h).1
  obtain ⟨c, e, lc⟩ := cyc_way W (hgs g hg) w
  cases es : scyc gs rs with
  | none =>
    have := scyc_none.mp es g hg
    rw [e] at this
    cases this
  | some c' =>
    obtain ⟨⟨g', hg', e'⟩, mn⟩ := scyc_some es
    have k1 := mn g hg c e
    have k2 := lo g' hg' _ (cyc_is W (hgs g' hg') e')
    exact ⟨c', rfl, by omega⟩
theorem no_cyc (W : Wds gs rs) (hg : g ∈ gs) (h : ∀ n, ¬ CycW gs g n) : cycT gs rs g = none := by
  cases e : cycT gs rs g with
  | none => rfl
  | some c => exact absurd (cyc_is W hg e) (h _)
theorem girth_no (W : Wds gs rs) (h : ∀ g ∈ wrapsG gs, ∀ n, ¬ CycW gs g n) : scyc gs rs = none :=
  scyc_none.mpr fun g hg => no_cyc W (List.mem_filter.mp hg).1 (h g hg)
theorem quiet_none (W : Wds gs rs) (h : ∀ g ∈ gs, ∃ n, CycW gs g n) : pickG gs rs false gs = [] := by
  unfold pickG
  rw [List.map_eq_nil_iff, List.filter_eq_nil_iff]
  intro g hg
  obtain ⟨n, w⟩ := h g hg
  obtain ⟨c, e, _⟩ := cyc_way W hg w
  simp [e]
theorem noticed_all (W : Wds gs rs) (h : ∀ g ∈ gs, ∃ n, CycW gs g n) : pickG gs rs true (wrapsG gs) = (wrapsG gs).map (·.1) := by
  unfold pickG
  congr 1
  rw [List.filter_eq_self]
  intro g hg
  have hg := (List.mem_filter.mp hg).1
  obtain ⟨n, w⟩ := h g hg
  obtain ⟨c, e, _⟩ := cyc_way W hg w
  simp [e]
theorem pot_path {bar : List Str} (φ : Str → Nat) (h : ∀ g ∈ gs, g.1 ∉ bar → ∀ x ∈ g.2.1, ∀ z ∈ g.2.1, φ z ≤ φ x + 1) {x y : Str} {l : Pth} (p : SPath gs bar x l y) : φ y ≤ φ x + l.length := by
  induction p with
  | nil => exact Nat.le_add_right ..
  | @cons x n z y l s _ ih =>
    obtain ⟨g, hg, rfl, hb, h1, h2⟩ := s
    have := h g hg hb _ h1 _ h2
    rw [List.length_cons]
    omega
/-- no way round is shorter than what a measure of the regions tells -/
theorem far_way (φ : Str → Nat) (k : Nat) (h : ∀ g' ∈ gs, g'.1 ≠ g.1 → ∀ x ∈ g'.2.1, ∀ z ∈ g'.2.1, φ z ≤ φ x + 1) (d : ∀ a ∈ g.2.1, ∀ b ∈ g.2.1, b ≠ a → φ a + k ≤ φ b ∨ φ b + k ≤ φ a) {m : Nat} (w : CycW gs g m) : k + 1 ≤ m := by
  obtain ⟨a, ha, b, hb, ne, l, p, rfl⟩ := w
  have h' : ∀ g' ∈ gs, g'.1 ∉ [g.1] → ∀ x ∈ g'.2.1, ∀ z ∈ g'.2.1, φ z ≤ φ x + 1 := fun g' hg' n => h g' hg' fun e => n (by rw [e]; exact List.mem_singleton.mpr rfl)
  obtain ⟨l', el, p'⟩ := p.rev
  have k1 := pot_path φ h' p
  have k2 := pot_path φ h' p'
  rcases d a ha b hb ne with q | q <;> omega
end
/-! ### rings -/
def md (n x : Nat) : Nat := if x < n then x else x - n
theorem md_mod {n x : Nat} (h : x < 2 * n) : x % n = md n x := by
  unfold md
  by_cases c : x < n
  · rw [if_pos c, Nat.mod_eq_of_lt c]
  · rw [if_neg c, Nat.mod_eq_sub_mod (by omega), Nat.mod_eq_of_lt (by omega)]
theorem md_lt {n x : Nat} (h : x < 2 * n) : md n x < n := by
  unfold md
  split <;> omega
structure RingW (n : Nat) (o nm : Nat → Str) (gs : List Gt) : Prop where
  two : 2 ≤ n
  mem : ∀ g ∈ gs, ∃ i, i < n ∧ g.1 = nm i ∧ ∀ z, z ∈ g.2.1 ↔ z = o i ∨ z = o (md n (i + 1))
  all : ∀ i, i < n → ∃ g ∈ gs, g.1 = nm i
  io : ∀ i j, i < n → j < n → o i = o j → i = j
  im : ∀ i j, i < n → j < n → nm i = nm j → i = j
section
variable {n : Nat} {o nm : Nat → Str} {gs : List Gt}
theorem RingW.gate (R : RingW n o nm gs) {i : Nat} (hi : i < n) : ∃ g ∈ gs, g.1 = nm i ∧ ∀ z, z ∈ g.2.1 ↔ z = o i ∨ z = o (md n (i + 1)) := by
  obtain ⟨g, hg, e⟩ := R.all i hi
  obtain ⟨j, hj, e2, m⟩ := R.mem g hg
  obtain rfl : i = j := R.im _ _ hi hj (by rw [← e, e2])
  exact ⟨g, hg, e, m⟩
theorem RingW.walk (R : RingW n o nm gs) {i : Nat} (hi : i < n) : ∀ k, k + 1 ≤ n → ∃ l, l.length = k ∧ SPath gs [nm i] (o (md n (i + 1))) l (o (md n (i + 1 + k)))
  | 0, _ => ⟨[], rfl, .nil _⟩
  | k + 1, h => by
    obtain ⟨l, el, p⟩ := R.walk hi k (by omega)
    have hj : md n (i + 1 + k) < n := md_lt (by omega)
    obtain ⟨g, hg, e, m⟩ := R.gate hj
    have ne : md n (i + 1 + k) ≠ i := by
      unfold md
      split <;> omega
    have e3 : md n (md n (i + 1 + k) + 1) = md n (i + 1 + (k + 1)) := by
      unfold md
      (repeat' split) <;> omega
    refine ⟨l ++ [(nm (md n (i + 1 + k)), o (md n (i + 1 + (k + 1))))], by simp [el], p.app (.cons ⟨g, hg, e, fun z => ?_, (m _).mpr (.inl rfl), (m _).mpr (.inr (by rw [e3]))⟩ (.nil _))⟩
    exact ne (R.im _ _ hj hi (List.mem_singleton.mp z))
theorem RingW.ends (R : RingW n o nm gs) {i : Nat} (hi : i < n) : md n (i + 1 + (n - 1)) = i ∧ md n (i + 1) ≠ i ∧ md n (i + 1) < n := by
  have := R.two
  unfold md
  refine ⟨?_, ?_, ?_⟩ <;> (repeat' split) <;> omega
theorem RingW.way (R : RingW n o nm gs) {g : Gt} (hg : g ∈ gs) : CycW gs g n := by
  obtain ⟨i, hi, e, m⟩ := R.mem g hg
  have := R.two
  obtain ⟨e1, e2, e3⟩ := R.ends hi
  obtain ⟨l, el, p⟩ := R.walk hi (n - 1) (by omega)
  rw [e1] at p
  refine ⟨_, (m _).mpr (.inr rfl), _, (m _).mpr (.inl rfl), fun z => e2 (R.io _ _ hi e3 z).symm, l, ?_, by omega⟩
  rw [e]
  exact p
open Classical in
noncomputable def posR (n : Nat) (o : Nat → Str) (i : Nat) (z : Str) : Nat := if h : ∃ t, t < n ∧ z = o (md n (i + 1 + t)) then h.choose else 0
theorem RingW.pos (R : RingW n o nm gs) {i t : Nat} (hi : i < n) (ht : t < n) : posR n o i (o (md n (i + 1 + t))) = t := by
  have h : ∃ t', t' < n ∧ o (md n (i + 1 + t)) = o (md n (i + 1 + t')) := ⟨t, ht, rfl⟩
  unfold posR
  rw [dif_pos h]
  obtain ⟨h1, h2⟩ := h.choose_spec
  have := R.io _ _ (md_lt (by omega)) (md_lt (by omega)) h2
  generalize h.choose = t' at h1 this ⊢
  unfold md at this
  (repeat' split at this) <;> omega
theorem RingW.low (R : RingW n o nm gs) {g : Gt} (hg : g ∈ gs) {m : Nat} (w : CycW gs g m) : n ≤ m := by
  obtain ⟨i, hi, e, mm⟩ := R.mem g hg
  have h2 := R.two
  obtain ⟨e1, e2, e3⟩ := R.ends hi
  have p0 : posR n o i (o (md n (i + 1))) = 0 := R.pos (t := 0) hi (by omega)
  have p1 : posR n o i (o i) = n - 1 := by
    have := R.pos (t := n - 1) hi (by omega)
    rw [e1] at this
    exact this
  have := far_way (gs := gs) (g := g) (posR n o i) (n - 1) (fun g' hg' ne x hx z hz => ?_) (fun a ha b hb ne => ?_) w
  · omega
  · obtain ⟨j, hj, e', m'⟩ := R.mem g' hg'
    have nji : j ≠ i := fun z => ne (by rw [e', e, z])
    obtain ⟨t, ht, et, et2⟩ : ∃ t, t + 1 < n ∧ md n (i + 1 + t) = j ∧ md n (i + 1 + (t + 1)) = md n (j + 1) := by
      refine ⟨if i < j then j - i - 1 else j + n - i - 1, ?_, ?_, ?_⟩
      · split <;> omega
      · unfold md
        (repeat' split) <;> omega
      · unfold md
        (repeat' split) <;> omega
    have q1 : posR n o i (o j) = t := by
      rw [← et]
      exact R.pos hi (by omega)
    have q2 : posR n o i (o (md n (j + 1))) = t + 1 := by
      rw [← et2]
      exact R.pos hi ht
    rcases (m' x).mp hx with rfl | rfl <;> rcases (m' z).mp hz with rfl | rfl <;> omega
  · rcases (mm a).mp ha with rfl | rfl <;> rcases (mm b).mp hb with rfl | rfl
    · exact absurd rfl ne
    · right
      omega
    · left
      omega
    · exact absurd rfl ne
theorem RingW.conn (R : RingW n o nm gs) {i j k : Nat} (hi : i < n) (hj : j < n) (hk : k < n) : Conn gs [nm i] (o j) (o k) := by
  have h2 := R.two
  have go : ∀ j, j < n → Conn gs [nm i] (o (md n (i + 1))) (o j) := fun j hj => by
    obtain ⟨t, ht, et⟩ : ∃ t, t < n ∧ md n (i + 1 + t) = j := by
      refine ⟨if i < j then j - i - 1 else j + n - i - 1, ?_, ?_⟩
      · split <;> omega
      · unfold md
        (repeat' split) <;> omega
    obtain ⟨l, _, p⟩ := R.walk hi t (by omega)
    rw [et] at p
    exact p.conn
  exact (go j hj).symm.trans (go k hk)
end
/-! ### zones -/
theorem zones_one {R : Str → Str → Bool} {rs : List Str} (A : AscS rs) (ne : rs ≠ []) (h : ∀ x ∈ rs, ∀ y ∈ rs, R x y = true) : zonesL R rs = [rs] := by
  cases rs with
  | nil => exact absurd rfl ne
  | cons x rs =>
    obtain ⟨a1, a2⟩ := List.pairwise_cons.mp A
    have zn : ∀ y ∈ x :: rs, zoneL R (x :: rs) y = x :: rs := fun y hy => List.filter_eq_self.mpr fun z hz => h y hy z hz
    have hx : headB R (x :: rs) x = true := headB_iff.mpr fun y hy _ b => by
      rcases List.mem_cons.mp hy with rfl | hy
      · exact b.ne rfl
      · exact ((a1 y hy).trans b).ne rfl
    have hr : rs.filter (headB R (x :: rs)) = [] := List.filter_eq_nil_iff.mpr fun y hy z => by
      have := headB_iff.mp z x List.mem_cons_self (h _ (List.mem_cons_of_mem _ hy) _ List.mem_cons_self)
      exact this (a1 y hy)
    unfold zonesL headsL
    rw [List.filter_cons, if_pos hx, hr, List.map_cons, List.map_nil, zn x List.mem_cons_self]
/-! ### what is told of a world -/
def girD : Option Nat → PyData
  | none => .none
  | some n => .int n
def toldD (o : Option Nat) (a b : List Str) : PyData := .list [girD o, tupD a, tupD b]
def toldW (gs : List Gt) (rs : List Str) : PyData := toldD ((scyc gs rs).map List.length) (pickG gs rs false gs) (pickG gs rs true (wrapsG gs))
theorem fit_gir {o : Option Nat} (h : ∀ n, o = some n → n < 20) : Fit 0 200 (girD o) := by
  cases o with
  | none => exact ⟨by decide +kernel, by decide +kernel, by decide +kernel⟩
  | some n =>
    have : ∀ n : Fin 20, (PyData.int ((n.1 : Nat) : Int)).showable = true ∧ (PyData.int ((n.1 : Nat) : Int)).depth ≤ 0 ∧ (PyData.int ((n.1 : Nat) : Int)).shown.length ≤ 200 := by decide +kernel
    obtain ⟨h1, h2, h3⟩ := this ⟨n, h n rfl⟩
    exact ⟨h1, h2, h3⟩
theorem fit_toldD {o : Option Nat} {a b : List Str} (ho : ∀ n, o = some n → n < 20) (la : a.length ≤ 10) (lb : b.length ≤ 10) (ha : ∀ s ∈ a, NmOk s) (hb : ∀ s ∈ b, NmOk s) : Fit 60 sizeLine (toldD o a b) := by
  have f1 := fit_gir ho
  have f2 := fit_strs ha
  have f3 := fit_strs hb
  have := fit_list (n := 1) (L := 2100) (ds := [girD o, tupD a, tupD b]) fun d hd => by
    simp only [List.mem_cons, List.not_mem_nil, or_false] at hd
    rcases hd with rfl | rfl | rfl
    · exact f1.mono (by decide) (by decide)
    · exact f2.mono (by decide) (by omega)
    · exact f3.mono (by decide) (by omega)
  exact this.mono (by decide) (Nat.le_trans (show 3 * (2100 + 2) + 3 ≤ 10000 by decide) (by decide))
theorem fit_told {gs : List Gt} {rs : List Str} (h : WFine rs gs) : Fit 60 sizeLine (toldW gs rs) := by
  have sub : ∀ g ∈ gs, ∀ z ∈ g.2.1, z ∈ rs := fun g hg => (h.each g hg).2.2.1
  have hw : ∀ g ∈ wrapsG gs, g ∈ gs := fun g hg => (List.mem_filter.mp hg).1
  have pk : ∀ (b : Bool) (hs : List Gt), (∀ g ∈ hs, g ∈ gs) → hs.length ≤ 10 → (pickG gs rs b hs).length ≤ 10 ∧ ∀ s ∈ pickG gs rs b hs, NmOk s := fun b hs hh hl => by
    refine ⟨Nat.le_trans (pick_len ..) hl, fun s hs' => ?_⟩
    unfold pickG at hs'
    obtain ⟨g, hg, rfl⟩ := List.mem_map.mp hs'
    exact (h.each g (hh g (List.mem_filter.mp hg).1)).1
  have p1 := pk false gs (fun _ h => h) h.gl
  have p2 := pk true (wrapsG gs) hw (Nat.le_trans (List.length_filter_le _ _) h.gl)
  refine fit_toldD (fun n hn => ?_) p1.1 p2.1 p1.2 p2.2
  obtain ⟨c, e, rfl⟩ := Option.map_eq_some_iff.mp hn
  obtain ⟨⟨g, hg, e'⟩, _⟩ := scyc_some e
  have := (cycT_some h.nd sub (hw g hg) e').1.short
  have := h.rl
  omega
/-! ### the ring as a law writes it -/
def GateR (ys ns : List Str) (W : Nat → Bool) (g : Gt) : Prop := ∃ i, i < ns.length ∧ g.1 = ns.getD i "" ∧ (∀ z, z ∈ g.2.1 ↔ z = ys.getD i "" ∨ z = ys.getD (md ns.length (i + 1)) "") ∧ g.2.1.length = 2 ∧ g.2.2 = (if W i = true then ("wrap" : Str) else "open")
structure RingG (ys ns : List Str) (W : Nat → Bool) (rs : List Str) (gs : List Gt) : Prop where
  names : gs.map (·.1) = ns
  each : ∀ g ∈ gs, GateR ys ns W g
  asc : AscS rs
  reg : rs.Perm ys
theorem inV_int (x : Int) : ∀ is : List Int, inV (.int x) (is.map V.int) = decide (x ∈ is)
  | [] => by simp [inV]
  | y :: is => by
    have ih := inV_int x is
    unfold inV at ih ⊢
    rw [List.map_cons, List.any_cons, ih]
    have e : eqV (.int y) (.int x) = decide (x = y) := by
      by_cases c : x = y
      · rw [c]
        simp [eqV]
      · rw [decide_eq_false c]
        simp [eqV]
        exact fun z => c z.symm
    rw [e]
    simp [List.mem_cons, Bool.decide_or]
theorem flat_ints : ∀ is : List Int, (is.map V.int).all flatV = true
  | [] => rfl
  | _ :: is => by
    rw [List.map_cons, List.all_cons, flat_ints is]
    rfl
theorem nm_of_all {s : Str} (h1 : s.length ≤ 8) (h2 : s.cps.toList.all (fun c => decide (97 ≤ c ∧ c ≤ 122)) = true) : NmOk s := ⟨h1, fun c hc => by
  have := of_decide_eq_true (List.all_eq_true.mp h2 c hc)
  unfold Low
  omega⟩
theorem zones_alone {gs : List Gt} {rs : List Str} (A : AscS rs) (h : ∀ g ∈ gs, g.2.2 = ("wrap" : Str)) : zonesL (conB gs (wrapsW gs)) rs = rs.map fun x => [x] := by
  have nc : ∀ x ∈ rs, ∀ y ∈ rs, conB gs (wrapsW gs) x y = decide (x = y) := fun x _ y _ => by
    by_cases c : x = y
    · rw [c, decide_eq_true rfl]
      exact conB_iff.mpr .refl
    · rw [decide_eq_false c]
      cases e : conB gs (wrapsW gs) x y with
      | false => rfl
      | true =>
        exfalso
        have := conB_iff.mp e
        induction this with
        | refl => exact c rfl
        | step _ ad _ =>
          obtain ⟨g, hg, nb, _⟩ := ad
          exact nb (mem_wraps.mpr ⟨g, hg, h g hg, rfl⟩)
  rw [zones_congr nc]
  unfold zonesL headsL
  have e1 : rs.filter (headB (fun x y => decide (x = y)) rs) = rs := List.filter_eq_self.mpr fun x hx => headB_iff.mpr fun y _ e b => by
    have e : x = y := of_decide_eq_true e
    exact b.ne e.symm
  rw [e1]
  refine List.map_congr_left fun x hx => ?_
  unfold zoneL
  have nd : rs.Nodup := A.imp fun b => b.ne
  clear e1 nc h A
  induction rs with
  | nil => cases hx
  | cons y rs ih =>
    rw [List.filter_cons]
    obtain ⟨n1, n2⟩ := List.nodup_cons.mp nd
    rcases List.mem_cons.mp hx with rfl | hx
    · rw [if_pos (decide_eq_true rfl), List.filter_eq_nil_iff.mpr fun z hz e => n1 (by rw [show x = z from of_decide_eq_true e]; exact hz)]
    · rw [if_neg fun e => n1 (by rw [← (show x = y from of_decide_eq_true e)]; exact hx)]
      exact ih hx n2
theorem getD_at {l : List Str} {i : Nat} (h : i < l.length) : l.getD i "" = l[i] := by
  rw [List.getD_eq_getElem?_getD, List.getElem?_eq_getElem h]
  rfl
section
variable {ys ns rs : List Str} {W : Nat → Bool} {gs : List Gt}
structure RingP (ys ns : List Str) : Prop where
  ly : ys.length = ns.length
  two : 2 ≤ ns.length
  ten : ns.length ≤ 10
  ndy : ys.Nodup
  asc : AscS ns
  oky : ∀ s ∈ ys, NmOk s
  okn : ∀ s ∈ ns, NmOk s
theorem RingP.io (p : RingP ys ns) : ∀ i j, i < ns.length → j < ns.length → ys.getD i "" = ys.getD j "" → i = j := fun i j hi hj e => by
  have l := p.ly
  rw [getD_at (by omega), getD_at (by omega)] at e
  exact (List.getElem_inj p.ndy).mp e
theorem RingP.im (p : RingP ys ns) : ∀ i j, i < ns.length → j < ns.length → ns.getD i "" = ns.getD j "" → i = j := fun i j hi hj e => by
  rw [getD_at hi, getD_at hj] at e
  exact (List.getElem_inj (p.asc.imp fun h => h.ne)).mp e
theorem RingP.mem (p : RingP ys ns) {i : Nat} (hi : i < ns.length) : ys.getD i "" ∈ ys := by
  have l := p.ly
  rw [getD_at (by omega)]
  exact List.getElem_mem _
theorem RingG.ring (p : RingP ys ns) (R : RingG ys ns W rs gs) : RingW ns.length (fun i => ys.getD i "") (fun i => ns.getD i "") gs where
  two := p.two
  mem g hg := by
    obtain ⟨i, h1, h2, h3, _⟩ := R.each g hg
    exact ⟨i, h1, h2, h3⟩
  all i hi := by
    have : ns.getD i "" ∈ gs.map (·.1) := by
      rw [R.names, getD_at hi]
      exact List.getElem_mem _
    obtain ⟨g, hg, e⟩ := List.mem_map.mp this
    exact ⟨g, hg, e⟩
  io := p.io
  im := p.im
theorem RingG.fine (p : RingP ys ns) (R : RingG ys ns W rs gs) : WFine rs gs where
  rl := by rw [R.reg.length_eq, p.ly]; exact p.ten
  gl := by
    have := congrArg List.length R.names
    rw [List.length_map] at this
    rw [this]
    exact p.ten
  rok s hs := p.oky s (R.reg.mem_iff.mp hs)
  nd := by
    rw [R.names]
    exact p.asc.imp fun h => h.ne
  each g hg := by
    obtain ⟨i, h1, h2, h3, h4, h5⟩ := R.each g hg
    have t := p.two
    refine ⟨?_, by omega, fun y hy => R.reg.mem_iff.mpr ?_, ?_⟩
    · rw [h2, getD_at h1]
      exact p.okn _ (List.getElem_mem _)
    · rcases (h3 y).mp hy with rfl | rfl
      · exact p.mem h1
      · exact p.mem (md_lt (by omega))
    · rw [h5]
      split
      · exact nm_of_all (by decide +kernel) (by decide +kernel)
      · exact nm_of_all (by decide +kernel) (by decide +kernel)
theorem WFine.wds (h : WFine rs gs) : Wds gs rs := ⟨h.nd, fun g hg => (h.each g hg).2.2.1⟩
theorem RingG.wr (p : RingP ys ns) (R : RingG ys ns W rs gs) {i : Nat} (hi : i < ns.length) : ns.getD i "" ∈ wrapsW gs ↔ W i = true := by
  have Q := R.ring p
  rw [mem_wraps]
  constructor
  · rintro ⟨g, hg, k, e⟩
    obtain ⟨j, h1, h2, _, _, h5⟩ := R.each g hg
    obtain rfl : i = j := p.im _ _ hi h1 (by rw [← e, h2])
    rw [h5] at k
    cases c : W i with
    | true => rfl
    | false =>
      rw [c] at k
      exact absurd k (by decide +kernel)
  · intro c
    obtain ⟨g, hg, e⟩ := Q.all i hi
    obtain ⟨j, h1, h2, _, _, h5⟩ := R.each g hg
    obtain rfl : i = j := p.im _ _ hi h1 (by rw [← h2]; exact e.symm)
    exact ⟨g, hg, by rw [h5, if_pos c], e⟩
theorem RingG.wsub (R : RingG ys ns W rs gs) {s : Str} (h : s ∈ wrapsW gs) : ∃ i, i < ns.length ∧ s = ns.getD i "" := by
  obtain ⟨g, hg, _, rfl⟩ := mem_wraps.mp h
  obtain ⟨i, h1, h2, _⟩ := R.each g hg
  exact ⟨i, h1, h2⟩
theorem RingG.wasc (p : RingP ys ns) (R : RingG ys ns W rs gs) : AscS (wrapsW gs) := by
  have h : AscS (gs.map (·.1)) := by
    rw [R.names]
    exact p.asc
  unfold wrapsW
  exact h.sublist (List.filter_sublist.map _)
theorem RingG.cyc (p : RingP ys ns) (R : RingG ys ns W rs gs) : ∀ g ∈ gs, ∃ n, CycW gs g n := fun g hg => ⟨_, (R.ring p).way hg⟩
/-- what is told of a ring with wrapping gateways -/
theorem RingG.told (p : RingP ys ns) (R : RingG ys ns W rs gs) {i : Nat} (hi : i < ns.length) (hw : W i = true) : toldW gs rs = toldD (some ns.length) [] (wrapsW gs) := by
  have f := (R.fine p).wds
  have Q := R.ring p
  obtain ⟨g, hg, k, e⟩ := mem_wraps.mp ((R.wr p hi).mpr hw)
  have hgw : g ∈ wrapsG gs := List.mem_filter.mpr ⟨hg, decide_eq_true k⟩
  obtain ⟨c, ec, lc⟩ := girth_is f ⟨g, hgw, Q.way hg⟩ fun g' hg' m w => Q.low (List.mem_filter.mp hg').1 w
  unfold toldW
  rw [ec, quiet_none f (R.cyc p), noticed_all f (R.cyc p)]
  show toldD (some c.length) _ _ = _
  rw [lc]
  rfl
theorem RingG.told0 (p : RingP ys ns) (R : RingG ys ns W rs gs) (h : ∀ i, i < ns.length → W i = false) : toldW gs rs = toldD none [] [] := by
  have f := (R.fine p).wds
  have e : wrapsG gs = [] := List.filter_eq_nil_iff.mpr fun g hg k => by
    obtain ⟨i, h1, _, _, _, h5⟩ := R.each g hg
    rw [h5, h i h1] at k
    exact absurd (of_decide_eq_true k) (by decide +kernel)
  unfold toldW
  rw [quiet_none f (R.cyc p), girth_no f (by rw [e]; exact fun g hg => nomatch hg), e]
  rfl
theorem RingG.one (p : RingP ys ns) {at_ : Nat} (hi : at_ < ns.length) (R : RingG ys ns (fun i => decide ((i : Int) ∈ [(at_ : Int)])) rs gs) : wrapsW gs = [ns.getD at_ ""] := by
  refine ascs_ext (R.wasc p) (List.pairwise_singleton ..) fun z => ⟨fun h => ?_, fun h => ?_⟩
  · obtain ⟨i, h1, rfl⟩ := R.wsub h
    have := (R.wr p h1).mp h
    have : i = at_ := by
      have := of_decide_eq_true this
      have := List.mem_singleton.mp this
      omega
    rw [this]
    exact List.mem_singleton.mpr rfl
  · rw [List.mem_singleton.mp h]
    exact (R.wr p hi).mpr (by simp)
theorem RingG.every (p : RingP ys ns) (R : RingG ys ns W rs gs) (h : ∀ i, i < ns.length → W i = true) : wrapsW gs = ns := by
  refine ascs_ext (R.wasc p) p.asc fun z => ⟨fun hz => ?_, fun hz => ?_⟩
  · obtain ⟨i, h1, rfl⟩ := R.wsub hz
    rw [getD_at h1]
    exact List.getElem_mem _
  · obtain ⟨i, hi, rfl⟩ := List.getElem_of_mem hz
    rw [← getD_at hi]
    exact (R.wr p hi).mpr (h i hi)
theorem RingG.zone (p : RingP ys ns) {at_ : Nat} (hi : at_ < ns.length) (R : RingG ys ns (fun i => decide ((i : Int) ∈ [(at_ : Int)])) rs gs) : zonesL (conB gs (wrapsW gs)) rs = [rs] := by
  have t := p.two
  have l := p.ly
  refine zones_one R.asc (fun e => ?_) fun x hx y hy => conB_iff.mpr ?_
  · have := R.reg.length_eq
    rw [e, List.length_nil] at this
    omega
  · rw [R.one p hi]
    have ix : ∀ x ∈ rs, ∃ i, i < ns.length ∧ x = ys.getD i "" := fun x hx => by
      obtain ⟨i, h, rfl⟩ := List.getElem_of_mem (R.reg.mem_iff.mp hx)
      exact ⟨i, by omega, (getD_at h).symm⟩
    obtain ⟨i, h1, rfl⟩ := ix x hx
    obtain ⟨j, h2, rfl⟩ := ix y hy
    exact (R.ring p).conn hi h1 h2
theorem RingG.zoneA (p : RingP ys ns) (R : RingG ys ns W rs gs) (h : ∀ i, i < ns.length → W i = true) : (zonesL (conB gs (wrapsW gs)) rs).length = ns.length := by
  rw [zones_alone R.asc fun g hg => by
    obtain ⟨i, h1, _, _, _, h5⟩ := R.each g hg
    rw [h5, if_pos (h i h1)], List.length_map, R.reg.length_eq, p.ly]
end
end WT

set_option Elab.async false
set_option linter.all false
set_option maxRecDepth 100000
set_option maxHeartbeats 4000000
namespace K13
open PySem PySem.Spec PyProof.Rows L2 WT
abbrev st_quiet : Stmt := top 11
theorem sc_quiet : FnScope ["world", "name"] ["world"] (defScope st_quiet) := ⟨rfl, rfl, rfl, by decide +kernel, rfl, by decide +kernel, by decide +kernel⟩
abbrev st_noticed : Stmt := top 12
theorem sc_noticed : FnScope ["world", "name"] ["world"] (defScope st_noticed) := ⟨rfl, rfl, rfl, by decide +kernel, rfl, by decide +kernel, by decide +kernel⟩
section
variable {P : Program} {w : World} {K : PySem.W.Frag} {mg : Str → Option Value} {base : Heap} {f fN fC : Addr} {fd fdN fdC : FuncData}
/-- quiet(world) -/
def spQuiet : Sp := fun vs H Q _ => ∃ (wa r g : Addr) (as : List Addr) (rs : List Str) (gs : List Gt), vs = [.ref wa] ∧ WorldAt H wa r g as rs gs ∧ (gs.map (·.1)).Nodup ∧ rs.length ≤ 100 ∧ gs.length ≤ 100 ∧ (∀ g ∈ gs, g.2.1.length ≤ 100 ∧ ∀ y ∈ g.2.1, y ∈ rs) ∧
  ∀ (H' : Hp) (p : Addr), Same H H' → H' p = some (.tup ((pickG gs rs false gs).map V.str)) → Q (.ref p) H'
theorem ok_quiet (F : Fun K "quiet" "quiet" st_quiet f fd) (B : Blt mg) (F_gateway_names : DfO P w K mg base "gateway_names" 1 fN fdN ["world"] spGnames) (F_cycle_through : DfO P w K mg base "cycle_through" 3 fC fdC ["world", "name"] spCyc) :
    FnOk P w K mg base CX0 4 f fd ["world"] spQuiet := by
  refine F.ok sc_quiet (fun vs H Q E h => ?_) (fun cdv A outer s H vs Q E hr h => ?_)
  · obtain ⟨_, _, _, _, _, _, rfl, _⟩ := h
    rfl
  · obtain ⟨wa, r, g, as, rs, gs, rfl, hw, nd, hrl, hgl, hil, q⟩ := h
    refine ⟨_, (pss_one (ps_ret (pe_callTy call_tuple_of (by rfl) B.tuple (by decide +kernel) (pa_cons (pe_lc (own := [("name", 1)]) (by rfl) sc_quiet.nd (pi_tup (pe_call F_gateway_names.G (hr.mono (by decide)) (by rfl) F_gateway_names.g F_gateway_names.kp F_gateway_names.bd .nil pass0 (pa_cons (pv 0) pa_nil))) (blkOk_by (own := [("name", 1)]) (N := ["world", "name"]) (sc := defScope st_quiet) (by decide +kernel)) (fun _ _ _ _ _ => (pg_name (i := 1) sc_quiet.nd rfl (.inl rfl))) (fun _ _ _ _ _ => (pts_one (pt_cmpR op_isN (pe_call F_cycle_through.G (hr.mono (by decide)) (by rfl) F_cycle_through.g F_cycle_through.kp F_cycle_through.bd .nil pass0 (pa_cons (pv 0) (pa_cons (pv 1) pa_nil))) pe_non (nomark _)))) (fun _ _ _ _ _ => (pv 1))) pa_nil)))), ?_⟩
    refine ⟨_, rfl, wa, r, g, as, rs, gs, rfl, hw, hgl, fun H1 p s1 hp => ?_⟩
    refine ⟨p, rfl, ⟨_, SqT.of hp⟩, fun L nL => lc_tup (K := K) (a := p) (xs := (gs.map (·.1)).map V.str) (fun m H' => Same H1 H' ∧ H' L = some (.lst ((pickG gs rs false (gs.take m)).map V.str)))
      ⟨same_new nL, by rw [upd_same]; rfl⟩ (fun m H' _ ⟨s', _⟩ => SqT.of (s' _ _ hp)) (fun m v H2 hm hP => ?_) fun H2 hP => ?_⟩
    · obtain ⟨s2, hL⟩ := hP
      rw [List.getElem?_map, List.getElem?_map] at hm
      obtain ⟨n, hn, rfl⟩ := Option.map_eq_some_iff.mp hm
      obtain ⟨gg, hgg, rfl⟩ := Option.map_eq_some_iff.mp hn
      have ggm : gg ∈ gs := List.mem_of_getElem? hgg
      have stp : pickG gs rs false (gs.take (m + 1)) = pickG gs rs false (gs.take m) ++ (if (cycT gs rs gg).isSome = false then [gg.1] else []) := by
        rw [List.take_add_one, hgg]
        exact pick_snoc gs rs false (gs.take m) gg
      refine ⟨rfl, _, rfl, _, rfl, wa, r, g, as, rs, gs, gg, rfl, (hw.same s1).same s2, ggm, nd, hrl, hgl, hil, fun H3 v s3 hv => ⟨rfl, _, rfl, ?_⟩⟩
      have hL3 := s3 _ _ hL
      cases c : cycT gs rs gg with
      | some cy =>
        rw [c] at hv stp
        obtain ⟨_, _, rfl, _⟩ := hv
        refine ifF rfl ⟨s2.trans s3, ?_⟩
        rw [stp, if_neg (by simp), List.append_nil]
        exact hL3
      | none =>
        rw [c] at hv stp
        have nv : v = .non := hv
        subst nv
        refine ifT rfl ⟨_, rfl, _, hL3, ?_, fun d o ed => ?_, ?_⟩
        · have l1 := pick_len gs rs false (gs.take m)
          rw [List.length_take] at l1
          rw [List.length_map]
          exact Nat.lt_of_le_of_lt (show (pickG gs rs false (gs.take m)).length ≤ 100 by omega) (by decide)
        · rw [upd_ne (ne_of_none ed nL)]
          exact s3 _ _ (s2 _ _ ed)
        · rw [upd_same, stp, if_pos (by rfl), List.map_append]
          rfl
    · obtain ⟨s2, hL⟩ := hP
      rw [List.length_map, List.length_map, List.take_length] at hL
      exact ⟨L, _, rfl, .inl ⟨SqL.of hL, fun t nt => q _ t (s1.trans (s2.trans (same_new nt))) upd_same⟩⟩
/-- noticed(world) -/
def spNoticed : Sp := fun vs H Q _ => ∃ (wa r g : Addr) (as : List Addr) (rs : List Str) (gs : List Gt), vs = [.ref wa] ∧ WorldAt H wa r g as rs gs ∧ (gs.map (·.1)).Nodup ∧ rs.length ≤ 100 ∧ gs.length ≤ 100 ∧ (∀ g ∈ gs, g.2.1.length ≤ 100 ∧ ∀ y ∈ g.2.1, y ∈ rs) ∧
  ∀ (H' : Hp) (p : Addr), Same H H' → H' p = some (.tup ((pickG gs rs true (wrapsG gs)).map V.str)) → Q (.ref p) H'
theorem ok_noticed (F : Fun K "noticed" "noticed" st_noticed f fd) (B : Blt mg) (F_wrapping_names : DfO P w K mg base "wrapping_names" 1 fN fdN ["world"] spWnames) (F_cycle_through : DfO P w K mg base "cycle_through" 3 fC fdC ["world", "name"] spCyc) :
    FnOk P w K mg base CX0 4 f fd ["world"] spNoticed := by
  refine F.ok sc_noticed (fun vs H Q E h => ?_) (fun cdv A outer s H vs Q E hr h => ?_)
  · obtain ⟨_, _, _, _, _, _, rfl, _⟩ := h
    rfl
  · obtain ⟨wa, r, g, as, rs, gs, rfl, hw, nd, hrl, hgl, hil, q⟩ := h
    refine ⟨_, (pss_one (ps_ret (pe_callTy call_tuple_of (by rfl) B.tuple (by decide +kernel) (pa_cons (pe_lc (own := [("name", 1)]) (by rfl) sc_noticed.nd (pi_tup (pe_call F_wrapping_names.G (hr.mono (by decide)) (by rfl) F_wrapping_names.g F_wrapping_names.kp F_wrapping_names.bd .nil pass0 (pa_cons (pv 0) pa_nil))) (blkOk_by (own := [("name", 1)]) (N := ["world", "name"]) (sc := defScope st_noticed) (by decide +kernel)) (fun _ _ _ _ _ => (pg_name (i := 1) sc_noticed.nd rfl (.inl rfl))) (fun _ _ _ _ _ => (pts_one (pt_cmpR op_notN (pe_call F_cycle_through.G (hr.mono (by decide)) (by rfl) F_cycle_through.g F_cycle_through.kp F_cycle_through.bd .nil pass0 (pa_cons (pv 0) (pa_cons (pv 1) pa_nil))) pe_non (nomark _)))) (fun _ _ _ _ _ => (pv 1))) pa_nil)))), ?_⟩
    refine ⟨_, rfl, wa, r, g, as, rs, gs, rfl, hw, hgl, fun H1 p s1 hp' => ?_⟩
    have hp : H1 p = some (.tup (((wrapsG gs).map fun g : Gt => g.1).map V.str)) := hp'
    refine ⟨p, rfl, ⟨_, SqT.of hp⟩, fun L nL => lc_tup (K := K) (a := p) (xs := ((wrapsG gs).map fun g : Gt => g.1).map V.str) (fun m H' => Same H1 H' ∧ H' L = some (.lst ((pickG gs rs true ((wrapsG gs).take m)).map V.str)))
      ⟨same_new nL, by rw [upd_same]; rfl⟩ (fun m H' _ ⟨s', _⟩ => SqT.of (s' _ _ hp)) (fun m v H2 hm hP => ?_) fun H2 hP => ?_⟩
    · obtain ⟨s2, hL⟩ := hP
      rw [List.getElem?_map, List.getElem?_map] at hm
      obtain ⟨n, hn, rfl⟩ := Option.map_eq_some_iff.mp hm
      obtain ⟨gg, hgg, rfl⟩ := Option.map_eq_some_iff.mp hn
      have ggm : gg ∈ gs := (List.mem_filter.mp (List.mem_of_getElem? hgg)).1
      have stp : pickG gs rs true ((wrapsG gs).take (m + 1)) = pickG gs rs true ((wrapsG gs).take m) ++ (if (cycT gs rs gg).isSome = true then [gg.1] else []) := by
        rw [List.take_add_one, hgg]
        exact pick_snoc gs rs true ((wrapsG gs).take m) gg
      refine ⟨rfl, _, rfl, _, rfl, wa, r, g, as, rs, gs, gg, rfl, (hw.same s1).same s2, ggm, nd, hrl, hgl, hil, fun H3 v s3 hv => ⟨rfl, _, rfl, ?_⟩⟩
      have hL3 := s3 _ _ hL
      cases c : cycT gs rs gg with
      | some cy =>
        rw [c] at hv stp
        obtain ⟨_, _, rfl, _⟩ := hv
        refine ifT rfl ⟨_, rfl, _, hL3, ?_, fun d o ed => ?_, ?_⟩
        · have l1 := pick_len gs rs true ((wrapsG gs).take m)
          have l2 : (wrapsG gs).length ≤ gs.length := List.length_filter_le _ _
          rw [List.length_take] at l1
          rw [List.length_map]
          exact Nat.lt_of_le_of_lt (show (pickG gs rs true ((wrapsG gs).take m)).length ≤ 100 by omega) (by decide)
        · rw [upd_ne (ne_of_none ed nL)]
          exact s3 _ _ (s2 _ _ ed)
        · rw [upd_same, stp, if_pos (by rfl), List.map_append]
          rfl
      | none =>
        rw [c] at hv stp
        have nv : v = .non := hv
        subst nv
        refine ifF rfl ⟨s2.trans s3, ?_⟩
        rw [stp, if_neg (by simp), List.append_nil]
        exact hL3
    · obtain ⟨s2, hL⟩ := hP
      rw [List.length_map, List.length_map, List.take_length] at hL
      exact ⟨L, _, rfl, .inl ⟨SqL.of hL, fun t nt => q _ t (s1.trans (s2.trans (same_new nt))) upd_same⟩⟩
end
end K13

set_option Elab.async false
set_option linter.all false
set_option maxRecDepth 100000
set_option maxHeartbeats 4000000
namespace K13
open PySem PySem.Spec PyProof.Rows L2 WT
abbrev st_shortest_cycle : Stmt := top 13
theorem sc_shortest_cycle : FnScope ["world", "cycles", "name", "cycle"] ["world"] (defScope st_shortest_cycle) := ⟨rfl, rfl, rfl, by decide +kernel, rfl, by decide +kernel, by decide +kernel⟩
abbrev st_girth : Stmt := top 14
theorem sc_girth : FnScope ["world", "cycle"] ["world"] (defScope st_girth) := ⟨rfl, rfl, rfl, by decide +kernel, rfl, by decide +kernel, by decide +kernel⟩
/-- a world that the program's searches are told of -/
structure WHere (H : Hp) (wa r g : Addr) (as : List Addr) (rs : List Str) (gs : List Gt) : Prop where
  at_ : WorldAt H wa r g as rs gs
  nd : (gs.map (·.1)).Nodup
  rl : rs.length ≤ 100
  gl : gs.length ≤ 100
  each : ∀ g ∈ gs, g.2.1.length ≤ 100 ∧ ∀ y ∈ g.2.1, y ∈ rs
theorem WHere.same {H H' : Hp} {wa r g : Addr} {as : List Addr} {rs : List Str} {gs : List Gt} (h : WHere H wa r g as rs gs) (s : Same H H') : WHere H' wa r g as rs gs := ⟨h.at_.same s, h.nd, h.rl, h.gl, h.each⟩
/-- pairs of texts in memory -/
abbrev PairsAt (H : Hp) : List Addr → List (Str × Str) → Prop := Paired fun u (q : Str × Str) => H u = some (.tup [.str q.1, .str q.2])
theorem cyc_tup {H H' : Hp} {v : V} {o : Option (List (Str × Str))} (h : CycRes H v o) (k : ∀ t xs, H t = some (.tup xs) → H' t = some (.tup xs)) : CycRes H' v o := by
  cases o with
  | none => exact h
  | some l =>
    obtain ⟨p, us, h1, h2, h3⟩ := h
    exact ⟨p, us, h1, k _ _ h2, Paired.mapP h3 fun _ _ z => k _ _ z⟩
section
variable {P : Program} {w : World} {K : PySem.W.Frag} {mg : Str → Option Value} {base : Heap} {f fN fC fS : Addr} {fd fdN fdC fdS : FuncData}
/-- shortest_cycle(world) -/
def spScyc : Sp := fun vs H Q _ => ∃ (wa r g : Addr) (as : List Addr) (rs : List Str) (gs : List Gt), vs = [.ref wa] ∧ WHere H wa r g as rs gs ∧ ∀ (H' : Hp) (v : V), Same H H' → CycRes H' v (scyc gs rs) → Q v H'
theorem ok_shortest_cycle (F : Fun K "shortest_cycle" "shortest_cycle" st_shortest_cycle f fd) (B : Blt mg) (F_wrapping_names : DfO P w K mg base "wrapping_names" 1 fN fdN ["world"] spWnames) (F_cycle_through : DfO P w K mg base "cycle_through" 3 fC fdC ["world", "name"] spCyc) :
    FnOk P w K mg base CX0 4 f fd ["world"] spScyc := by
  refine F.ok sc_shortest_cycle (fun vs H Q E h => ?_) (fun cdv A outer s H vs Q E hr h => ?_)
  · obtain ⟨_, _, _, _, _, _, rfl, _⟩ := h
    rfl
  · obtain ⟨wa, r, g, as, rs, gs, rfl, W, q⟩ := h
    refine ⟨_, (pss_cons (ps_setLc (i := 1) (own := [("name", 2)]) (by rfl) sc_shortest_cycle.nd rfl rfl (sw_true rfl rfl rfl (by decide +kernel)) (pi_tup (pe_call F_wrapping_names.G (hr.mono (by decide)) (by rfl) F_wrapping_names.g F_wrapping_names.kp F_wrapping_names.bd .nil pass0 (pa_cons (pv 0) pa_nil))) (blkOk_by (own := [("name", 2)]) (N := ["world", "cycles", "name", "cycle"]) (sc := defScope st_shortest_cycle) (by decide +kernel)) (fun _ _ _ _ _ => (pg_name (i := 2) sc_shortest_cycle.nd rfl (.inl rfl))) (fun _ _ _ _ _ => pts_nil) (fun _ _ _ _ _ => (pe_call F_cycle_through.G (hr.mono (by decide)) (by rfl) F_cycle_through.g F_cycle_through.kp F_cycle_through.bd .nil pass0 (pa_cons (pv 0) (pa_cons (pv 2) pa_nil)))))
      (pss_one (ps_ret (pe_minLenI (by rfl) (by rfl) B.min (by rfl) B.len (pa_cons (pe_lc (own := [("cycle", 3)]) (by rfl) sc_shortest_cycle.nd (pi_list (pv 1)) (blkOk_by (own := [("cycle", 3)]) (N := ["world", "cycles", "name", "cycle"]) (sc := defScope st_shortest_cycle) (by decide +kernel)) (fun _ _ _ _ _ => (pg_name (i := 3) sc_shortest_cycle.nd rfl (.inl rfl))) (fun _ _ _ _ _ => (pts_one (pt_cmpR op_notN (pv 3) pe_non (nomark _)))) (fun _ _ _ _ _ => (pv 3))) pa_nil))))), ?_⟩
    have hm : ∀ g ∈ gs, ∀ z ∈ g.2.1, z ∈ rs := fun g hg => (W.each g hg).2
    have hgl := W.gl
    have hrl := W.rl
    refine ⟨_, rfl, wa, r, g, as, rs, gs, rfl, W.at_, W.gl, fun H1 p s1 hp' => ?_⟩
    have hp : H1 p = some (.tup (((wrapsG gs).map fun g : Gt => g.1).map V.str)) := hp'
    have lw : (wrapsG gs).length ≤ gs.length := List.length_filter_le _ _
    refine ⟨p, rfl, ⟨_, SqT.of hp⟩, fun D nD => lc_tup (K := K) (a := p) (xs := ((wrapsG gs).map fun g : Gt => g.1).map V.str) (fun m H' => Same H1 H' ∧ ∃ vs : List V, H' D = some (.lst vs) ∧ Paired (fun v (g : Gt) => CycRes H' v (cycT gs rs g)) vs ((wrapsG gs).take m))
      ⟨same_new nD, [], upd_same, .nil⟩ (fun m H' _ ⟨s', _⟩ => SqT.of (s' _ _ hp)) (fun m v H2 hm2 hP => ?_) fun H2 hP => ?_⟩
    · obtain ⟨s2, vs, hD, pv⟩ := hP
      rw [List.getElem?_map, List.getElem?_map] at hm2
      obtain ⟨n, hn, rfl⟩ := Option.map_eq_some_iff.mp hm2
      obtain ⟨gg, hgg, rfl⟩ := Option.map_eq_some_iff.mp hn
      have ggm : gg ∈ gs := (List.mem_filter.mp (List.mem_of_getElem? hgg)).1
      have W2 := (W.same s1).same s2
      refine ⟨rfl, _, rfl, _, rfl, wa, r, g, as, rs, gs, gg, rfl, W2.at_, ggm, W.nd, W.rl, W.gl, W.each, fun H3 v s3 hv => ?_⟩
      have hD3 := s3 _ _ hD
      have lv := Paired.length pv
      rw [List.length_take] at lv
      have keep : ∀ (t : Addr) (xs : List V) (o : HO), H3 t = some (.tup xs) → upd H3 D o t = some (.tup xs) := fun t xs o e => by
        rw [upd_ne (ne_of e hD3 (by intro q; cases q))]
        exact e
      refine ⟨_, hD3, ?_, fun d o ed => ?_, vs ++ [v], upd_same, ?_⟩
      · exact Nat.lt_of_le_of_lt (show vs.length ≤ 100 by omega) (by decide)
      · rw [upd_ne (ne_of_none ed nD)]
        exact s3 _ _ (s2 _ _ ed)
      · rw [List.take_add_one, hgg]
        exact pair_snoc (Paired.mapP pv fun _ _ h => cyc_tup h fun t xs e => keep _ _ _ (s3 _ _ e)) (cyc_tup hv fun t xs e => keep _ _ _ e)
    · obtain ⟨s2, vs, hD, pv⟩ := hP
      rw [List.length_map, List.length_map, List.take_length] at pv
      have lv := Paired.length pv
      -- min(..)
      refine ⟨_, rfl, D, rfl, ⟨_, SqL.of hD⟩, fun L nL => lc_list (K := K) (a := D) (xs := vs) (fun m H' => Same H2 H' ∧ ∃ ts : List (Addr × List Addr), H' L = some (.lst ((ts.map fun t => (t.1, t.2.map V.ref)).map fun t => V.ref t.1)) ∧ Paired (fun (t : Addr × List Addr) (c : List (Str × Str)) => H' t.1 = some (.tup (t.2.map V.ref)) ∧ PairsAt H' t.2 c) ts (((wrapsG gs).take m).filterMap (cycT gs rs)))
        ⟨same_new nL, [], upd_same, .nil⟩ (fun m H' _ ⟨s', _⟩ => SqL.of (s' _ _ hD)) (fun m v H3 hm2 hP => ?_) fun H3 hP => ?_⟩
      · obtain ⟨s3, ts, hL, hts⟩ := hP
        have hml : m < vs.length := (List.getElem?_eq_some_iff.mp hm2).1
        obtain ⟨gg, hgg, hres⟩ := pair_at pv hm2
        have stp : ((wrapsG gs).take (m + 1)).filterMap (cycT gs rs) = ((wrapsG gs).take m).filterMap (cycT gs rs) ++ (cycT gs rs gg).toList := by
          rw [List.take_add_one, hgg, List.filterMap_append]
          congr 1
        refine ⟨rfl, _, rfl, rfl, _, rfl, ?_⟩
        cases e : cycT gs rs gg with
        | none =>
          rw [e] at hres stp
          have hres : v = .non := hres
          refine ifF (by simp [hres]) ⟨s3, ts, hL, ?_⟩
          rw [stp]
          show Paired _ ts (_ ++ [])
          rw [List.append_nil]
          exact hts
        | some c =>
          rw [e] at hres stp
          obtain ⟨t, us, rfl, ht, hus⟩ := hres
          have lts := Paired.length hts
          have lfs : (((wrapsG gs).take m).filterMap (cycT gs rs)).length ≤ m := by
            refine Nat.le_trans (List.length_filterMap_le ..) ?_
            rw [List.length_take]
            exact Nat.min_le_left _ _
          have nt : ∀ (d : Addr) (ys : List V) (o : HO), H3 d = some (.tup ys) → upd H3 L o d = some (.tup ys) := fun d ys o e => by
            rw [upd_ne (ne_of e hL (by intro q; cases q))]
            exact e
          refine ifT (by simp) ⟨_, rfl, _, hL, ?_, fun d o ed => ?_, ts ++ [(t, us)], ?_, ?_⟩
          · rw [List.length_map, List.length_map]
            exact Nat.lt_of_le_of_lt (show ts.length ≤ 100000 by omega) (by decide)
          · rw [upd_ne (ne_of_none ed nL)]
            exact s3 _ _ ed
          · rw [upd_same, List.map_append, List.map_append]
            rfl
          · rw [stp]
            exact pair_snoc (Paired.mapP hts fun _ _ h => ⟨nt _ _ _ h.1, Paired.mapP h.2 fun _ _ z => nt _ _ _ z⟩) ⟨nt _ _ _ (s3 _ _ ht), Paired.mapP hus fun _ _ z => nt _ _ _ (s3 _ _ z)⟩
      · obtain ⟨s3, ts, hL, hts⟩ := hP
        rw [lv, List.take_length] at hts
        change Paired _ ts (cycsW gs rs) at hts
        have s03 := s1.trans (s2.trans s3)
        have lens : (ts.map fun t => (t.1, t.2.map V.ref)).map (fun t : Addr × List V => t.2.length) = (cycsW gs rs).map List.length := by
          have : ∀ {ts : List (Addr × List Addr)} {cs : List (List (Str × Str))}, Paired (fun (t : Addr × List Addr) (c : List (Str × Str)) => H3 t.1 = some (.tup (t.2.map V.ref)) ∧ PairsAt H3 t.2 c) ts cs → (ts.map fun t => (t.1, t.2.map V.ref)).map (fun t : Addr × List V => t.2.length) = cs.map List.length := fun h => by
            induction h with
            | nil => rfl
            | cons h _ ih =>
              rw [List.map_cons, List.map_cons, List.map_cons, ih]
              congr 1
              rw [List.length_map]
              exact Paired.length h.2
          exact this hts
        refine ⟨L, ts.map (fun t => (t.1, t.2.map V.ref)), rfl, SqL.of hL, fun t ht => ?_, fun e => ?_, fun t ht => ?_⟩
        · obtain ⟨u, hu, rfl⟩ := List.mem_map.mp ht
          obtain ⟨j, hj⟩ := List.getElem?_of_mem hu
          obtain ⟨p, _, h1, _⟩ := pair_at hts hj
          exact SqT.of h1
        · refine q _ .non s03 ?_
          have : cycsW gs rs = [] := by
            have l1 := Paired.length hts
            rw [List.map_eq_nil_iff.mp e] at l1
            exact List.length_eq_zero_iff.mp l1.symm
          unfold scyc
          rw [this]
          exact rfl
        · rw [lens, List.getElem?_map] at ht
          obtain ⟨u, hu, rfl⟩ := Option.map_eq_some_iff.mp ht
          obtain ⟨c, hc, h1, h2⟩ := pair_at hts hu
          refine q _ _ s03 ?_
          unfold scyc
          rw [hc]
          exact ⟨u.1, u.2, rfl, h1, h2⟩
/-- girth(world) -/
def girV : Option (List (Str × Str)) → V
  | none => .non
  | some c => .int c.length
def spGirth : Sp := fun vs H Q _ => ∃ (wa r g : Addr) (as : List Addr) (rs : List Str) (gs : List Gt), vs = [.ref wa] ∧ WHere H wa r g as rs gs ∧ ∀ (H' : Hp), Same H H' → Q (girV (scyc gs rs)) H'
theorem ok_girth (F : Fun K "girth" "girth" st_girth f fd) (B : Blt mg) (F_shortest_cycle : DfO P w K mg base "shortest_cycle" 4 fS fdS ["world"] spScyc) : FnOk P w K mg base CX0 5 f fd ["world"] spGirth := by
  refine F.ok sc_girth (fun vs H Q E h => ?_) (fun cdv A outer s H vs Q E hr h => ?_)
  · obtain ⟨_, _, _, _, _, _, rfl, _⟩ := h
    rfl
  · obtain ⟨wa, r, g, as, rs, gs, rfl, W, q⟩ := h
    refine ⟨_, (pss_cons (ps_set (i := 1) sc_girth.nd rfl (.inl rfl) (pe_call F_shortest_cycle.G (hr.mono (by decide)) (by rfl) F_shortest_cycle.g F_shortest_cycle.kp F_shortest_cycle.bd .nil pass0 (pa_cons (pv 0) pa_nil)))
      (pss_one (ps_ret (pe_ifExp (pt_cmpR op_isN (pv 1) pe_non (nomark _)) pe_non (pe_callB call_len (by rfl) B.len (by decide +kernel) (pa_cons (pv 1) pa_nil)))))), ?_⟩
    refine ⟨_, rfl, wa, r, g, as, rs, gs, rfl, W, fun H1 v s1 hv => ?_⟩
    have qq := q H1 s1
    cases e : scyc gs rs with
    | none =>
      rw [e] at hv qq
      have hv : v = .non := hv
      subst hv
      exact ⟨_, rfl, rfl, _, rfl, ifT rfl qq⟩
    | some c =>
      rw [e] at hv qq
      obtain ⟨p, us, rfl, h1, h2⟩ := hv
      refine ⟨_, rfl, rfl, _, rfl, ifF rfl ⟨_, rfl, _, c.length, rfl, .inr ⟨_, SqT.of h1, ?_⟩, qq⟩⟩
      rw [List.length_map]
      exact (Paired.length h2).symm
end
end K13

set_option Elab.async false
set_option linter.all false
set_option maxRecDepth 100000
set_option maxHeartbeats 4000000
/-! the search through all paths, with a finer measure. -/
namespace WT
open PySem PySem.Spec PyProof.Rows L2
section
variable {gs : List Gt} {bar rs : List Str} {one other : Str}
def weighF (f : Nat → Nat) (D : Nat) (ls : List (List (Str × Str))) : Nat := (ls.map fun l => f (D - l.length)).sum
theorem weighF_app (f : Nat → Nat) (D : Nat) (a b : List (List (Str × Str))) : weighF f D (a ++ b) = weighF f D a + weighF f D b := by
  unfold weighF
  rw [List.map_append, List.sum_append]
theorem weighF_same (f : Nat → Nat) (D k : Nat) : ∀ ls : List (List (Str × Str)), (∀ l ∈ ls, l.length = k) → weighF f D ls = ls.length * f (D - k)
  | [], _ => by simp [weighF]
  | l :: ls, h => by
    have ih := weighF_same f D k ls fun x hx => h x (List.mem_cons_of_mem _ hx)
    unfold weighF at ih ⊢
    rw [List.map_cons, List.sum_cons, ih, h l List.mem_cons_self, List.length_cons, Nat.add_mul]
    omega
theorem weighF_ge (f : Nat → Nat) (hf : ∀ n, 0 < f n) (D : Nat) : ∀ ls : List (List (Str × Str)), ls.length ≤ weighF f D ls
  | [] => Nat.zero_le _
  | l :: ls => by
    have ih := weighF_ge f hf D ls
    have p : 0 < f (D - l.length) := hf _
    unfold weighF at ih ⊢
    rw [List.map_cons, List.sum_cons, List.length_cons]
    omega
/-- the search's state: what waits, what was found -/
structure SrchF (gs : List Gt) (bar rs : List Str) (one other : Str) (f : Nat → Nat) (D : Nat) (ls fs : List (List (Str × Str))) : Prop where
  wait : ∀ l ∈ ls, GoodP gs bar rs one l
  good : ∀ l ∈ fs, GoodP gs bar rs one l ∧ lastOf one l = other
  all : ∀ m, GoodP gs bar rs one m → lastOf one m = other → m ∈ fs ∨ ∃ l ∈ ls, ∃ r, m = l ++ r
  wt : fs.length + weighF f D ls ≤ f D
theorem SrchF.first (f : Nat → Nat) (D : Nat) : SrchF gs bar rs one other f D [[]] [] :=
  ⟨fun l hl => by rw [List.mem_singleton.mp hl]; exact .nil, fun l hl => (nomatch hl), fun m _ _ => .inr ⟨[], by simp, m, rfl⟩, by simp [weighF]⟩
theorem SrchF.take {f : Nat → Nat} {D : Nat} (hf : ∀ n, 0 < f n) {ls fs : List (List (Str × Str))} {l : List (Str × Str)} (h : SrchF gs bar rs one other f D (ls ++ [l]) fs) (e : lastOf one l = other) : SrchF gs bar rs one other f D ls (fs ++ [l]) := by
  have hl := h.wait l (by simp)
  refine ⟨fun k hk => h.wait k (by simp [hk]), fun k hk => ?_, fun m hm em => ?_, ?_⟩
  · rcases List.mem_append.mp hk with hk | hk
    · exact h.good k hk
    · rw [List.mem_singleton.mp hk]
      exact ⟨hl, e⟩
  · rcases h.all m hm em with q | ⟨k, hk, r, rfl⟩
    · exact .inl (List.mem_append_left _ q)
    · rcases List.mem_append.mp hk with hk | hk
      · exact .inr ⟨k, hk, r, rfl⟩
      · rw [List.mem_singleton.mp hk] at hm em ⊢
        rcases List.eq_nil_or_concat r with rfl | ⟨s, p, rfl⟩
        · exact .inl (by simp)
        · exfalso
          have r1 := hm.reg
          obtain ⟨n, z⟩ := p
          rw [List.concat_eq_append, ← List.append_assoc, lastOf_snoc] at em
          rw [List.concat_eq_append, ← List.append_assoc, List.map_append, ← List.cons_append] at r1
          have r2 := (List.nodup_append.mp r1).2.2
          have mem : lastOf one l ∈ one :: (l ++ s).map (·.2) := by
            unfold lastOf
            cases hl2 : l.map (·.2) with
            | nil => simp
            | cons a b =>
              rw [List.map_append, hl2]
              have : (a :: b).getLastD one ∈ a :: b := by
                rw [List.getLastD_cons]
                cases b with
                | nil => simp
                | cons c d =>
                  have : (c :: d).getLastD a ∈ c :: d := by
                    rw [List.getLastD_eq_getLast?, List.getLast?_eq_some_getLast (by simp)]
                    exact List.getLast_mem _
                  exact List.mem_cons_of_mem _ this
              exact List.mem_cons_of_mem _ (List.mem_append_left _ this)
          exact r2 _ mem z (by simp) (e.trans em.symm)
  · have w := h.wt
    rw [weighF_app] at w
    have g := weighF_ge f hf D [l]
    rw [List.length_append]
    simp only [List.length_cons, List.length_nil] at g ⊢
    omega
theorem SrchF.grow {f : Nat → Nat} {D : Nat} {ls fs : List (List (Str × Str))} {l : List (Str × Str)} (hm : ∀ g ∈ gs, ∀ z ∈ g.2.1, z ∈ rs) (hl : weighF f D (kids gs bar one l) < weighF f D [l]) (h : SrchF gs bar rs one other f D (ls ++ [l]) fs) (e : lastOf one l ≠ other) :
    SrchF gs bar rs one other f D (ls ++ kids gs bar one l) fs ∧ weighF f D (ls ++ kids gs bar one l) < weighF f D (ls ++ [l]) := by
  have lk := hl
  have hl := h.wait l (by simp)
  have lt : weighF f D (ls ++ kids gs bar one l) < weighF f D (ls ++ [l]) := by
    rw [weighF_app, weighF_app]
    omega
  refine ⟨⟨fun k hk => ?_, h.good, fun m hg em => ?_, ?_⟩, lt⟩
  · rcases List.mem_append.mp hk with hk | hk
    · exact h.wait k (by simp [hk])
    · exact (kids_good hm hl hk).1
  · rcases h.all m hg em with q | ⟨k, hk, r, rfl⟩
    · exact .inl q
    · rcases List.mem_append.mp hk with hk | hk
      · exact .inr ⟨k, List.mem_append_left _ hk, r, rfl⟩
      · rw [List.mem_singleton.mp hk] at hg em ⊢
        cases r with
        | nil =>
          rw [List.append_nil] at em
          exact absurd em e
        | cons p r =>
          obtain ⟨n, z⟩ := p
          exact .inr ⟨l ++ [(n, z)], List.mem_append_right _ (kids_has hg), r, by simp⟩
  · have := h.wt
    omega
theorem SrchF.done {f : Nat → Nat} {D : Nat} {fs : List (List (Str × Str))} (h : SrchF gs bar rs one other f D [] fs) : AllP gs bar rs one other fs ∧ fs.length ≤ f D := by
  refine ⟨⟨h.good, fun m hm em => ?_⟩, ?_⟩
  · rcases h.all m hm em with q | ⟨k, hk, _⟩
    · exact q
    · cases hk
  · have := h.wt
    omega
/-- two more steps for each gateway that is left -/
def fan : Nat → Nat
  | 0 => 1
  | r + 1 => 1 + 2 * (r + 1) * fan r
theorem fan_pos : ∀ n, 0 < fan n
  | 0 => Nat.one_pos
  | r + 1 => by
    unfold fan
    omega
theorem fan_le : ∀ {n : Nat}, n ≤ 7 → fan n ≤ 1063623
  | 0, _ => by decide
  | 1, _ => by decide
  | 2, _ => by decide
  | 3, _ => by decide
  | 4, _ => by decide
  | 5, _ => by decide
  | 6, _ => by decide
  | 7, _ => by decide
  | n + 8, h => by omega
theorem flat_filter {α β : Type} {g : α → List β} {p : α → Bool} {B : Nat} : ∀ {l : List α}, (∀ x ∈ l, (g x).length ≤ B) → (∀ x ∈ l, p x = false → g x = []) → (l.flatMap g).length ≤ (l.filter p).length * B
  | [], _, _ => by simp
  | x :: l, h, k => by
    have a := h x List.mem_cons_self
    have b := flat_filter (l := l) (fun y hy => h y (List.mem_cons_of_mem _ hy)) fun y hy => k y (List.mem_cons_of_mem _ hy)
    rw [List.flatMap_cons, List.length_append, List.filter_cons]
    by_cases c : p x = true
    · rw [if_pos c, List.length_cons, Nat.add_mul]
      omega
    · rw [if_neg c, k x List.mem_cons_self (Bool.eq_false_iff.mpr c)]
      simpa using b
/-- how many go on from a path, one gateway barred -/
theorem kids_fan {gx : Gt} {l : List (Str × Str)} (nd : (gs.map (·.1)).Nodup) (hx : gx ∈ gs) (hB : ∀ g ∈ gs, g.2.1.length ≤ 3) (h : GoodP gs [gx.1] rs one l) : (kids gs [gx.1] one l).length ≤ 2 * (gs.length - 1 - l.length) ∧ l.length ≤ gs.length - 1 := by
  obtain ⟨z, hz⟩ := h.path
  have nb : ∀ {x y : Str} {l : List (Str × Str)}, SPath gs [gx.1] x l y → ∀ n ∈ l.map (·.1), n ≠ gx.1 := fun h => by
    induction h with
    | nil => intro n hn; cases hn
    | cons st _ ih =>
      obtain ⟨g, hg, e, nb, _⟩ := st
      intro n hn
      rcases List.mem_cons.mp hn with e2 | hn
      · rw [e2]
        exact fun q => nb (by simpa using q)
      · exact ih n hn
  have ln := hz.names
  have nx := nb hz
  let p : Gt → Bool := fun g => decide (g.1 ∉ gx.1 :: l.map (·.1))
  have a : (kids gs [gx.1] one l).length ≤ (gs.filter p).length * 2 := flat_filter (fun g hg => kidsOf_len (B := 2) (hB g hg) l) fun g hg c => by
    unfold kidsOf
    refine if_neg fun ⟨_, c2, c3⟩ => ?_
    have : ¬ g.1 ∉ gx.1 :: l.map (·.1) := of_decide_eq_false c
    refine this fun q => ?_
    rcases List.mem_cons.mp q with q | q
    · exact c3 (by simpa using q)
    · exact c2 q
  have b : (gx.1 :: l.map (·.1) ++ (gs.filter p).map (·.1)).length ≤ (gs.map (·.1)).length := by
    refine nodup_le (List.nodup_append.mpr ⟨List.nodup_cons.mpr ⟨fun q => nx _ q rfl, h.gat⟩, ?_, fun u hu v hv e => ?_⟩) fun u hu => ?_
    · exact List.Nodup.sublist (List.filter_sublist.map _) nd
    · obtain ⟨g, hg, rfl⟩ := List.mem_map.mp hv
      have : g.1 ∉ gx.1 :: l.map (·.1) := of_decide_eq_true (List.mem_filter.mp hg).2
      exact this (e ▸ hu)
    · rcases List.mem_append.mp hu with hu | hu
      · rcases List.mem_cons.mp hu with rfl | hu
        · exact List.mem_map.mpr ⟨gx, hx, rfl⟩
        · exact ln u hu
      · obtain ⟨g, hg, rfl⟩ := List.mem_map.mp hu
        exact List.mem_map.mpr ⟨g, (List.mem_filter.mp hg).1, rfl⟩
  rw [List.length_append, List.length_cons, List.length_map, List.length_map, List.length_map] at b
  omega
theorem weigh_fan {gx : Gt} {l : List (Str × Str)} (nd : (gs.map (·.1)).Nodup) (hm : ∀ g ∈ gs, ∀ z ∈ g.2.1, z ∈ rs) (hx : gx ∈ gs) (hB : ∀ g ∈ gs, g.2.1.length ≤ 3) (h : GoodP gs [gx.1] rs one l) : weighF fan (gs.length - 1) (kids gs [gx.1] one l) < weighF fan (gs.length - 1) [l] := by
  obtain ⟨a, b⟩ := kids_fan nd hx hB h
  rw [weighF_same fan _ (l.length + 1) _ fun k hk => (kids_good hm h hk).2]
  have e : weighF fan (gs.length - 1) [l] = fan (gs.length - 1 - l.length) := by simp [weighF]
  rw [e]
  cases hr : gs.length - 1 - l.length with
  | zero =>
    rw [hr] at a
    have : (kids gs [gx.1] one l).length = 0 := by omega
    rw [this, Nat.zero_mul]
    exact fan_pos _
  | succ r =>
    rw [hr] at a
    rw [show gs.length - 1 - (l.length + 1) = r by omega]
    have := Nat.mul_le_mul_right (fan r) a
    rw [show fan (r + 1) = 1 + 2 * (r + 1) * fan r from rfl]
    omega
end
end WT

set_option Elab.async false
set_option linter.all false
set_option maxRecDepth 100000
set_option maxHeartbeats 4000000
namespace K13
open PySem PySem.Spec PyProof.Rows L2 WT
abbrev st_paths : Stmt := top 22
theorem sc_paths : FnScope ["_law_world", "_law_one", "_law_other", "_law_barred", "_law_found", "_law_waiting", "_law_path", "_law_name", "_law_inside", "_law_kind", "_law_region"] ["_law_world", "_law_one", "_law_other", "_law_barred"] (defScope st_paths) := ⟨rfl, rfl, rfl, by decide +kernel, rfl, by decide +kernel, by decide +kernel⟩
def PathAt (one : Str) (H : Hp) (a : Addr) (l : List (Str × Str)) : Prop := H a = some (.tup (pathV one l))
theorem pair_unsnoc {α β : Type} {R : α → β → Prop} : ∀ {m : List β} {l : List α} {y : β}, Paired R l (m ++ [y]) → ∃ l' x, l = l' ++ [x] ∧ Paired R l' m ∧ R x y
  | [], _, _, .cons h .nil => ⟨[], _, rfl, .nil, h⟩
  | _ :: m, _, _, .cons h t => by
    obtain ⟨l', x, rfl, h1, h2⟩ := pair_unsnoc (m := m) t
    exact ⟨_ :: l', x, rfl, .cons h h1, h2⟩
section
variable {P : Program} {w : World} {K : PySem.W.Frag} {mg : Str → Option Value} {base : Heap} {f : Addr} {fd : FuncData}
/-- paths(world, one, other, barred): all paths in which nothing comes twice -/
def spPaths (K : PySem.W.Frag) : Sp := fun vs H Q _ => ∃ (wa r g ba : Addr) (as : List Addr) (rs : List Str) (gs : List Gt) (one other : Str) (bar : List Str) (f0 : Nat → Nat) (D : Nat), vs = [.ref wa, .str one, .str other, .ref ba] ∧ WorldAt H wa r g as rs gs ∧ SqT K H ba (bar.map V.str) ∧ one ∈ rs ∧ (∀ s ∈ rs, PyData.strOk s = true) ∧
  (∀ g ∈ gs, PyData.strOk g.1 = true ∧ g.2.1.length ≤ 100 ∧ ∀ y ∈ g.2.1, y ∈ rs) ∧ rs.length ≤ 100 ∧ (∀ n, 0 < f0 n) ∧ (∀ l, GoodP gs bar rs one l → weighF f0 D (kids gs bar one l) < weighF f0 D [l]) ∧ f0 D < sizeLine ∧
  ∀ (H' : Hp) (p : Addr) (ps : List Addr) (fs : List (List (Str × Str))), Same H H' → H p = none → H' p = some (.lst (ps.map V.ref)) → Paired (PathAt one H') ps fs → AllP gs bar rs one other fs → fs.length ≤ f0 D → Q (.ref p) H'
theorem ok_paths (F : Fun K "_law_paths" "_law_paths" st_paths f fd) : FnG P w K mg base CX0 1 f fd ["_law_world", "_law_one", "_law_other", "_law_barred"] (spPaths K) := by
  refine okG F sc_paths (fun vs H Q E h => ?_) (fun cdv A outer s H vs Q E hgd hr h => ?_)
  · obtain ⟨_, _, _, _, _, _, _, _, _, _, _, _, rfl, _⟩ := h
    rfl
  · obtain ⟨wa, r, g, ba, as, rs, gs, one, other, bar, f0, D, rfl, hw, hba, hone, hrok, hgs, hrl, hf0, hD, hMD, q⟩ := h
    refine ⟨_, (pss_cons (ps_par (by rfl) sc_paths.nd (i := 4) (j := 5) rfl rfl (by decide) rfl rfl (pa_cons (pe_lst pa_nil) (pa_cons (pe_lst (pa_cons (pe_tup (pa_cons (pv 1) pa_nil)) pa_nil)) pa_nil)) (by rfl))
      (pss_cons (ps_while PassesOwn.never (pt_cmpR (op_neD hr.units) (pv 5) (pe_lst pa_nil) (nomark _))
       (pss_cons (ps_set (i := 6) sc_paths.nd rfl (.inr rfl) (pe_bm0 PySem.F.plainAttrs_list PySem.F.slot_list_pop PySem.F.type_list_pop mt_pop (pv 5)))
       (pss_one (ps_if (pt_cmpR op_eq (pe_ix ix_tup (pv 6) (pe_un un_neg pe_int) (fun _ _ => rfl)) (pv 2) (nomark _))
        (pss_one (ps_expr (pe_bm PySem.F.plainAttrs_list PySem.F.slot_list_append PySem.F.type_list_append mt_append (pv 4) (pa_cons (pv 6) pa_nil))))
        (pss_one (ps_for PassesOwn.never rfl (pi_tup (pe_ix ix_tup (pv 0) pe_int (fun _ _ => rfl))) (pg_tup rfl (pgs_cons (pg_name (i := 7) sc_paths.nd rfl (.inr rfl)) (pgs_cons (pg_name (i := 8) sc_paths.nd rfl (.inl rfl)) (pgs_cons (pg_name (i := 9) sc_paths.nd rfl (.inl rfl)) pgs_nil))))
         (pss_one (ps_if (PW.pt (pw_and (pt_cmpR op_in_seq (pe_ix ix_tup (pv 6) (pe_un un_neg pe_int) (fun _ _ => rfl)) (pv 8) (by rfl)) (pw_and (pt_cmpR op_notIn_seq (pv 7) (pe_slice3 2 (by decide) (by decide) (pv 6) (po_some pe_int) po_none pe_int) (by rfl)) (pw_and1 (pt_cmpR op_notIn_seq (pv 7) (pv 3) (by rfl))))))
          (pss_one (ps_expr (pe_bm PySem.F.plainAttrs_list PySem.F.slot_list_extend PySem.F.type_list_extend mt_extend (pv 5) (pa_cons (pe_lc (own := [("_law_region", 10)]) (by rfl) sc_paths.nd (pi_tup (pv 8)) (blkOk_by (own := [("_law_region", 10)]) (N := ["_law_world", "_law_one", "_law_other", "_law_barred", "_law_found", "_law_waiting", "_law_path", "_law_name", "_law_inside", "_law_kind", "_law_region"]) (sc := defScope st_paths) (by decide +kernel)) (fun _ _ _ _ _ => (pg_name (i := 10) sc_paths.nd rfl (.inl rfl))) (fun _ _ _ _ _ => (pts_one (pt_cmpR (op_notInK (K := K)) (pv 10) (pe_slice3K (K := K) 2 (by decide) (by decide) (pv 6) po_none po_none pe_int) (by rfl)))) (fun _ _ _ _ _ => (pe_op (op_catTK (K := K)) (pv 6) (pe_tup (pa_cons (pv 7) (pa_cons (pv 10) pa_nil)))))) pa_nil))))
          pss_nil))))))))
      (pss_one (ps_ret (pv 4))))), ?_⟩
    have hlen := Paired.length hw.each
    have hm : ∀ g ∈ gs, ∀ z ∈ g.2.1, z ∈ rs := fun g hg => (hgs g hg).2.2
    have okP : ∀ l : List (Str × Str), GoodP gs bar rs one l → ∀ s ∈ pathS one l, PyData.strOk s = true := fun l hl s hs => by
      unfold pathS at hs
      rcases List.mem_cons.mp hs with e | hs
      · rw [e]
        exact hrok one hone
      · obtain ⟨p, hp, hs⟩ := List.mem_flatMap.mp hs
        have hs : s = p.1 ∨ s = p.2 := by simpa using hs
        rcases hs with e | e
        · obtain ⟨z, hz⟩ := hl.path
          have : ∀ {x y : Str} {l : List (Str × Str)}, SPath gs bar x l y → ∀ p ∈ l, PyData.strOk p.1 = true := fun h => by
            induction h with
            | nil => intro p hp; cases hp
            | cons st _ ih =>
              obtain ⟨g, hg, e, _⟩ := st
              intro p hp
              rcases List.mem_cons.mp hp with e2 | hp
              · rw [e2]
                show PyData.strOk _ = true
                rw [← e]
                exact (hgs g hg).1
              · exact ih p hp
          rw [e]
          exact this hz p hp
        · rw [e]
          exact hrok _ (hl.sub _ (List.mem_map.mpr ⟨p, hp, rfl⟩))
    have plen : ∀ l : List (Str × Str), GoodP gs bar rs one l → (pathV one l).length ≤ 300 := fun l hl => by
      rw [pathV_len]
      have := hl.len hone
      omega
    -- found, waiting = [], [(one,)]
    refine ⟨(by show 0 ≤ sizeLine; decide), fun F nF => ?_⟩
    refine ⟨_, rfl, (by show 1 ≤ sizeLine; decide), fun t0 nt0 => ?_⟩
    refine ⟨(by show 1 ≤ sizeLine; decide), fun L nL => ?_⟩
    refine ⟨_, _, rfl, ?_⟩
    have z0 := same_new nF (o := .lst [])
    have z1 := same_new nt0 (o := .tup [.str one])
    have z2 := same_new nL (o := .lst [.ref t0])
    have nLH : H L = none := (z0.trans z1).free nL
    have hF2 := z2 _ _ (z1 _ _ (show (upd H F (.lst [])) F = some (.lst []) from upd_same))
    have nLF : L ≠ F := Ne.symm (ne_of_none (z1 _ _ (show (upd H F (.lst [])) F = some (.lst []) from upd_same)) nL)
    have ht2 := z2 _ _ (show upd (upd H F (.lst [])) t0 (.tup [.str one]) t0 = some (.tup [.str one]) from upd_same)
    refine ⟨fun m σ H' => ∃ (ws ps : List Addr) (ls fs : List (List (Str × Str))) (v6 v7 v8 v9 : Option V), σ = [some (.ref wa), some (.str one), some (.str other), some (.ref ba), some (.ref F), some (.ref L), v6, v7, v8, v9, none] ∧ m = weighF f0 D ls ∧ Same H H' ∧
        H' L = some (.lst (ws.map V.ref)) ∧ H' F = some (.lst (ps.map V.ref)) ∧ Paired (PathAt one H') ws ls ∧ Paired (PathAt one H') ps fs ∧ SrchF gs bar rs one other f0 D ls fs,
      ⟨_, [t0], [], [[]], [], none, none, none, none, rfl, rfl, z0.trans (z1.trans z2), upd_same, hF2, .cons ht2 .nil, .nil, .first f0 D⟩, fun m σ H' hW => ?_⟩
    obtain ⟨ws, ps, ls, fs, v6, v7, v8, v9, rfl, rfl, sm, hL, hF, pw, pf, S⟩ := hW
    have bnd := S.wt
    have wge := weighF_ge f0 hf0 D ls
    have lws := Paired.length pw
    have lps := Paired.length pf
    -- while waiting != []
    refine ⟨_, rfl, (by show 0 ≤ sizeLine; decide), fun e ne => ?_⟩
    have z3 := same_new ne (o := .lst [])
    have hL3 := z3 _ _ hL
    have hF3 := z3 _ _ hF
    have pw3 : Paired (PathAt one (upd H' e (.lst []))) ws ls := Paired.mapP pw fun _ _ h => z3 _ _ h
    have pf3 : Paired (PathAt one (upd H' e (.lst []))) ps fs := Paired.mapP pf fun _ _ h => z3 _ _ h
    refine ⟨_, _, .lst (SqL.of hL3) (dp_paths pw3), .lst (SqL.of upd_same) .nil, ?_, shaped_nil, _, rfl, ?_⟩
    · have := shaped_tups (ls.map (pathS one)) fun ts hts => by
        obtain ⟨l, hl, rfl⟩ := List.mem_map.mp hts
        exact okP l (S.wait l hl)
      rw [List.map_map] at this
      exact this
    rw [eqv_nilD]
    have sm3 := sm.trans z3
    generalize upd H' e (.lst []) = H3 at hL3 hF3 pw3 pf3 sm3 ⊢
    rcases List.eq_nil_or_concat ls with rfl | ⟨li, l, hli⟩
    · refine iteF ⟨_, rfl, ?_⟩
      obtain ⟨a1, a2⟩ := S.done
      exact q _ F ps fs sm3 nF hF3 pf3 a1 a2
    · rw [List.concat_eq_append] at hli
      subst hli
      have gl := S.wait l (by simp)
      obtain ⟨wi, t, rfl, pwi, ht⟩ := pair_unsnoc pw3
      refine ifT (by simp) ?_
      refine ⟨fun σ' H2 => ∃ (ws ps : List Addr) (ls' fs : List (List (Str × Str))) (v6 v7 v8 v9 : Option V), σ' = [some (.ref wa), some (.str one), some (.str other), some (.ref ba), some (.ref F), some (.ref L), v6, v7, v8, v9, none] ∧ weighF f0 D ls' < weighF f0 D (li ++ [l]) ∧ Same H H2 ∧
          H2 L = some (.lst (ws.map V.ref)) ∧ H2 F = some (.lst (ps.map V.ref)) ∧ Paired (PathAt one H2) ws ls' ∧ Paired (PathAt one H2) ps fs ∧ SrchF gs bar rs one other f0 D ls' fs,
        fun σ' H2 ⟨ws, ps, ls', fs, v6, v7, v8, v9, h1, h2, h3⟩ => ⟨_, h2, ws, ps, ls', fs, v6, v7, v8, v9, h1, rfl, h3⟩, ?_⟩
      -- path = waiting.pop()
      refine ⟨_, rfl, .inl ⟨rfl, _, SqL.of hL3⟩, L, _, .ref t, rfl, rfl, hL3, ?_, ?_⟩
      · rw [List.map_append]
        simp
      have dl : ((wi ++ [t]).map V.ref).dropLast = wi.map V.ref := by
        rw [List.map_append]
        simp
      rw [dl]
      have keep4 : ∀ (c : Addr) (xs : List V) (o : HO), H3 c = some (.tup xs) → upd H3 L o c = some (.tup xs) := fun c xs o ec => by
        rw [upd_ne (ne_of ec hL3 (by intro z; cases z))]
        exact ec
      have sm4 : Same H (upd H3 L (.lst (wi.map V.ref))) := fun c o ec => by
        rw [upd_ne (ne_of_none ec nLH)]
        exact sm3 _ _ ec
      have hL4 : upd H3 L (.lst (wi.map V.ref)) L = some (.lst (wi.map V.ref)) := upd_same
      have hF4 : upd H3 L (.lst (wi.map V.ref)) F = some (.lst (ps.map V.ref)) := by
        rw [upd_ne (Ne.symm nLF)]
        exact hF3
      have pwi4 : Paired (PathAt one (upd H3 L (.lst (wi.map V.ref)))) wi li := Paired.mapP pwi fun _ _ h => keep4 _ _ _ h
      have pf4 : Paired (PathAt one (upd H3 L (.lst (wi.map V.ref)))) ps fs := Paired.mapP pf3 fun _ _ h => keep4 _ _ _ h
      have ht4 : PathAt one (upd H3 L (.lst (wi.map V.ref))) t l := keep4 _ _ _ ht
      generalize upd H3 L (.lst (wi.map V.ref)) = H4 at sm4 hL4 hF4 pwi4 pf4 ht4 ⊢
      clear keep4 dl
      -- if path[-1] == other
      refine ⟨_, rfl, 1, rfl, t, _, -1, .str (lastOf one l), rfl, rfl, SqT.of ht4, pathV_last one l, _, rfl, rfl, _, rfl, ?_⟩
      by_cases c : lastOf one l = other
      · refine ifT (by simp [c]) ?_
        have S2 := S.take hf0 c
        have bnd2 := S2.wt
        rw [List.length_append, List.length_singleton] at bnd2
        refine ⟨_, rfl, .inl ⟨rfl, _, SqL.of hF4⟩, _, rfl, F, _, _, rfl, rfl, hF4, ?_, ?_⟩
        · rw [List.length_map, lps]
          omega
        have keep5 : ∀ (c : Addr) (xs : List V) (o : HO), H4 c = some (.tup xs) → upd H4 F o c = some (.tup xs) := fun c xs o ec => by
          rw [upd_ne (ne_of ec hF4 (by intro z; cases z))]
          exact ec
        refine ⟨wi, ps ++ [t], li, fs ++ [l], _, _, _, _, rfl, ?_, fun d o ed => ?_, ?_, ?_, Paired.mapP pwi4 fun _ _ h => keep5 _ _ _ h, pair_snoc (Paired.mapP pf4 fun _ _ h => keep5 _ _ _ h) (keep5 _ _ _ ht4), S2⟩
        · rw [weighF_app]
          have := weighF_ge f0 hf0 D [l]
          simp only [List.length_singleton] at this
          omega
        · rw [upd_ne (ne_of_none ed nF)]
          exact sm4 _ _ ed
        · rw [upd_ne nLF]
          exact hL4
        · rw [upd_same, List.map_append]
          rfl
      · refine ifF (by simp [c]) ?_
        have hw4 := hw.same sm4
        obtain ⟨S2, wlt⟩ := S.grow hm (hD l gl) c
        have kl : ∀ j, ((gs.take j).flatMap (kidsOf bar one l)).length ≤ (kids gs bar one l).length := fun j => by
          unfold kids
          conv => rhs; rw [← List.take_append_drop j gs, List.flatMap_append, List.length_append]
          exact Nat.le_add_right _ _
        have bnd2 := S2.wt
        have wge2 := weighF_ge f0 hf0 D (li ++ kids gs bar one l)
        rw [List.length_append] at wge2
        -- for name, inside, kind in world[1]
        refine ⟨_, rfl, wa, _, 1, .ref g, rfl, rfl, SqT.of hw4.top, atI_nat (j := 1) rfl, g, rfl, ⟨_, SqT.of hw4.gat⟩, for_it (walk_tup (xs := as.map V.ref))
          (fun j σ H2 => ∃ (us : List Addr) (v7 v8 v9 : Option V), σ = [some (.ref wa), some (.str one), some (.str other), some (.ref ba), some (.ref F), some (.ref L), some (.ref t), v7, v8, v9, none] ∧ Same H H2 ∧ H2 L = some (.lst ((wi ++ us).map V.ref)) ∧ H2 F = some (.lst (ps.map V.ref)) ∧ PathAt one H2 t l ∧
            Paired (PathAt one H2) wi li ∧ Paired (PathAt one H2) us ((gs.take j).flatMap (kidsOf bar one l)) ∧ Paired (PathAt one H2) ps fs)
          ⟨[], v7, v8, v9, rfl, sm4, by rw [List.append_nil]; exact hL4, hF4, ht4, pwi4, .nil, pf4⟩ (fun j σ H2 _ ⟨_, _, _, _, _, s', _⟩ => SqT.of (hw.same s').gat) (fun j v σ H5 H6 hj hP hY => ?_) (fun σ H5 hP => ?_)⟩
        · obtain ⟨us, u7, u8, u9, rfl, sm5, hL5, hF5, ht5, pwi5, pus5, pf5⟩ := hP
          obtain ⟨rfl, hv⟩ := hY
          rw [List.length_map] at hj
          rw [List.getElem?_map, List.getElem?_eq_getElem hj] at hv
          cases hv
          obtain ⟨gg, hgg, ia, e1, e2⟩ := pair_at (hw.same sm5).each (List.getElem?_eq_getElem hj)
          have ggm : gg ∈ gs := List.mem_of_getElem? hgg
          obtain ⟨gok, gl2, gsub⟩ := hgs gg ggm
          have stp : (gs.take (j + 1)).flatMap (kidsOf bar one l) = (gs.take j).flatMap (kidsOf bar one l) ++ kidsOf bar one l gg := by
            rw [List.take_add_one, hgg, List.flatMap_append]
            simp
          have klj := kl (j + 1)
          rw [stp, List.length_append] at klj
          have lus := Paired.length pus5
          have lwi := Paired.length pwi5
          have skip : kidsOf bar one l gg = [] → ∀ H7, Same H6 H7 → ∃ (us : List Addr) (v7 v8 v9 : Option V), [some (.ref wa), some (.str one), some (.str other), some (.ref ba), some (.ref F), some (.ref L), some (.ref t), some (.str gg.1), some (.ref ia), some (.str gg.2.2), none] = [some (.ref wa), some (.str one), some (.str other), some (.ref ba), some (.ref F), some (.ref L), some (.ref t), v7, v8, v9, none] ∧ Same H H7 ∧ H7 L = some (.lst ((wi ++ us).map V.ref)) ∧ H7 F = some (.lst (ps.map V.ref)) ∧ PathAt one H7 t l ∧
              Paired (PathAt one H7) wi li ∧ Paired (PathAt one H7) us ((gs.take (j + 1)).flatMap (kidsOf bar one l)) ∧ Paired (PathAt one H7) ps fs := fun hk H7 s7 => by
            refine ⟨us, _, _, _, rfl, sm5.trans s7, s7 _ _ hL5, s7 _ _ hF5, s7 _ _ ht5, Paired.mapP pwi5 fun _ _ h => s7 _ _ h, ?_, Paired.mapP pf5 fun _ _ h => s7 _ _ h⟩
            rw [stp, hk, List.append_nil]
            exact Paired.mapP pus5 fun _ _ h => s7 _ _ h
          refine ⟨_, [.str gg.1, .ref ia, .str gg.2.2], rfl, SqT.of e1, rfl, .str gg.1, _, rfl, .ref ia, _, rfl, .str gg.2.2, [], rfl, rfl, ?_⟩
          -- if path[-1] in inside and ..
          refine ⟨_, rfl, 1, rfl, t, _, -1, .str (lastOf one l), rfl, rfl, SqT.of ht5, pathV_last one l, _, rfl, ia, _, rfl, .inr (SqT.of e2), rfl, WT.flat_strs _, _, rfl, ?_⟩
          rw [inV_str]
          by_cases c1 : lastOf one l ∈ gg.2.1
          rotate_left
          · refine ifF (decide_eq_false c1) (ifF rfl (skip ?_ _ fun _ _ e => e))
            unfold kidsOf
            rw [if_neg fun z => c1 z.1]
          refine ifT (decide_eq_true c1) ?_
          -- name not in path[1::2]
          refine ⟨_, rfl, _, rfl, 1, rfl, t, _, rfl, rfl, SqT.of ht5, ?_, fun p1 n1 => ?_⟩
          · rw [step_odd, List.length_map, List.length_map]
            have := gl.len hone
            exact Nat.le_trans (show l.length ≤ 100 by omega) (by decide)
          have z6 := same_new n1 (o := .tup (stepL (pathV one l) (some 1) none 2))
          refine ⟨p1, (l.map (·.1)).map V.str, rfl, .inr (SqT.of (by rw [upd_same, step_odd])), rfl, WT.flat_strs _, _, rfl, ?_⟩
          rw [inV_str]
          by_cases c2 : gg.1 ∈ l.map (·.1)
          · refine ifF (by simp [c2]) (ifF rfl (skip ?_ _ z6))
            unfold kidsOf
            rw [if_neg fun z => z.2.1 c2]
          refine ifT (by simp [c2]) ?_
          -- name not in barred
          refine ⟨_, rfl, _, rfl, ba, _, rfl, .inr (sameT z6 (sameT sm5 hba)), rfl, WT.flat_strs _, _, rfl, ?_⟩
          rw [inV_str]
          by_cases c3 : gg.1 ∈ bar
          · refine ifF (by simp [c3]) (skip ?_ _ z6)
            unfold kidsOf
            rw [if_neg fun z => z.2.2 c3]
          refine ifT (by simp [c3]) ?_
          have kk : kidsOf bar one l gg = (gg.2.1.filter fun z => decide (z ∉ one :: l.map (·.2))).map fun z => l ++ [(gg.1, z)] := by
            unfold kidsOf
            rw [if_pos ⟨c1, c2, c3⟩]
          have sm6 := sm5.trans z6
          have hL6 := z6 _ _ hL5
          have hF6 := z6 _ _ hF5
          have ht6 : PathAt one _ t l := z6 _ _ ht5
          have e6 := z6 _ _ e2
          have pwi6 : Paired (PathAt one (upd H6 p1 (.tup (stepL (pathV one l) (some 1) none 2)))) wi li := Paired.mapP pwi5 fun _ _ h => z6 _ _ h
          have pus6 : Paired (PathAt one (upd H6 p1 (.tup (stepL (pathV one l) (some 1) none 2)))) us ((gs.take j).flatMap (kidsOf bar one l)) := Paired.mapP pus5 fun _ _ h => z6 _ _ h
          have pf6 : Paired (PathAt one (upd H6 p1 (.tup (stepL (pathV one l) (some 1) none 2)))) ps fs := Paired.mapP pf5 fun _ _ h => z6 _ _ h
          generalize upd H6 p1 (.tup (stepL (pathV one l) (some 1) none 2)) = H7 at sm6 hL6 hF6 ht6 e6 pwi6 pus6 pf6 ⊢
          -- waiting.extend([..])
          refine ⟨_, rfl, .inl ⟨rfl, _, SqL.of hL6⟩, _, rfl, ia, rfl, ⟨_, SqT.of e6⟩, fun N nN => lc_tup (K := K) (a := ia) (xs := gg.2.1.map V.str) (fun m H' => Same H7 H' ∧ ∃ us2 : List Addr, H' N = some (.lst (us2.map V.ref)) ∧ Paired (PathAt one H') us2 (((gg.2.1.take m).filter fun z => decide (z ∉ one :: l.map (·.2))).map fun z => l ++ [(gg.1, z)]))
            ⟨same_new nN, [], upd_same, .nil⟩ (fun m H' _ ⟨s', _⟩ => SqT.of (s' _ _ e6)) (fun m v H8 hm hP => ?_) fun H8 hP => ?_⟩
          · obtain ⟨s8, us2, hN, pu⟩ := hP
            rw [List.getElem?_map] at hm
            obtain ⟨y, hy, rfl⟩ := Option.map_eq_some_iff.mp hm
            have ht8 : PathAt one H8 t l := s8 _ _ ht6
            have hstp : (gg.2.1.take (m + 1)).filter (fun z => decide (z ∉ one :: l.map (·.2))) = (gg.2.1.take m).filter (fun z => decide (z ∉ one :: l.map (·.2))) ++ (if y ∈ one :: l.map (·.2) then [] else [y]) := by
              rw [List.take_add_one, hy, List.filter_append]
              by_cases c : y ∈ one :: l.map (·.2)
              · rw [if_pos c]
                simp only [Option.toList_some, List.filter_cons, decide_eq_false (fun z => z c : ¬ (y ∉ one :: l.map (·.2))), List.filter_nil]
                simp
              · rw [if_neg c]
                simp only [Option.toList_some, List.filter_cons, decide_eq_true (c : y ∉ one :: l.map (·.2)), List.filter_nil]
                simp
            refine ⟨rfl, _, rfl, _, rfl, t, _, rfl, rfl, SqT.of ht8, ?_, fun p2 n2 => ?_⟩
            · rw [step_even, List.length_map, List.length_cons, List.length_map]
              have := gl.len hone
              exact Nat.le_trans (show l.length + 1 ≤ 100 by omega) (by decide)
            have z9 := same_new n2 (o := .tup (stepL (pathV one l) none none 2))
            refine ⟨p2, (one :: l.map (·.2)).map V.str, rfl, .inr (SqT.of (by rw [upd_same, step_even])), rfl, WT.flat_strs _, _, rfl, ?_⟩
            rw [inV_str]
            by_cases c : y ∈ one :: l.map (·.2)
            · refine ifF (by rw [decide_eq_true c]; rfl) ⟨s8.trans z9, us2, z9 _ _ hN, ?_⟩
              rw [hstp, if_pos c, List.append_nil]
              exact Paired.mapP pu fun _ _ h => z9 _ _ h
            · refine ifT (by rw [decide_eq_false c]; rfl) ⟨_, rfl, _, rfl, _, rfl, (by show 2 ≤ sizeLine; decide), fun u nu => ?_⟩
              have z10 := same_new nu (o := .tup [.str gg.1, .str y])
              refine ⟨t, u, pathV one l, [.str gg.1, .str y], rfl, rfl, SqT.of (z10 _ _ (z9 _ _ ht8)), SqT.of upd_same, (by unfold pathV; simp), ?_, (fun z => nomatch z), fun _ d nd => ?_⟩
              · have := plen l gl
                exact Nat.le_trans (show (pathV one l).length + 2 ≤ 302 by omega) (by decide)
              have z11 := same_new nd (o := .tup (pathV one l ++ [.str gg.1, .str y]))
              have hd : upd (upd (upd H8 p2 (.tup (stepL (pathV one l) none none 2))) u (.tup [.str gg.1, .str y])) d (.tup (pathV one l ++ [.str gg.1, .str y])) d = some (.tup (pathV one l ++ [.str gg.1, .str y])) := upd_same
              have zz := z9.trans (z10.trans z11)
              generalize upd (upd (upd H8 p2 (.tup (stepL (pathV one l) none none 2))) u (.tup [.str gg.1, .str y])) d (.tup (pathV one l ++ [.str gg.1, .str y])) = H11 at zz hd ⊢
              have hN11 := zz _ _ hN
              have keepN : ∀ (c : Addr) (xs : List V) (o : HO), H11 c = some (.tup xs) → upd H11 N o c = some (.tup xs) := fun c xs o e => by
                rw [upd_ne (ne_of e hN11 (by intro z; cases z))]
                exact e
              refine ⟨_, hN11, ?_, ?_, us2 ++ [d], ?_, ?_⟩
              · have e := Paired.length pu
                rw [List.length_map] at e
                have l1 := List.length_filter_le (fun z => decide (z ∉ one :: l.map (·.2))) (gg.2.1.take m)
                have l2 : (gg.2.1.take m).length ≤ gg.2.1.length := by rw [List.length_take]; exact Nat.min_le_right _ _
                rw [List.length_map]
                exact Nat.lt_of_le_of_lt (show us2.length ≤ 100 by omega) (by decide)
              · intro c o ec
                rw [upd_ne (ne_of_none ec nN)]
                exact zz _ _ (s8 _ _ ec)
              · rw [upd_same, List.map_append]
                rfl
              · rw [hstp, if_neg c, List.map_append]
                refine pair_snoc (Paired.mapP pu fun c e h => keepN _ _ _ (zz _ _ h)) ?_
                unfold PathAt
                rw [pathV_snoc]
                exact keepN _ _ _ hd
          · obtain ⟨s8, us2, hN, pu⟩ := hP
            rw [List.length_map, List.take_length, ← kk] at pu
            have hL8 := s8 _ _ hL6
            have lu2 := Paired.length pu
            refine ⟨L, N, _, _, rfl, rfl, hL8, hN, ?_, ?_⟩
            · rw [List.length_map, List.length_map, List.length_append]
              omega
            have keepL : ∀ (c : Addr) (xs : List V) (o : HO), H8 c = some (.tup xs) → upd H8 L o c = some (.tup xs) := fun c xs o e => by
              rw [upd_ne (ne_of e hL8 (by intro z; cases z))]
              exact e
            refine ⟨us ++ us2, _, _, _, rfl, fun c o ec => ?_, ?_, ?_, keepL _ _ _ (s8 _ _ ht6), Paired.mapP pwi6 fun _ _ h => keepL _ _ _ (s8 _ _ h), ?_, Paired.mapP pf6 fun _ _ h => keepL _ _ _ (s8 _ _ h)⟩
            · rw [upd_ne (ne_of_none ec nLH)]
              exact s8 _ _ (sm6 _ _ ec)
            · rw [upd_same]
              simp
            · rw [upd_ne (Ne.symm nLF)]
              exact s8 _ _ hF6
            · rw [stp]
              exact pair_app (Paired.mapP pus6 fun _ _ h => keepL _ _ _ (s8 _ _ h)) (Paired.mapP pu fun _ _ h => keepL _ _ _ h)
        · obtain ⟨us, u7, u8, u9, rfl, sm5, hL5, hF5, ht5, pwi5, pus5, pf5⟩ := hP
          rw [List.length_map, hlen, List.take_length] at pus5
          exact ⟨wi ++ us, ps, _, fs, _, _, _, _, rfl, wlt, sm5, hL5, hF5, pair_app pwi5 pus5, pf5, S2⟩
end
end K13

set_option Elab.async false
set_option linter.all false
set_option maxRecDepth 100000
set_option maxHeartbeats 1000000
namespace K13
open PySem PySem.Spec PyProof.Rows L2 WT
abbrev st_wrapping : Stmt := top 23
theorem sc_wrapping : FnScope ["_law_world", "_law_name", "_law_inside", "_law_kind"] ["_law_world"] (defScope st_wrapping) := ⟨rfl, rfl, rfl, by decide +kernel, rfl, by decide +kernel, by decide +kernel⟩
section
variable {P : Program} {w : World} {K : PySem.W.Frag} {mg : Str → Option Value} {base : Heap} {f fG fW : Addr} {fd fdG fdW : FuncData}
/-- wrapping(world) -/
def spWrapping : Sp := fun vs H Q _ => ∃ (wa r g : Addr) (as : List Addr) (rs : List Str) (gs : List Gt), vs = [.ref wa] ∧ WorldAt H wa r g as rs gs ∧ gs.length ≤ 100 ∧
  ∀ (H' : Hp) (p : Addr), Same H H' → H p = none → H' p = some (.lst ((wrapsW gs).map V.str)) → Q (.ref p) H'
theorem ok_wrapping (F : Fun K "_law_wrapping" "_law_wrapping" st_wrapping f fd) : FnG P w K mg base CX0 1 f fd ["_law_world"] spWrapping := by
  refine okG F sc_wrapping (fun vs H Q E h => ?_) (fun cdv A outer s H vs Q E hgd hr h => ?_)
  · obtain ⟨_, _, _, _, _, _, rfl, _⟩ := h
    rfl
  · obtain ⟨wa, r, g, as, rs, gs, rfl, hw, hgl, q⟩ := h
    refine ⟨_, (pss_one (ps_ret (pe_lc (own := [("_law_name", 1), ("_law_inside", 2), ("_law_kind", 3)]) (by rfl) sc_wrapping.nd (pi_tup (pe_ix ix_tup (pv 0) pe_int (fun _ _ => rfl))) (blkOk_by (own := [("_law_name", 1), ("_law_inside", 2), ("_law_kind", 3)]) (N := ["_law_world", "_law_name", "_law_inside", "_law_kind"]) (sc := defScope st_wrapping) (by decide +kernel)) (fun _ _ _ _ _ => (pg_tupK (K := K) (n := 3) rfl (pgs_cons (pg_name (i := 1) sc_wrapping.nd rfl (.inl rfl)) (pgs_cons (pg_name (i := 2) sc_wrapping.nd rfl (.inl rfl)) (pgs_cons (pg_name (i := 3) sc_wrapping.nd rfl (.inl rfl)) pgs_nil))))) (fun _ _ _ _ _ => (pts_one (pt_cmpR op_eq (pv 3) pe_str (nomark _)))) (fun _ _ _ _ _ => (pv 1))))), ?_⟩
    have hlen := Paired.length hw.each
    refine ⟨_, rfl, wa, _, 1, .ref g, rfl, rfl, SqT.of hw.top, atI_nat (j := 1) rfl, g, rfl, ⟨_, SqT.of hw.gat⟩, fun N nN => lc_tup (K := K) (a := g) (xs := as.map V.ref) (fun m H' => Same H H' ∧ H' N = some (.lst ((wrapsW (gs.take m)).map V.str)))
      ⟨same_new nN, by rw [upd_same]; rfl⟩ (fun m H' _ ⟨s', _⟩ => SqT.of (s' _ _ hw.gat)) (fun m v H2 hm hP => ?_) fun H2 hP => ?_⟩
    · obtain ⟨s2, hN⟩ := hP
      rw [List.getElem?_map] at hm
      obtain ⟨t, ht, rfl⟩ := Option.map_eq_some_iff.mp hm
      obtain ⟨gg, hgg, ia, e1, e2⟩ := pair_at (hw.same s2).each ht
      have stp : wrapsW (gs.take (m + 1)) = wrapsW (gs.take m) ++ (if gg.2.2 = ("wrap" : Str) then [gg.1] else []) := by
        unfold wrapsW
        rw [List.take_add_one, hgg, List.filter_append, List.map_append]
        by_cases c : gg.2.2 = ("wrap" : Str)
        · rw [if_pos c]
          simp [c]
        · rw [if_neg c]
          simp [c]
      refine ⟨t, [.str gg.1, .ref ia, .str gg.2.2], rfl, SqT.of e1, rfl, .str gg.1, _, rfl, .ref ia, _, rfl, .str gg.2.2, [], rfl, rfl, rfl, _, rfl, rfl, _, rfl, ?_⟩
      by_cases c : gg.2.2 = ("wrap" : Str)
      · refine ifT (by simp [c]) ⟨_, rfl, _, hN, ?_, ?_, ?_⟩
        · have l1 : (wrapsW (gs.take m)).length ≤ gs.length := by
            unfold wrapsW
            rw [List.length_map]
            refine Nat.le_trans (List.length_filter_le _ _) ?_
            rw [List.length_take]
            exact Nat.min_le_right _ _
          rw [List.length_map]
          exact Nat.lt_of_le_of_lt (show (wrapsW (gs.take m)).length ≤ 100 by omega) (by decide)
        · intro c o ec
          rw [upd_ne (ne_of_none ec nN)]
          exact s2 _ _ ec
        · rw [upd_same, stp, if_pos c, List.map_append]
          rfl
      · refine ifF (by simp [c]) ⟨s2, ?_⟩
        rw [stp, if_neg c, List.append_nil]
        exact hN
    · obtain ⟨s2, hN⟩ := hP
      rw [List.length_map, hlen, List.take_length] at hN
      exact q _ N s2 nN hN
end
end K13

set_option Elab.async false
set_option linter.all false
set_option maxRecDepth 100000
set_option maxHeartbeats 4000000
namespace K13
open PySem PySem.Spec PyProof.Rows L2 WT
abbrev st_groups : Stmt := top 24
theorem sc_groups : FnScope ["_law_world", "_law_barred", "_law_group", "_law_turn", "_law_name", "_law_inside", "_law_kind", "_law_least", "_law_region", "_law_at", "_law_other"] ["_law_world", "_law_barred"] (defScope st_groups) := ⟨rfl, rfl, rfl, by decide +kernel, rfl, by decide +kernel, by decide +kernel⟩
theorem inV_int (x : Int) : ∀ xs : List Int, inV (.int x) (xs.map V.int) = decide (x ∈ xs)
  | [] => by simp [inV]
  | s :: ss => by
    have ih := inV_int x ss
    unfold inV at ih ⊢
    rw [List.map_cons, List.any_cons, ih]
    by_cases h : x = s
    · subst h
      simp [eqV]
    · have : ¬ s = x := fun z => h z.symm
      simp [eqV, h, this]
theorem flat_ints : ∀ xs : List Int, (xs.map V.int).all flatV = true
  | [] => rfl
  | _ :: xs => by
    rw [List.map_cons, List.all_cons, flat_ints xs]
    rfl
theorem kvs_keys (rs : List Str) (lab : Str → Int) : (labK rs lab).map (fun kv => kV kv.1) = rs.map V.str := by
  unfold labK
  rw [List.map_map]
  rfl
theorem kvs_len (rs : List Str) (lab : Str → Int) : (labK rs lab).length = rs.length := by
  unfold labK
  rw [List.length_map]
theorem dget_lab {H : Hp} {d : Addr} {rs : List Str} {lab : Str → Int} {x : Str} (h : H d = some (.dK (labK rs lab))) (hx : x ∈ rs) : DGet H d (.str x) (some (.int (lab x))) := by
  rw [← val_labK (lab := lab) hx]
  exact DGet.k (k := Sum.inr x) h
section
variable {P : Program} {w : World} {K : PySem.W.Frag} {mg : Str → Option Value} {base : Heap} {f : Addr} {fd : FuncData}
/-- groups(world, barred): a label for each region, equal ones exactly where they are connected -/
def spGroups (K : PySem.W.Frag) : Sp := fun vs H Q _ => ∃ (wa r g ba : Addr) (as : List Addr) (rs : List Str) (gs : List Gt) (bar : List Str), vs = [.ref wa, .ref ba] ∧ WorldAt H wa r g as rs gs ∧ SqT K H ba (bar.map V.str) ∧ rs.Nodup ∧ rs.length ≤ 100 ∧
  (∀ g ∈ gs, g.2.1 ≠ [] ∧ g.2.1.length ≤ 100 ∧ ∀ y ∈ g.2.1, y ∈ rs) ∧ ∀ (H' : Hp) (d : Addr) (lab : Str → Int), Same H H' → H' d = some (.dK (labK rs lab)) → (∀ x ∈ rs, ∀ y ∈ rs, lab x = lab y ↔ Conn gs bar x y) → Q (.ref d) H'
theorem ok_groups (F : Fun K "_law_groups" "_law_groups" st_groups f fd) (B : Blt mg) : FnG P w K mg base CX0 1 f fd ["_law_world", "_law_barred"] (spGroups K) := by
  refine okG F sc_groups (fun vs H Q E h => ?_) (fun cdv A outer s H vs Q E hgd hr h => ?_)
  · obtain ⟨_, _, _, _, _, _, _, _, rfl, _⟩ := h
    rfl
  · obtain ⟨wa, r, g, ba, as, rs, gs, bar, rfl, hw, hba, nd, hrl, hgs, q⟩ := h
    refine ⟨_, (pss_cons (ps_set (i := 2) sc_groups.nd rfl (.inr rfl) (pe_callTy (call_dictP rfl) (by rfl) B.dict (by decide +kernel) (pa_cons (pe_lc (own := [("_law_at", 9), ("_law_region", 8)]) (by rfl) sc_groups.nd (pi_enumT (by rfl) B.enumerate (pa_cons (pe_ix ix_tup (pv 0) pe_int (fun _ _ => rfl)) pa_nil)) (blkOk_by (own := [("_law_at", 9), ("_law_region", 8)]) (N := ["_law_world", "_law_barred", "_law_group", "_law_turn", "_law_name", "_law_inside", "_law_kind", "_law_least", "_law_region", "_law_at", "_law_other"]) (sc := defScope st_groups) (by decide +kernel)) (fun _ _ _ _ _ => (pg_tupK (K := K) (n := 2) rfl (pgs_cons (pg_name (i := 9) sc_groups.nd rfl (.inl rfl)) (pgs_cons (pg_name (i := 8) sc_groups.nd rfl (.inl rfl)) pgs_nil)))) (fun _ _ _ _ _ => pts_nil) (fun _ _ _ _ _ => (pe_tup (pa_cons (pv 8) (pa_cons (pv 9) pa_nil))))) pa_nil)))
      (pss_cons (ps_for PassesOwn.never rfl (pi_tup (pe_ix ix_tup (pv 0) pe_int (fun _ _ => rfl))) (pg_name (i := 3) sc_groups.nd rfl (.inl rfl))
       (pss_one (ps_for PassesOwn.never rfl (pi_tup (pe_ix ix_tup (pv 0) pe_int (fun _ _ => rfl))) (pg_tup rfl (pgs_cons (pg_name (i := 4) sc_groups.nd rfl (.inl rfl)) (pgs_cons (pg_name (i := 5) sc_groups.nd rfl (.inl rfl)) (pgs_cons (pg_name (i := 6) sc_groups.nd rfl (.inl rfl)) pgs_nil))))
        (pss_one (ps_if (pt_cmpR op_notIn_seq (pv 4) (pv 1) (by rfl))
         (pss_cons (ps_set (i := 7) sc_groups.nd rfl (.inl rfl) (pe_callB (cr_min rfl) (by rfl) B.min (by decide +kernel) (pa_cons (pe_lc (own := [("_law_region", 8)]) (by rfl) sc_groups.nd (pi_tup (pv 5)) (blkOk_by (own := [("_law_region", 8)]) (N := ["_law_world", "_law_barred", "_law_group", "_law_turn", "_law_name", "_law_inside", "_law_kind", "_law_least", "_law_region", "_law_at", "_law_other"]) (sc := defScope st_groups) (by decide +kernel)) (fun _ _ _ _ _ => (pg_name (i := 8) sc_groups.nd rfl (.inl rfl))) (fun _ _ _ _ _ => pts_nil) (fun _ _ _ _ _ => (pe_dget (hu_of hr) (pv 2) (pv 8) (fun _ _ => rfl)))) pa_nil)))
         (pss_one (ps_for PassesOwn.never rfl (pi_list (pe_callTy (call_list_dK rfl) (by rfl) B.list (by decide +kernel) (pa_cons (pv 2) pa_nil))) (pg_name (i := 8) sc_groups.nd rfl (.inl rfl))
          (pss_one (ps_if (pt_cmpR op_in_seq (pe_dget (hu_of hr) (pv 2) (pv 8) (fun _ _ => rfl)) (pe_lc (own := [("_law_other", 10)]) (by rfl) sc_groups.nd (pi_tup (pv 5)) (blkOk_by (own := [("_law_other", 10)]) (N := ["_law_world", "_law_barred", "_law_group", "_law_turn", "_law_name", "_law_inside", "_law_kind", "_law_least", "_law_region", "_law_at", "_law_other"]) (sc := defScope st_groups) (by decide +kernel)) (fun _ _ _ _ _ => (pg_name (i := 10) sc_groups.nd rfl (.inl rfl))) (fun _ _ _ _ _ => pts_nil) (fun _ _ _ _ _ => (pe_dget (hu_of hr) (pv 2) (pv 10) (fun _ _ => rfl)))) (by rfl))
           (pss_one (ps_dput (hu_of hr) (pv 2) (pv 8) (pv 7) rfl))
           pss_nil)))))
         pss_nil)))))
      (pss_one (ps_ret (pv 2))))), ?_⟩
    refine ⟨_, rfl, wa, _, 0, .ref r, rfl, rfl, SqT.of hw.top, atI_nat (j := 0) rfl, r, _, rfl, SqT.of hw.reg, fun D nD => ?_⟩
    have z0 := same_new nD (o := .lst [])
    have hmem : ∀ g ∈ gs, ∀ z ∈ g.2.1, z ∈ rs := fun g hg => (hgs g hg).2.2
    have hlen := Paired.length hw.each
    refine lc_it walk_enumT (fun j H' => ∃ ps : List Addr, Same H H' ∧ H' D = some (.lst (ps.map V.ref)) ∧ Paired (fun p (kv : Key × V) => H' p = some (.tup [kV kv.1, kv.2])) ps (labK (rs.take j) (idxS rs)))
      ⟨[], z0, upd_same, .nil⟩ (fun j H' _ ⟨_, sm, _⟩ => SqT.of (sm _ _ hw.reg)) (fun j x H2 H3 hj hP hY => ?_) fun H2 hP => ?_
    · obtain ⟨ps, sm, hD, prs⟩ := hP
      obtain ⟨T, x', y, rfl, nT, rfl, e1, e2⟩ := hY
      cases e1
      rw [List.length_map] at hj
      have e2 : (rs.map V.str)[j]? = some y := e2
      rw [List.getElem?_map, List.getElem?_eq_getElem hj] at e2
      cases e2
      have zT := same_new nT (o := .tup [.int ((j : Nat) : Int), .str rs[j]])
      refine ⟨T, _, rfl, SqT.of upd_same, rfl, _, _, rfl, _, [], rfl, rfl, rfl, _, rfl, _, rfl, (by show 2 ≤ sizeLine; decide), fun t nt => ?_⟩
      have zt := same_new nt (o := .tup [.str rs[j], .int ((j : Nat) : Int)])
      have hD2 := zt _ _ (zT _ _ hD)
      have hpl := Paired.length prs
      rw [kvs_len, List.length_take] at hpl
      refine ⟨_, hD2, ?_, ps ++ [t], ?_, ?_, ?_⟩
      · rw [List.length_map]
        exact Nat.lt_of_le_of_lt (show ps.length ≤ 100 by omega) (by decide)
      · intro c o ec
        rw [upd_ne (ne_of_none ec nD)]
        exact zt _ _ (zT _ _ (sm _ _ ec))
      · rw [upd_same, List.map_append]
        rfl
      · have keepD : ∀ (c : Addr) (xs : List V) (o : HO), upd (upd H2 T (.tup [.int ((j : Nat) : Int), .str rs[j]])) t (.tup [.str rs[j], .int ((j : Nat) : Int)]) c = some (.tup xs) → upd (upd (upd H2 T (.tup [.int ((j : Nat) : Int), .str rs[j]])) t (.tup [.str rs[j], .int ((j : Nat) : Int)])) D o c = some (.tup xs) := fun c xs o e => by
          rw [upd_ne (ne_of e hD2 (by intro z; cases z))]
          exact e
        have st : labK (rs.take (j + 1)) (idxS rs) = labK (rs.take j) (idxS rs) ++ [(Sum.inr rs[j], .int ((j : Nat) : Int))] := by
          rw [List.take_add_one, List.getElem?_eq_getElem hj]
          unfold labK
          rw [List.map_append, ← idxS_at nd (List.getElem?_eq_getElem hj)]
          rfl
        rw [st]
        exact pair_snoc (Paired.mapP prs fun _ _ z => keepD _ _ _ (zt _ _ (zT _ _ z))) (keepD _ _ _ upd_same)
    · obtain ⟨ps, sm, hD, prs⟩ := hP
      rw [List.length_map, List.take_length] at prs
      refine ⟨D, ps, _, rfl, SqL.of hD, Paired.mapP prs (fun _ _ z => SqT.of z), fun d nd' => ?_⟩
      rw [show mergeK [] (labK rs (idxS rs)) = labK rs (idxS rs) from merge_labK rs [] nd]
      have ndH : H d = none := sm.free nd'
      have sm1 := sm.trans (same_new nd' (o := .dK (labK rs (idxS rs))))
      -- for turn in the regions
      refine ⟨_, rfl, wa, _, 0, .ref r, rfl, rfl, SqT.of (hw.same sm1).top, atI_nat (j := 0) rfl, r, rfl, ⟨_, SqT.of (hw.same sm1).reg⟩, for_it (walk_tup (xs := rs.map V.str))
        (fun t σ H' => ∃ (lab : Str → Int) (v3 v4 v5 v6 v7 v8 : Option V), σ = [some (.ref wa), some (.ref ba), some (.ref d), v3, v4, v5, v6, v7, v8, none, none] ∧ Same H H' ∧ H' d = some (.dK (labK rs lab)) ∧ Lab gs bar rs lab ∧ LowL gs bar rs t lab)
        ⟨idxS rs, none, none, none, none, none, none, rfl, sm1, upd_same, lab_first nd, low_first nd⟩ (fun t σ H' _ ⟨_, _, _, _, _, _, _, _, s', _⟩ => SqT.of (hw.same s').reg) (fun t v σ H3 H4 ht hP hY => ?_) (fun σ H3 hP => ?_)⟩
      · obtain ⟨lab, v3, v4, v5, v6, v7, v8, rfl, sm3, hd3, L3, W3⟩ := hP
        obtain ⟨rfl, _⟩ := hY
        refine ⟨_, rfl, wa, _, 1, .ref g, rfl, rfl, SqT.of (hw.same sm3).top, atI_nat (j := 1) rfl, g, rfl, ⟨_, SqT.of (hw.same sm3).gat⟩, for_it (walk_tup (xs := as.map V.ref))
          (fun j σ H' => ∃ (lab2 : Str → Int) (v4 v5 v6 v7 v8 : Option V), σ = [some (.ref wa), some (.ref ba), some (.ref d), some v, v4, v5, v6, v7, v8, none, none] ∧ Same H H' ∧ H' d = some (.dK (labK rs lab2)) ∧ Pass gs bar rs lab j lab2)
          ⟨lab, v4, v5, v6, v7, v8, rfl, sm3, hd3, pass_first L3⟩ (fun j σ H' _ ⟨_, _, _, _, _, _, _, s', _⟩ => SqT.of (hw.same s').gat) (fun j u σ H5 H6 hj hP hY => ?_) (fun σ H5 hP => ?_)⟩
        · obtain ⟨lab2, v4, v5, v6, v7, v8, rfl, sm5, hd5, P5⟩ := hP
          obtain ⟨rfl, hu⟩ := hY
          rw [List.length_map] at hj
          rw [List.getElem?_map, List.getElem?_eq_getElem hj] at hu
          cases hu
          have hj2 : j < gs.length := by omega
          obtain ⟨gg, hgg, ia, e1, e2⟩ := pair_at (hw.same sm5).each (List.getElem?_eq_getElem hj)
          have ggm : gg ∈ gs := List.mem_of_getElem? hgg
          obtain ⟨gne, gl, gsub⟩ := hgs gg ggm
          refine ⟨_, [.str gg.1, .ref ia, .str gg.2.2], rfl, SqT.of e1, rfl, .str gg.1, _, rfl, .ref ia, _, rfl, .str gg.2.2, [], rfl, rfl, ?_⟩
          refine ⟨_, rfl, _, rfl, ba, _, rfl, .inr (sameT sm5 hba), rfl, WT.flat_strs _, _, rfl, ?_⟩
          rw [inV_str]
          by_cases c1 : gg.1 ∈ bar
          · rw [decide_eq_true c1]
            exact iteF ⟨lab2, _, _, _, _, _, rfl, sm5, hd5, P5.skip hgg c1⟩
          · rw [decide_eq_false c1]
            refine iteT ?_
            -- least = min of the members' labels
            refine ⟨_, rfl, ia, rfl, ⟨_, SqT.of e2⟩, fun L nL => lc_tup (K := K) (a := ia) (xs := gg.2.1.map V.str) (fun m H' => Same H6 H' ∧ H' L = some (.lst ((gg.2.1.take m).map fun y => V.int (lab2 y))))
              ⟨same_new nL, upd_same⟩ (fun m H' _ ⟨s', _⟩ => SqT.of (s' _ _ e2)) (fun m v H7 hm hP => ?_) fun H7 hP => ?_⟩
            · obtain ⟨s7, hL⟩ := hP
              rw [List.getElem?_map] at hm
              obtain ⟨y, hy, rfl⟩ := Option.map_eq_some_iff.mp hm
              refine ⟨rfl, _, rfl, _, rfl, d, .int (lab2 y), rfl, dget_lab (s7 _ _ hd5) (gsub y (List.mem_of_getElem? hy)), _, hL, ?_, ?_, ?_⟩
              · rw [List.length_map, List.length_take]
                exact Nat.lt_of_le_of_lt (show min m gg.2.1.length ≤ 100 by omega) (by decide)
              · intro c o ec
                rw [upd_ne (ne_of_none ec nL)]
                exact s7 _ _ ec
              · rw [upd_same, List.take_add_one, hy, List.map_append]
                rfl
            · obtain ⟨s7, hL⟩ := hP
              rw [List.length_map, List.take_length] at hL
              refine ⟨L, gg.2.1.map lab2, rfl, SqL.of (by rw [hL, List.map_map]; rfl), by rw [List.length_map]; exact List.length_pos_iff.mpr gne, fun least hm1 hm2 => ?_⟩
              obtain ⟨m0, hm0, e0⟩ := List.mem_map.mp hm1
              have hlow : ∀ m ∈ gg.2.1, least ≤ lab2 m := fun m hm => hm2 _ (List.mem_map.mpr ⟨m, hm, rfl⟩)
              have hd7 := s7 _ _ hd5
              have sm7 := sm5.trans s7
              -- for region in list(group)
              refine ⟨_, rfl, d, _, rfl, hd7, fun l nl => ?_⟩
              rw [kvs_keys]
              have zl := same_new nl (o := .lst (rs.map V.str))
              have nlH : H l = none := sm7.free nl
              have nld : l ≠ d := Ne.symm (ne_of_none hd7 nl)
              refine ⟨l, rfl, ⟨_, SqL.of upd_same⟩, for_it (walk_list (xs := rs.map V.str))
                (fun i σ H' => ∃ (lab3 : Str → Int) (v8 : Option V), σ = [some (.ref wa), some (.ref ba), some (.ref d), some v, some (.str gg.1), some (.ref ia), some (.str gg.2.2), some (.int least), v8, none, none] ∧ Same H H' ∧ H' l = some (.lst (rs.map V.str)) ∧ H' d = some (.dK (labK rs lab3)) ∧ Mid gs bar rs gg.2.1 lab2 least i lab3)
                ⟨lab2, v8, rfl, sm7.trans zl, upd_same, zl _ _ hd7, ⟨P5.lb, fun _ _ => Int.le_refl _, hlow, fun m _ h => nomatch h⟩⟩ (fun i σ H' _ ⟨_, _, _, _, h, _⟩ => SqL.of h) (fun i u σ H8 H9 hi hP hY => ?_) (fun σ H8 hP => ?_)⟩
              · obtain ⟨lab3, w8, rfl, sm8, hl8, hd8, M8⟩ := hP
                obtain ⟨rfl, hu⟩ := hY
                rw [List.getElem?_map] at hu
                obtain ⟨x, hx, rfl⟩ := Option.map_eq_some_iff.mp hu
                have xr : x ∈ rs := List.mem_of_getElem? hx
                have e28 := (hw.same sm8)
                have e2h : H9 ia = some (.tup (gg.2.1.map V.str)) := by
                  obtain ⟨g8, hg8, i8, e18, e28⟩ := pair_at (hw.same sm8).each (List.getElem?_eq_getElem hj)
                  rw [hgg] at hg8
                  cases hg8
                  obtain ⟨g9, hg9, i9, f1, f2⟩ := pair_at hw.each (List.getElem?_eq_getElem hj)
                  rw [hgg] at hg9
                  cases hg9
                  have a1 := sm5 _ _ f1
                  rw [e1] at a1
                  have : ia = i9 := by
                    simp at a1
                    exact a1
                  rw [this]
                  exact sm8 _ _ f2
                -- if group[region] in [group[other] for other in inside]
                refine ⟨_, rfl, _, rfl, d, .int (lab3 x), rfl, dget_lab hd8 xr, ?_⟩
                refine ⟨_, rfl, ia, rfl, ⟨_, SqT.of e2h⟩, fun L2 nL2 => lc_tup (K := K) (a := ia) (xs := gg.2.1.map V.str) (fun m H' => Same H9 H' ∧ H' L2 = some (.lst ((gg.2.1.take m).map fun y => V.int (lab3 y))))
                  ⟨same_new nL2, upd_same⟩ (fun m H' _ ⟨s', _⟩ => SqT.of (s' _ _ e2h)) (fun m v H10 hm hP => ?_) fun H10 hP => ?_⟩
                · obtain ⟨s10, hL⟩ := hP
                  rw [List.getElem?_map] at hm
                  obtain ⟨y, hy, rfl⟩ := Option.map_eq_some_iff.mp hm
                  refine ⟨rfl, _, rfl, _, rfl, d, .int (lab3 y), rfl, dget_lab (s10 _ _ hd8) (gsub y (List.mem_of_getElem? hy)), _, hL, ?_, ?_, ?_⟩
                  · rw [List.length_map, List.length_take]
                    exact Nat.lt_of_le_of_lt (show min m gg.2.1.length ≤ 100 by omega) (by decide)
                  · intro c o ec
                    rw [upd_ne (ne_of_none ec nL2)]
                    exact s10 _ _ ec
                  · rw [upd_same, List.take_add_one, hy, List.map_append]
                    rfl
                · obtain ⟨s10, hL⟩ := hP
                  rw [List.length_map, List.take_length] at hL
                  have hL' : H10 L2 = some (.lst ((gg.2.1.map lab3).map V.int)) := by
                    rw [hL, List.map_map]
                    rfl
                  refine ⟨L2, _, rfl, .inl (SqL.of hL'), rfl, flat_ints _, _, rfl, ?_⟩
                  rw [inV_int]
                  have sm10 := sm8.trans s10
                  have hd10 := s10 _ _ hd8
                  have hl10 := s10 _ _ hl8
                  by_cases c2 : lab3 x ∈ gg.2.1.map lab3
                  · rw [decide_eq_true c2]
                    obtain ⟨o, ho, eo⟩ := List.mem_map.mp c2
                    refine iteT ⟨_, rfl, _, rfl, _, rfl, d, _, rfl, DPut.k (k := Sum.inr x) hd10 ?_, ?_⟩
                    · rw [kvs_len]
                      exact Nat.lt_of_le_of_lt hrl (by decide)
                    · rw [put_labK xr]
                      refine ⟨_, _, rfl, ?_, ?_, upd_same, M8.hit gsub ggm c1 rfl P5.lb hm0 e0.symm hx ho eo.symm⟩
                      · intro c o ec
                        rw [upd_ne (ne_of_none ec ndH)]
                        exact sm10 _ _ ec
                      · rw [upd_ne nld]
                        exact hl10
                  · rw [decide_eq_false c2]
                    exact iteF ⟨lab3, _, rfl, sm10, hl10, hd10, M8.miss hx fun z => c2 (List.mem_map.mpr ⟨x, z, rfl⟩)⟩
              · obtain ⟨lab3, w8, rfl, sm8, hl8, hd8, M8⟩ := hP
                rw [List.length_map] at M8
                exact ⟨lab3, _, _, _, _, _, rfl, sm8, hd8, P5.take hmem hgg hlow M8⟩
        · obtain ⟨lab2, v4, v5, v6, v7, v8, rfl, sm5, hd5, P5⟩ := hP
          rw [List.length_map, hlen] at P5
          exact ⟨lab2, _, _, _, _, _, _, rfl, sm5, hd5, P5.lb, P5.low hmem W3⟩
      · obtain ⟨lab, v3, v4, v5, v6, v7, v8, rfl, sm3, hd3, L3, W3⟩ := hP
        rw [List.length_map] at W3
        exact ⟨_, rfl, q _ d lab sm3 hd3 fun x hx y hy => lab_iff hmem L3 W3 hx hy⟩
end
end K13

set_option Elab.async false
set_option linter.all false
set_option maxRecDepth 100000
set_option maxHeartbeats 4000000
namespace K13
open PySem PySem.Spec PyProof.Rows L2 WT
abbrev st_is_cycle : Stmt := top 25
theorem sc_is_cycle : FnScope ["_law_world", "_law_value", "_law_inside_of", "_law_at", "_law_pair", "_law_follower", "_law_name", "_law_inside", "_law_kind"] ["_law_world", "_law_value"] (defScope st_is_cycle) := ⟨rfl, rfl, rfl, by decide +kernel, rfl, by decide +kernel, by decide +kernel⟩
section
variable {P : Program} {w : World} {K : PySem.W.Frag} {mg : Str → Option Value} {base : Heap} {f : Addr} {fd : FuncData}
/-- the members of each gateway, by its name -/
def InsAt (H : Hp) : List (Key × V) → List Gt → Prop := Paired fun (kv : Key × V) (g : Gt) => kv.1 = Sum.inr g.1 ∧ ∃ ia, kv.2 = .ref ia ∧ H ia = some (.tup (g.2.1.map V.str))
theorem InsAt.get {H : Hp} {kvs : List (Key × V)} {gs : List Gt} {g : Gt} (h : InsAt H kvs gs) (hg : g ∈ gs) (nd : (gs.map (·.1)).Nodup) : ∃ ia, valV kvs (Sum.inr g.1) = some (.ref ia) ∧ H ia = some (.tup (g.2.1.map V.str)) := by
  unfold InsAt at h
  induction h with
  | nil => cases hg
  | @cons kv g0 kvs gs r t ih =>
    obtain ⟨n1, n2⟩ := List.nodup_cons.mp nd
    by_cases c : g0.1 = g.1
    · have e : g0 = g := by
        rcases List.mem_cons.mp hg with e | hg
        · exact e.symm
        · exact absurd (List.mem_map.mpr ⟨g, hg, c.symm⟩) n1
      obtain ⟨k1, ia, k2, k3⟩ := r
      rw [e] at k1 k3
      exact ⟨ia, by rw [valV_pos k1, k2], k3⟩
    · rcases List.mem_cons.mp hg with e | hg
      · exact absurd (by rw [e]) c
      · obtain ⟨k1, _⟩ := r
        rw [valV_neg fun z => c (Sum.inr.inj (k1.symm.trans z))]
        exact ih hg n2
/-- is_cycle of the law, of a cycle -/
def spOwnCyc : Sp := fun vs H Q _ => ∃ (wa r g : Addr) (as : List Addr) (rs : List Str) (gs : List Gt) (v : V) (c : List (Str × Str)), vs = [.ref wa, v] ∧ WHere H wa r g as rs gs ∧ CycRes H v (some c) ∧ IsCyc gs rs c ∧ rs.length < 64 ∧ ∀ H', Same H H' → Q (.bl true) H'
theorem ok_own_is_cycle (F : Fun K "_law_is_cycle" "_law_is_cycle" st_is_cycle f fd) (B : Blt mg) (hset : mg "set" = none) : FnG P w K mg base CX0 1 f fd ["_law_world", "_law_value"] spOwnCyc := by
  refine okG F sc_is_cycle (fun vs H Q E h => ?_) (fun cdv A outer s H vs Q E hgd hr h => ?_)
  · obtain ⟨_, _, _, _, _, _, _, _, rfl, _⟩ := h
    rfl
  · obtain ⟨wa, r, g, as, rs, gs, v, c, rfl, W, ⟨p, us, rfl, hp, hus⟩, C, few, q⟩ := h
    refine ⟨_, (pss_cons (ps_set (i := 2) sc_is_cycle.nd rfl (.inl rfl) (pe_callTy (call_dictP rfl) (by rfl) B.dict (by decide +kernel) (pa_cons (pe_lc (own := [("_law_name", 6), ("_law_inside", 7), ("_law_kind", 8)]) (by rfl) sc_is_cycle.nd (pi_tup (pe_ix ix_tup (pv 0) pe_int (fun _ _ => rfl))) (blkOk_by (own := [("_law_name", 6), ("_law_inside", 7), ("_law_kind", 8)]) (N := ["_law_world", "_law_value", "_law_inside_of", "_law_at", "_law_pair", "_law_follower", "_law_name", "_law_inside", "_law_kind"]) (sc := defScope st_is_cycle) (by decide +kernel)) (fun _ _ _ _ _ => (pg_tupK (K := K) (n := 3) rfl (pgs_cons (pg_name (i := 6) sc_is_cycle.nd rfl (.inl rfl)) (pgs_cons (pg_name (i := 7) sc_is_cycle.nd rfl (.inl rfl)) (pgs_cons (pg_name (i := 8) sc_is_cycle.nd rfl (.inl rfl)) pgs_nil))))) (fun _ _ _ _ _ => pts_nil) (fun _ _ _ _ _ => (pe_tup (pa_cons (pv 6) (pa_cons (pv 7) pa_nil))))) pa_nil)))
      (pss_cons (ps_if (PW.pt (pw_or (pt_cmpR op_lt (pe_lenSetS (K := K) (by rfl) (by rfl) B.len (by rfl) hset (pe_lc (own := [("_law_pair", 4)]) (by rfl) sc_is_cycle.nd (pi_tup (pv 1)) (blkOk_by (own := [("_law_pair", 4)]) (N := ["_law_world", "_law_value", "_law_inside_of", "_law_at", "_law_pair", "_law_follower", "_law_name", "_law_inside", "_law_kind"]) (sc := defScope st_is_cycle) (by decide +kernel)) (fun _ _ _ _ _ => (pg_name (i := 4) sc_is_cycle.nd rfl (.inl rfl))) (fun _ _ _ _ _ => pts_nil) (fun _ _ _ _ _ => (pe_ix (ix_tupK (K := K)) (pv 4) pe_int (fun _ _ => rfl))))) (pe_callB call_len (by rfl) B.len (by decide +kernel) (pa_cons (pv 1) pa_nil)) (nomark _)) (pw_or1 (pt_cmpR op_lt (pe_lenSetS (K := K) (by rfl) (by rfl) B.len (by rfl) hset (pe_lc (own := [("_law_pair", 4)]) (by rfl) sc_is_cycle.nd (pi_tup (pv 1)) (blkOk_by (own := [("_law_pair", 4)]) (N := ["_law_world", "_law_value", "_law_inside_of", "_law_at", "_law_pair", "_law_follower", "_law_name", "_law_inside", "_law_kind"]) (sc := defScope st_is_cycle) (by decide +kernel)) (fun _ _ _ _ _ => (pg_name (i := 4) sc_is_cycle.nd rfl (.inl rfl))) (fun _ _ _ _ _ => pts_nil) (fun _ _ _ _ _ => (pe_ix (ix_tupK (K := K)) (pv 4) pe_int (fun _ _ => rfl))))) (pe_callB call_len (by rfl) B.len (by decide +kernel) (pa_cons (pv 1) pa_nil)) (nomark _)))))
       (pss_one (ps_ret pe_bl))
       pss_nil)
      (pss_cons (ps_for PassesOwn.never rfl (pi_enumT (by rfl) B.enumerate (pa_cons (pv 1) pa_nil)) (pg_tup rfl (pgs_cons (pg_name (i := 3) sc_is_cycle.nd rfl (.inl rfl)) (pgs_cons (pg_name (i := 4) sc_is_cycle.nd rfl (.inl rfl)) pgs_nil)))
       (pss_cons (ps_set (i := 5) sc_is_cycle.nd rfl (.inl rfl) (pe_ix ix_tup (pe_ix ix_tup (pv 1) (pe_op op_mod (pe_op op_add (pv 3) pe_int) (pe_callB call_len (by rfl) B.len (by decide +kernel) (pa_cons (pv 1) pa_nil))) (fun _ _ => rfl)) pe_int (fun _ _ => rfl)))
       (pss_one (ps_if (PW.pt (pw_or (pt_cmp (pc_dnotin (hu_of hr) (pe_ix (ix_tupK (K := K)) (pv 4) pe_int (fun _ _ => rfl)) (pv 2))) (pw_or (pt_cmpR op_notIn_seq (pe_ix (ix_tupK (K := K)) (pv 4) pe_int (fun _ _ => rfl)) (pe_dget (hu_of hr) (pv 2) (pe_ix (ix_tupK (K := K)) (pv 4) pe_int (fun _ _ => rfl)) (fun _ _ => rfl)) (by rfl)) (pw_or1 (pt_cmpR op_notIn_seq (pv 5) (pe_dget (hu_of hr) (pv 2) (pe_ix (ix_tupK (K := K)) (pv 4) pe_int (fun _ _ => rfl)) (fun _ _ => rfl)) (by rfl))))))
        (pss_one (ps_ret pe_bl))
        pss_nil))))
      (pss_one (ps_ret (pe_cmpR op_gt (pe_callB call_len (by rfl) B.len (by decide +kernel) (pa_cons (pv 1) pa_nil)) pe_int (nomark _))))))), ?_⟩
    have lus := Paired.length hus
    have ltwo := C.two
    have lsh := C.short
    have hw := W.at_
    have hlen := Paired.length hw.each
    have hgl := W.gl
    -- inside_of = dict([..])
    refine ⟨_, rfl, wa, _, 1, .ref g, rfl, rfl, SqT.of hw.top, atI_nat (j := 1) rfl, g, rfl, ⟨_, SqT.of hw.gat⟩, fun N nN => lc_tup (K := K) (a := g) (xs := as.map V.ref) (fun m H' => Same H H' ∧ ∃ (ts : List Addr) (kvs : List (Key × V)), H' N = some (.lst (ts.map V.ref)) ∧ Paired (fun t (kv : Key × V) => H' t = some (.tup [kV kv.1, kv.2])) ts kvs ∧ InsAt H' kvs (gs.take m))
      ⟨same_new nN, [], [], upd_same, .nil, .nil⟩ (fun m H' _ ⟨s', _⟩ => SqT.of (s' _ _ hw.gat)) (fun m v H2 hm hP => ?_) fun H2 hP => ?_⟩
    · obtain ⟨s2, ts, kvs, hN, hts, hin⟩ := hP
      rw [List.getElem?_map] at hm
      obtain ⟨t, ht, rfl⟩ := Option.map_eq_some_iff.mp hm
      have hml : m < as.length := (List.getElem?_eq_some_iff.mp ht).1
      obtain ⟨gg, hgg, ia, e1, e2⟩ := pair_at (hw.same s2).each ht
      have l1 := Paired.length hts
      have l2 := Paired.length hin
      rw [List.length_take] at l2
      refine ⟨t, [.str gg.1, .ref ia, .str gg.2.2], rfl, SqT.of e1, rfl, .str gg.1, _, rfl, .ref ia, _, rfl, .str gg.2.2, [], rfl, rfl, rfl, _, rfl, _, rfl, (by show 2 ≤ sizeLine; decide), fun tn ntn => ?_⟩
      have zt := same_new ntn (o := .tup [.str gg.1, .ref ia])
      have hN3 := zt _ _ hN
      have ht3 : upd H2 tn (.tup [.str gg.1, .ref ia]) tn = some (.tup [.str gg.1, .ref ia]) := upd_same
      generalize upd H2 tn (.tup [.str gg.1, .ref ia]) = H3 at zt hN3 ht3 ⊢
      have keep : ∀ (c : Addr) (xs : List V) (o : HO), H3 c = some (.tup xs) → upd H3 N o c = some (.tup xs) := fun c xs o e => by
        rw [upd_ne (ne_of e hN3 (by intro z; cases z))]
        exact e
      refine ⟨_, hN3, ?_, fun d o ed => ?_, ts ++ [tn], kvs ++ [(Sum.inr gg.1, .ref ia)], ?_, ?_, ?_⟩
      · rw [List.length_map]
        exact Nat.lt_of_le_of_lt (show ts.length ≤ 100 by omega) (by decide)
      · rw [upd_ne (ne_of_none ed nN)]
        exact zt _ _ (s2 _ _ ed)
      · rw [upd_same, List.map_append]
        rfl
      · exact pair_snoc (Paired.mapP hts fun _ _ z => keep _ _ _ (zt _ _ z)) (keep _ _ _ ht3)
      · rw [List.take_add_one, hgg]
        exact pair_snoc (Paired.mapP hin fun _ _ ⟨k1, i, k2, k3⟩ => ⟨k1, i, k2, keep _ _ _ (zt _ _ k3)⟩) ⟨rfl, ia, rfl, keep _ _ _ (zt _ _ e2)⟩
    obtain ⟨s2, ts, kvs, hN, hts, hin⟩ := hP
    rw [List.length_map, hlen, List.take_length] at hin
    have kk : kvs.map (·.1) = (gs.map (·.1)).map Sum.inr := by
      have : ∀ {kvs : List (Key × V)} {gs : List Gt}, InsAt H2 kvs gs → kvs.map (·.1) = (gs.map (·.1)).map Sum.inr := fun h => by
        unfold InsAt at h
        induction h with
        | nil => rfl
        | cons r _ ih => rw [List.map_cons, List.map_cons, List.map_cons, ih, r.1]
      exact this hin
    have knd : (kvs.map (·.1)).Nodup := by
      rw [kk]
      exact List.pairwise_map.mpr (List.Pairwise.imp (fun {a b} h e => h (by cases e; rfl)) W.nd)
    refine ⟨N, ts, kvs, rfl, SqL.of hN, Paired.mapP hts (fun _ _ z => SqT.of z), fun d nd' => ?_⟩
    rw [show mergeK [] kvs = kvs from merge_new kvs [] knd]
    have zd := same_new nd' (o := .dK kvs)
    have s3 := s2.trans zd
    have hd : upd H2 d (.dK kvs) d = some (.dK kvs) := upd_same
    have hin3 : InsAt (upd H2 d (.dK kvs)) kvs gs := Paired.mapP hin fun _ _ ⟨k1, i, k2, k3⟩ => ⟨k1, i, k2, zd _ _ k3⟩
    generalize upd H2 d (.dK kvs) = H3 at s3 hd hin3 ⊢
    have hp3 := s3 _ _ hp
    have hus3 : PairsAt H3 us c := Paired.mapP hus fun _ _ z => s3 _ _ z
    -- len(set([pair[0] ..])) < len(value)
    refine ⟨_, rfl, p, rfl, ⟨_, SqT.of hp3⟩, fun L nL => lc_tup (K := K) (a := p) (xs := us.map V.ref) (fun m H' => Same H3 H' ∧ H' L = some (.lst (((c.map (·.1)).take m).map V.str)))
      ⟨same_new nL, upd_same⟩ (fun m H' _ ⟨s', _⟩ => SqT.of (s' _ _ hp3)) (fun m v H4 hm hP => ?_) fun H4 hP => ?_⟩
    · obtain ⟨s4, hL⟩ := hP
      rw [List.getElem?_map] at hm
      obtain ⟨u, hu, rfl⟩ := Option.map_eq_some_iff.mp hm
      obtain ⟨pr, hpr, hat⟩ := pair_at hus3 hu
      refine ⟨rfl, _, rfl, u, _, 0, .str pr.1, rfl, rfl, SqT.of (s4 _ _ hat), atI_nat (j := 0) rfl, _, hL, ?_, fun d o ed => ?_, ?_⟩
      · rw [List.length_map, List.length_take, List.length_map]
        exact Nat.lt_of_le_of_lt (show min m c.length ≤ 100 by omega) (by decide)
      · rw [upd_ne (ne_of_none ed nL)]
        exact s4 _ _ ed
      · rw [upd_same, List.take_add_one, List.getElem?_map, hpr, List.map_append]
        rfl
    obtain ⟨s4, hL⟩ := hP
    rw [List.length_map, List.take_of_length_le (by rw [List.length_map]; omega)] at hL
    have hp4 := s4 _ _ hp3
    have hus4 : PairsAt H4 us c := Paired.mapP hus3 fun _ _ z => s4 _ _ z
    refine ⟨L, c.map (·.1), rfl, SqL.of hL, C.reg, by rw [List.length_map]; omega, ?_⟩
    refine ⟨_, rfl, _, us.length, rfl, .inr ⟨_, SqT.of hp4, (List.length_map ..).symm⟩, ((c.map (·.1)).length : Int), (us.length : Int), rfl, rfl, _, rfl, ifF (decide_eq_false (by rw [List.length_map]; omega)) ?_⟩
    -- len(set([pair[1] ..])) < len(value)
    refine ⟨_, rfl, p, rfl, ⟨_, SqT.of hp4⟩, fun M nM => lc_tup (K := K) (a := p) (xs := us.map V.ref) (fun m H' => Same H4 H' ∧ H' M = some (.lst (((c.map (·.2)).take m).map V.str)))
      ⟨same_new nM, upd_same⟩ (fun m H' _ ⟨s', _⟩ => SqT.of (s' _ _ hp4)) (fun m v H5 hm hP => ?_) fun H5 hP => ?_⟩
    · obtain ⟨s5, hM⟩ := hP
      rw [List.getElem?_map] at hm
      obtain ⟨u, hu, rfl⟩ := Option.map_eq_some_iff.mp hm
      obtain ⟨pr, hpr, hat⟩ := pair_at hus4 hu
      refine ⟨rfl, _, rfl, u, _, 1, .str pr.2, rfl, rfl, SqT.of (s5 _ _ hat), atI_nat (j := 1) rfl, _, hM, ?_, fun d o ed => ?_, ?_⟩
      · rw [List.length_map, List.length_take, List.length_map]
        exact Nat.lt_of_le_of_lt (show min m c.length ≤ 100 by omega) (by decide)
      · rw [upd_ne (ne_of_none ed nM)]
        exact s5 _ _ ed
      · rw [upd_same, List.take_add_one, List.getElem?_map, hpr, List.map_append]
        rfl
    obtain ⟨s5, hM⟩ := hP
    rw [List.length_map, List.take_of_length_le (by rw [List.length_map]; omega)] at hM
    have hp5 := s5 _ _ hp4
    refine ⟨M, c.map (·.2), rfl, SqL.of hM, C.gat, by rw [List.length_map]; omega, ?_⟩
    refine ⟨_, rfl, _, us.length, rfl, .inr ⟨_, SqT.of hp5, (List.length_map ..).symm⟩, ((c.map (·.2)).length : Int), (us.length : Int), rfl, rfl, _, rfl, ifF (decide_eq_false (by rw [List.length_map]; omega)) ?_⟩
    have s35 := s4.trans s5
    have hd5 := s35 _ _ hd
    have hin5 : InsAt H5 kvs gs := Paired.mapP hin3 fun _ _ ⟨k1, i, k2, k3⟩ => ⟨k1, i, k2, s35 _ _ k3⟩
    have hus5 : PairsAt H5 us c := Paired.mapP hus4 fun _ _ z => s5 _ _ z
    have s05 := s3.trans s35
    -- for at, pair in enumerate(value)
    refine ⟨_, rfl, p, _, rfl, SqT.of hp5, for_it (walk_enumT (xs := us.map V.ref)) (fun j σ H' => ∃ v3 v4 v5 : Option V, σ = [some (.ref wa), some (.ref p), some (.ref d), v3, v4, v5, none, none, none] ∧ Same H5 H') ⟨none, none, none, rfl, fun _ _ e => e⟩ (fun j σ H' _ ⟨_, _, _, _, s'⟩ => SqT.of (s' _ _ hp5)) (fun j v σ H6 H7 hj hP hY => ?_) (fun σ H6 hP => ?_)⟩
    · obtain ⟨v3, v4, v5, rfl, s6⟩ := hP
      obtain ⟨T, x', y', rfl, nT, rfl, e1, e2⟩ := hY
      cases e1
      have e2 : (us.map V.ref)[j]? = some y' := e2
      rw [List.getElem?_map] at e2
      obtain ⟨u, hu, rfl⟩ := Option.map_eq_some_iff.mp e2
      have hju : j < us.length := (List.getElem?_eq_some_iff.mp hu).1
      obtain ⟨pr, hpr, hat⟩ := pair_at hus5 hu
      have zT := same_new nT (o := .tup [.int ((j : Nat) : Int), .ref u])
      have hT : upd H6 T (.tup [.int ((j : Nat) : Int), .ref u]) T = some (.tup [.int ((j : Nat) : Int), .ref u]) := upd_same
      have s7 := s6.trans zT
      generalize upd H6 T (.tup [.int ((j : Nat) : Int), .ref u]) = H7 at zT hT s7 ⊢
      have hp7 := s7 _ _ hp5
      have hat7 := s7 _ _ hat
      have hd7 := s7 _ _ hd5
      have hin7 : InsAt H7 kvs gs := Paired.mapP hin5 fun _ _ ⟨k1, i, k2, k3⟩ => ⟨k1, i, k2, s7 _ _ k3⟩
      have hus7 : PairsAt H7 us c := Paired.mapP hus5 fun _ _ z => s7 _ _ z
      have jc : j < c.length := by omega
      have klt : (j + 1) % c.length < us.length := by
        rw [lus]
        exact Nat.mod_lt _ (by omega)
      have hk : (us.map V.ref)[(j + 1) % c.length]? = some (V.ref us[(j + 1) % c.length]) := by
        rw [List.getElem?_map, List.getElem?_eq_getElem klt]
        rfl
      obtain ⟨pk, hpk, hatk⟩ := pair_at hus7 (List.getElem?_eq_getElem klt)
      have hz : ((c.map (·.1)).tail ++ (c.map (·.1)).take 1)[j]? = some pk.1 := by
        rw [next_mod jc, hpk]
        rfl
      obtain ⟨gg, hgg, egg, m1, m2⟩ := C.join j pr pk.1 hpr hz
      obtain ⟨ia, ev, hia⟩ := hin7.get hgg W.nd
      rw [egg] at ev
      have emod : ((j : Int) + 1) % ((us.length : Nat) : Int) = (((j + 1) % c.length : Nat) : Int) := by
        rw [lus]
        exact (Int.natCast_emod (j + 1) c.length).symm
      refine ⟨T, _, rfl, SqT.of hT, rfl, _, _, rfl, _, [], rfl, rfl, ?_⟩
      -- follower
      refine ⟨_, rfl, _, rfl, (j : Int), 1, rfl, rfl, _, rfl, _, us.length, rfl, .inr ⟨_, SqT.of hp7, (List.length_map ..).symm⟩, (j : Int) + 1, (us.length : Int), rfl, rfl, by omega, p, _, _, _, rfl, rfl, SqT.of hp7, (by rw [emod]; exact atI_nat hk), _, _, 0, .str pk.1, rfl, rfl, SqT.of hatk, atI_nat (j := 0) rfl, ?_⟩
      -- the tests
      refine ⟨_, rfl, u, _, 1, .str pr.2, rfl, rfl, SqT.of hat7, atI_nat (j := 1) rfl, _, rfl, d, _, rfl, DGet.k (k := Sum.inr pr.2) hd7, _, rfl, ifF (by rw [ev]; rfl) ?_⟩
      refine ⟨_, rfl, u, _, 0, .str pr.1, rfl, rfl, SqT.of hat7, atI_nat (j := 0) rfl, _, rfl, _, rfl, u, _, 1, .str pr.2, rfl, rfl, SqT.of hat7, atI_nat (j := 1) rfl, d, .ref ia, rfl, by rw [← ev]; exact DGet.k (k := Sum.inr pr.2) hd7, ia, _, rfl, .inr (SqT.of hia), rfl, WT.flat_strs _, _, rfl, ?_⟩
      rw [inV_str]
      refine ifF (by rw [decide_eq_true m1]; rfl) ?_
      refine ⟨_, rfl, _, rfl, _, rfl, u, _, 1, .str pr.2, rfl, rfl, SqT.of hat7, atI_nat (j := 1) rfl, d, .ref ia, rfl, by rw [← ev]; exact DGet.k (k := Sum.inr pr.2) hd7, ia, _, rfl, .inr (SqT.of hia), rfl, WT.flat_strs _, _, rfl, ?_⟩
      rw [inV_str]
      refine ifF (by rw [decide_eq_true m2]; rfl) ?_
      exact ⟨_, _, _, rfl, s7⟩
    · obtain ⟨v3, v4, v5, rfl, s6⟩ := hP
      refine ⟨_, rfl, _, us.length, rfl, .inr ⟨_, SqT.of (s6 _ _ hp5), (List.length_map ..).symm⟩, (us.length : Int), 1, rfl, rfl, ?_⟩
      show Q (.bl (decide ((1 : Int) < (us.length : Int)))) H6
      rw [decide_eq_true (show (1 : Int) < (us.length : Int) by omega)]
      exact q _ (s05.trans s6)
end
end K13

set_option Elab.async false
set_option linter.all false
set_option maxRecDepth 100000
set_option maxHeartbeats 4000000
/-! sorted(set(xs)), xs a list of texts. -/
namespace WT
open PySem PySem.Spec PyProof.Rows L2
/-- the text of an entry -/
def txt (e : Int × Value) : Str := match e.2 with
  | .str y _ => y
  | _ => ""
def IsT (w : World) (e : Int × Value) : Prop := ∃ y u, e.2 = Value.str y u ∧ e.1 = hashStr w y
/-- a set of texts whose table can be walked -/
structure TSet (w : World) (h : Heap) (a : Addr) (T : Str → Bool) (n : Nat) (ob : Obj) (en : Array (Int × Value)) (ec : Nat) (tb : SetTable) : Prop where
  at_ : h.get? a = some ob
  ex : ob.ExactSet
  da : ob.data = .set en ec tb
  all : ∀ e ∈ en.toList, IsT w e
  nd : (en.toList.map txt).Nodup
  mem : ∀ y, T y = true ↔ y ∈ en.toList.map txt
  few : en.size < scanBound
  fit : tb.fits en.size = true
  len : en.size = n
  ris : Ris tb.place.toList
  led : w.params.followText "set-order" = true ∨ tb.led = true
def TS (w : World) (h : Heap) (a : Addr) (T : Str → Bool) (n : Nat) : Prop := ∃ ob en ec tb, TSet w h a T n ob en ec tb
section
variable {P : Program} {w : World} {h h2 : Heap} {a : Addr} {T : Str → Bool} {n : Nat}
theorem TS.keep (R : TS w h a T n) (k : ∀ o, h.get? a = some o → h2.get? a = some o) : TS w h2 a T n := by
  obtain ⟨ob, en, ec, tb, r⟩ := R
  exact ⟨ob, en, ec, tb, k ob r.at_, r.ex, r.da, r.all, r.nd, r.mem, r.few, r.fit, r.len, r.ris, r.led⟩
theorem TS.congr {T' : Str → Bool} {n' : Nat} (R : TS w h a T n) (e : ∀ y, T y = T' y) (en : n = n') : TS w h a T' n' := by
  rw [← en, ← (funext e : T = T')]
  exact R
theorem isT_elems {l : List (Int × Value)} (g : ∀ e ∈ l, IsT w e) : ElemsOf (PySem.strKind P w) l := fun e he => by
  obtain ⟨y, u, g1, g2⟩ := g e he
  refine ⟨⟨y, ?_, g2⟩, ?_⟩
  · rw [g1]
    exact strKind_is P w y u
  · rw [g1]
    rfl
theorem isT_is {e : Int × Value} (g : IsT w e) (y : Str) : (PySem.strKind P w).is y e.2 = true ↔ txt e = y := by
  obtain ⟨y0, u, g1, _⟩ := g
  unfold txt
  rw [g1]
  show ((y0 == y) = true) ↔ y0 = y
  exact beq_iff_eq
theorem isT_mem {l : List (Int × Value)} (g : ∀ e ∈ l, IsT w e) (y : Str) : y ∈ l.map txt ↔ ∃ e ∈ l, (PySem.strKind P w).is y e.2 = true := by
  rw [List.mem_map]
  refine ⟨fun ⟨e, he, z⟩ => ⟨e, he, (isT_is (g e he) y).mpr z⟩, fun ⟨e, he, z⟩ => ⟨e, he, (isT_is (g e he) y).mp z⟩⟩
end
section
variable {P : Program} {w : World} {A : Around} {E : Value → Shared → Prop} {s : Shared} {a : Addr} {T : Str → Bool} {n : Nat}
theorem ts_tail {gv : Bool → Sem Unit} (hgv : ∀ (b : Bool) (s1 : Shared) (Z : Unit → Shared → Prop), Z () s1 → wpAny (model P w) A (gv b) Z E s1) {ob : Obj} {en en1 : Array (Int × Value)} {ec : Nat} {tb tb1 : SetTable} {T' : Str → Bool}
    (h0 : s.heap.get? a = some ob) (hx : ob.ExactSet) (hda : ob.data = .set en ec tb) (g1 : ∀ e ∈ en1.toList, IsT w e) (nd1 : (en1.toList.map txt).Nodup) (m1 : ∀ y, T' y = true ↔ y ∈ en1.toList.map txt)
    (few1 : en1.size < scanBound) (fit1 : tb1.fits en1.size = true) (ris1 : Ris tb1.place.toList) (led1 : w.params.followText "set-order" = true ∨ tb1.led = true) {old : Bool} {R : Option Bool → Shared → Prop}
    (q : ∀ h2, Heap.SameBut a s.heap h2 → TS w h2 a T' en1.size → R (some true) { s with heap := h2 }) :
    wpAny (model P w) A (do
        storeSet a en1 tb1
        if (!old && tb1.tooFull) = true then do
            gv (relayAll tb1 en1 (SetTable.grown en1.size)).2.2
            storeSet a (relayAll tb1 en1 (SetTable.grown en1.size)).1 (relayAll tb1 en1 (SetTable.grown en1.size)).2.1
            pure (some true)
          else pure (some true)) R E s := by
  refine wpAny_bind (wpAny_storeSet_of h0 hda ?_ (fits_of_scanBound few1))
  have k1 := store_at (es' := en1) (t' := tb1) h0 hda
  have b1 := Heap.SameBut.update s.heap a (Obj.putSet en1 tb1)
  split
  · have p2 := relayAll_perm tb1 en1 (SetTable.grown en1.size)
    have f2 := relayAll_fits tb1 en1 (SetTable.grown en1.size)
    have r2 := relayAll_ris tb1 en1 (SetTable.grown en1.size)
    have l2 := relayAll_led tb1 en1 (SetTable.grown en1.size)
    generalize relayAll tb1 en1 (SetTable.grown en1.size) = Y at p2 f2 r2 l2 ⊢
    obtain ⟨en2, tb2, gave2⟩ := Y
    dsimp only at p2 f2 r2 l2 ⊢
    have z2 : en2.size = en1.size := by
      have := p2.length_eq
      rwa [Array.length_toList, Array.length_toList] at this
    have few2 : en2.size < scanBound := by
      rw [z2]
      exact few1
    refine wpAny_bind (hgv _ _ _ (wpAny_bind (wpAny_storeSet_of k1 rfl ?_ (fits_of_scanBound few2))))
    have k2 := store_at (es' := en2) (t' := tb2) k1 rfl
    refine wpAny_pure (q _ (b1.trans (Heap.SameBut.update _ a _)) ⟨_, en2, _, tb2, k2, hx, rfl, fun e he => g1 e (p2.mem_iff.mp he), ?_, fun y => ?_, few2, f2, z2, r2, led1.imp id fun z => ?_⟩)
    · exact (p2.map txt).nodup_iff.mpr nd1
    · exact (m1 y).trans (p2.map txt).mem_iff.symm
    · rw [l2]
      exact z
  · exact wpAny_pure (q _ b1 ⟨_, en1, _, tb1, k1, hx, rfl, g1, nd1, m1, few1, fit1, rfl, ris1, led1⟩)
theorem ts_add {y : Str} {u : Tok} {Q : Bool → Shared → Prop} (R : TS w s.heap a T n) (room : n + 1 < scanBound)
    (q : ∀ h2, Heap.SameBut a s.heap h2 → TS w h2 a (fun z => T z || decide (z = y)) (if T y = true then n else n + 1) → Q (!T y) { s with heap := h2 }) :
    wpAny (model P w) A (setAddHashed a (.str y u) ((PySem.strKind P w).hash y)) Q E s := by
  obtain ⟨ob, en, ec, tb, r⟩ := R
  have hy : (PySem.strKind P w).is y (.str y u) = true := strKind_is P w y u
  have sc : (Value.str y u).scannable = true := rfl
  have el : ElemsOf (PySem.strKind P w) en.toList := isT_elems r.all
  unfold setAddHashed
  unfold setAddHashedIn
  refine wpAny_holding (wpAny_bind (wpAny_setState_of r.at_ r.da r.fit ?_))
  dsimp only
  rw [byScan_of sc r.few el]
  simp only [↓reduceIte]
  unfold setAddByScan
  refine wpAny_bind (wpAny_bind (wpAny_rule (wpAny_bind (wpAny_setScan_of hy r.at_ r.da r.fit el ?_))))
  cases hfi : List.findIdx? (fun e => (PySem.strKind P w).is y e.2) en.toList with
  | some j =>
    dsimp only
    obtain ⟨hj, pj, _⟩ := List.findIdx?_eq_some_iff_getElem.mp hfi
    have hT : T y = true := (r.mem y).mpr ((isT_mem (P := P) r.all y).mpr ⟨en.toList[j], List.getElem_mem hj, pj⟩)
    have := q s.heap (Heap.SameBut.refl a s.heap) ⟨ob, en, ec, tb, r.at_, r.ex, r.da, r.all, r.nd, fun i => ?_, r.few, r.fit, ?_, r.ris, r.led⟩
    · rw [hT] at this
      exact wpAny_pure (wpAny_pure this)
    · rw [Bool.or_eq_true, decide_eq_true_eq, ← r.mem i]
      refine ⟨fun z => z.elim id fun e => ?_, Or.inl⟩
      rw [e]
      exact hT
    · rw [if_pos hT]
      exact r.len
  | none =>
    dsimp only
    have ny : y ∉ en.toList.map txt := fun z => by
      obtain ⟨e, he, c⟩ := (isT_mem (P := P) r.all y).mp z
      exact absurd c (by rw [List.findIdx?_eq_none_iff.mp hfi e he]; exact Bool.false_ne_true)
    have hT : T y = false := Bool.eq_false_iff.mpr fun z => ny ((r.mem y).mp z)
    have gw : ∀ (b : Bool) {s1 : Shared} {Z : Unit → Shared → Prop}, Z () s1 → wpAny (model P w) A (match b with | true => rule "set.scan.the-table-gave-way" | false => pure ()) Z E s1 := fun b s1 Z z => by
      cases b
      · exact wpAny_pure z
      · exact wpAny_rule z
    have p1 := layNew_perm tb en ((PySem.strKind P w).hash y) (.str y u)
    have f1 := layNew_fits tb en ((PySem.strKind P w).hash y) (.str y u)
    have r1 := layNew_ris tb en ((PySem.strKind P w).hash y) (.str y u) r.ris
    have l1 := layNew_led tb en ((PySem.strKind P w).hash y) (.str y u)
    generalize layNew tb en ((PySem.strKind P w).hash y) (.str y u) = Y at p1 f1 r1 l1 ⊢
    obtain ⟨en1, tb1, old, gave⟩ := Y
    dsimp only at p1 f1 r1 l1 ⊢
    rw [Array.toList_push] at p1
    have pc : en1.toList.Perm (((PySem.strKind P w).hash y, Value.str y u) :: en.toList) := p1.trans (List.perm_append_singleton _ _)
    have pk : (en1.toList.map txt).Perm (y :: en.toList.map txt) := pc.map txt
    have g1 : ∀ e ∈ en1.toList, IsT w e := fun e he => by
      rcases List.mem_cons.mp (pc.mem_iff.mp he) with z | z
      · exact ⟨y, u, by rw [z], by rw [z]; rfl⟩
      · exact r.all e z
    have nd1 : (en1.toList.map txt).Nodup := pk.nodup_iff.mpr (List.nodup_cons.mpr ⟨ny, r.nd⟩)
    have m1 : ∀ i, (T i || decide (i = y)) = true ↔ i ∈ en1.toList.map txt := fun i => by
      rw [Bool.or_eq_true, decide_eq_true_eq, r.mem i, pk.mem_iff, List.mem_cons]
      exact Or.comm
    have z1 : en1.size = n + 1 := by
      have := pc.length_eq
      rw [Array.length_toList, List.length_cons, Array.length_toList, r.len] at this
      exact this
    have few1 : en1.size < scanBound := by
      rw [z1]
      exact room
    have led1 : w.params.followText "set-order" = true ∨ tb1.led = true := r.led.imp id fun z => by
      rw [l1]
      exact z
    have fin : ∀ h2, Heap.SameBut a s.heap h2 → TS w h2 a (fun z => T z || decide (z = y)) en1.size → Q true { s with heap := h2 } := fun h2 sb k => by
      have := q h2 sb
      rw [hT] at this
      rw [z1] at k
      exact this k
    refine wpAny_bind (gw _ ?_)
    split
    · refine wpAny_bind ?_
      rw [hashByValue_scannable 8 sc]
      refine wpAny_pure (ts_tail (fun b s1 Z z => ?_) r.at_ r.ex r.da g1 nd1 m1 few1 ?_ ?_ ?_ fun h2 sb k => ?_)
      · cases b
        · exact wpAny_pure z
        · exact wpAny_rule z
      · first
          | (split <;> first | exact f1 | exact SetTable.fits_plain_off f1)
          | exact f1
      · first
          | (split <;> exact r1)
          | exact r1
      · first
          | (split <;> exact led1)
          | exact led1
      · dsimp only
        exact wpAny_pure (fin h2 sb k)
    · refine wpAny_bind (wpAny_pure ?_)
      simp only [↓reduceIte]
      refine ts_tail (fun b s1 Z z => ?_) r.at_ r.ex r.da g1 nd1 m1 few1 f1 r1 led1 fun h2 sb k => ?_
      · cases b
        · exact wpAny_pure z
        · exact wpAny_rule z
      · dsimp only
        exact wpAny_pure (fin h2 sb k)
end
end WT

set_option Elab.async false
set_option linter.all false
set_option maxRecDepth 100000
set_option maxHeartbeats 4000000
/-! sorted(set(xs)), xs a list or a tuple of texts. -/
namespace WT
open PySem PySem.Spec PyProof.Rows L2
abbrev byT (w : World) : Bool := !w.params.followText "set-order"
theorem ts_new {w : World} {h : Heap} {a : Addr} {ys : List Str} (hg : h.get? a = some (setE (byT w))) : TS w h a (hasY ys 0) (disN ys 0) := by
  refine ⟨_, #[], 0, _, hg, ⟨rfl, rfl, rfl⟩, rfl, fun e he => ?_, ?_, fun y => ?_, ?_, rfl, rfl, List.Pairwise.nil, ?_⟩
  · simp at he
  · simp
  · simp [hasY]
  · decide
  · show _ ∨ (!w.params.followText "set-order") = true
    cases w.params.followText "set-order"
    · exact Or.inr rfl
    · exact Or.inl rfl
section
variable {P : Program} {w : World} {A : Around} {E : Value → Shared → Prop} {s : Shared}
theorem fill_ts {I : Addr} {fp wr : List Addr} {G : Array GenState → Array GenState → Prop} {n : Nat} {Pv : Nat → Value → Prop} {St : Nat → Shared → Prop} {R : Result → Shared → Prop} (W : WalksS P w A.in1 I fp wr G n Pv St) (a : Addr) (na : a ∉ fp) (ys : List Str) (en : n = ys.length) (room : ys.length + 1 < scanBound)
    (hv : ∀ i v, Pv i v → ∃ y t, ys[i]? = some y ∧ v = .str y t) : ∀ (k i : Nat) (s : Shared), n - i = k → i ≤ n → St i s → TS w s.heap a (hasY ys i) (disN ys i) →
      (∀ s2, Moved (a :: wr) G s s2 → TS w s2.heap a (hasY ys n) (disN ys n) → R (.ok (.ret .none)) s2) → codeAny (model P w) A (.builtin "set.update.loop" ⟨[.ref a, .ref I], []⟩) R s := by
  have nw : a ∉ wr := fun z => na (W.sub _ z)
  have more : ∀ b ∈ wr, b ∈ a :: wr := fun b z => List.mem_cons_of_mem _ z
  intro k
  induction k with
  | zero =>
    intro i s e1 e2 st hS q
    obtain rfl : i = n := by omega
    refine codeAny_builtin PyProof.Rows.F.entry_set_update_loop ?_
    rw [Around.under_plainId PyProof.Rows.F.plain_set_update_loop _]
    show wpAny (model P w) A.in1 (pyNext (.ref I) >>= _) _ _ s
    refine wpAny_bind (W.done s _ _ st fun s2 mv => ?_)
    show wpAny (model P w) A.in1 (ret Value.none) _ _ s2
    exact wpAny_pure (q s2 (mv.mono more) (hS.keep fun o z => mv.heap a o nw z))
  | succ k ih =>
    intro i s e1 e2 st hS q
    have lt : i < n := by omega
    refine codeAny_builtin PyProof.Rows.F.entry_set_update_loop ?_
    rw [Around.under_plainId PyProof.Rows.F.plain_set_update_loop _]
    show wpAny (model P w) A.in1 (pyNext (.ref I) >>= _) _ _ s
    refine wpAny_bind (W.item i s _ _ lt st fun v s2 pv st2 mv => ?_)
    obtain ⟨y, t, hy, rfl⟩ := hv i v pv
    have hS2 := hS.keep fun o z => mv.heap a o nw z
    show wpAny (model P w) A.in1 (holding [Value.str y t] (setAdd a (.str y t)) >>= _) _ _ s2
    refine wpAny_bind (wpAny_holding ?_)
    unfold setAdd
    refine wpAny_holding (wpAny_bind ((PySem.strKind P w).pyHash (k := y) (strKind_is _ _ _ _) ?_))
    refine ts_add (s := { s2 with toks := s2.toks + 1 }) hS2 (by have := disN_le ys i; omega) fun h3 sb hS3 => ?_
    have hS4 : TS w h3 a (hasY ys (i + 1)) (disN ys (i + 1)) := by
      refine hS3.congr (fun z => ?_) ?_
      · show ((ys.take i).any (· == z) || decide (z = y)) = (ys.take (i + 1)).any (· == z)
        rw [List.take_add_one, hy, List.any_append]
        congr 1
        show decide (z = y) = ((y == z) || false)
        rw [Bool.or_false]
        by_cases c : z = y
        · subst c
          simp
        · have c2 : ¬ y = z := fun q => c q.symm
          rw [decide_eq_false c, beq_eq_false_iff_ne.mpr c2]
      · conv => rhs; unfold disN
        rw [hy]
        show _ = disN ys i + (if hasY ys i y = true then 0 else 1)
        by_cases c : hasY ys i y = true
        · rw [if_pos c, if_pos c]
          rfl
        · rw [if_neg c, if_neg c]
    refine wpAny_pure ⟨plainId_quiet PyProof.Rows.F.plain_set_update_loop _, ih (i + 1) _ (by omega) lt (W.frame _ s2 _ _ st2 (Nat.le_succ _) fun b hb o z => ?_) hS4 fun s4 mv4 hS5 => ?_⟩
    · rw [sb.2 b (fun z2 : b = a => na (by rw [← z2]; exact hb))]
      exact z
    · refine q s4 (Moved.trans W.gtrans ((mv.mono more).then_heap (Nat.le_succ _) fun b o hb z => ?_) mv4) hS5
      rw [sb.2 b (fun z2 : b = a => hb (by rw [z2]; exact List.mem_cons_self))]
      exact z
theorem set_ts {l : Addr} {its : Array Value} {ys : List Str} {Q : Value → Shared → Prop} (calm : A.handled = none) (hl : s.heap.IsList l its ∨ s.heap.IsTuple l its) (hi : StrsAre its.toList ys) (room : ys.length + 1 < scanBound)
    (q : ∀ (h2 : Heap) (tk : Nat), TS w h2 s.heap.objs.size (hasY ys ys.length) (disN ys ys.length) → (∀ b o, b < s.heap.objs.size → s.heap.get? b = some o → h2.get? b = some o) → Q (.ref s.heap.objs.size) { s with heap := h2, toks := tk }) :
    wpAny (model P w) A (call (.type "set") [.ref l]) Q E s := by
  have esz : ys.length = its.size := by rw [← PyProof.Rows.StrsAre.len_eq hi, Array.length_toList]
  have ⟨c1, c2, hmr⟩ := PySem.F.called_set.mro
  have hm1 := PySem.F.called_set.made; have hm2 := PySem.F.called_set.sub
  refine wpAny_call (codeAny_of_tree ?_); show wpAny _ _ (callAny (.type "set") _) _ _ _
  refine wpAny_pure ⟨Code.quiet_builtin _ (by decide +kernel), codeAny_builtin PySem.F.entry_type_call ?_⟩
  rw [Around.under_plain (weight_type_call_type "set" [.ref l] []) (by rfl)]
  have hm3 := PySem.F.called_set.notType; have hm4 := PySem.F.called_set.canCreate
  have hm5 := PySem.F.typeCall_set_1 (.ref l)
  repeat (any_goals (first | assumption | wp_step))
  refine codeAny_mono (L2.code_set_led1 (.ref l) (E := E) (Q₁ := fun ob s1 => ob = .ref s.heap.objs.size ∧ s1 = { s with heap := s.heap.push (setE (byT w)) }) ⟨rfl, rfl⟩) fun r s1 hr => ?_
  cases r with
  | error e => exact hr
  | ok fl =>
    cases fl with
    | ret ob =>
      obtain ⟨rfl, rfl⟩ := hr
      have hS : (s.heap.push (setE (byT w))).get? s.heap.objs.size = some (setE (byT w)) := Heap.get?_push_size _ rfl
      have hT : Shared.TypeIs { s with heap := s.heap.push (setE (byT w)) } (.ref s.heap.objs.size) "set" := ⟨_, hS, rfl⟩
      have hm6 := PySem.F.called_set.init.lookup; have hm7 := PySem.F.called_set.init.bind (.ref s.heap.objs.size)
      repeat (any_goals (first | assumption | wp_step))
      refine codeAny_mono (codeAny_call_builtin (R := wants (fun r s2 => r = .none ∧ ∃ h2 tk, s2 = { s with heap := h2, toks := tk } ∧ TS w h2 s.heap.objs.size (hasY ys ys.length) (disN ys ys.length) ∧
          (∀ b o, b < s.heap.objs.size → s.heap.get? b = some o → h2.get? b = some o)) E) PySem.F.called_set.init.plain PySem.F.entry_set_init (PySem.check_set_init_1 hT ?_)) fun r2 s2 hr2 => ?_
      · rcases hl with hl | hl
        · have ⟨⟨ocl, odi, oda, osl⟩, hol, hcl, nl, hdl⟩ := hl
          simp only at hcl hdl
          subst hcl hdl
          have hol2 : (s.heap.push (setE (byT w))).get? l = some { cls := .type "list", dict := odi, data := .seq its nl, slots := osl } := Heap.get?_push_of_some _ hol
          have hm8 := PySem.F.sub_list_set; have hm9 := PySem.F.sub_list_frozenset
          have hm10 : (Value.type "list" == Value.type "dict") = false := by decide
          have hl2 : (s.heap.push (setE (byT w))).IsList l its := ⟨_, hol2, rfl, nl, rfl⟩
          unfold Builtin.«set.__init__» noKeywords Builtin.Frozenset.updateFrom
          generalize hIt : pyIter = It
          wp_walk
          subst hIt
          refine wpAny_pyIter_list hl2 (wpAny_bind (wpAny_runValue ?_))
          have lo : l < s.heap.objs.size := Heap.lt_size hol
          have calm3 : A.in1.in1.in1.handled = none := by simp [calm]
          have nl2 : l ≠ (s.heap.push (setE (byT w))).objs.size := by
            rw [Heap.size_push]
            exact Nat.ne_of_lt (Nat.lt_succ_of_lt lo)
          have nf : s.heap.objs.size ∉ [(s.heap.push (setE (byT w))).objs.size, l] := by
            rw [Heap.size_push]
            simp only [List.mem_cons, List.not_mem_nil, or_false, not_or]
            exact ⟨Nat.ne_of_lt (Nat.lt_succ_self _), Nat.ne_of_gt lo⟩
          have vals : ∀ (i : Nat) (v : Value), its[i]? = some v → ∃ y t, ys[i]? = some y ∧ v = .str y t := fun i v z => by
            have hlt : i < ys.length := by
              have := (Array.getElem?_eq_some_iff.mp z).1
              omega
            obtain ⟨t, e⟩ := SS.strs_at hi i v (by rw [Array.getElem?_toList]; exact z)
            rw [List.getD_eq_getElem?_getD, List.getElem?_eq_getElem hlt] at e
            exact ⟨ys[i], t, List.getElem?_eq_getElem hlt, e⟩
          refine fill_ts ((Walks.list calm3 _ l nl2 its).toS) s.heap.objs.size nf ys esz.symm room vals (its.size - 0) 0 _ (by omega) (Nat.zero_le _) ⟨⟨_, Heap.get?_push_size _ rfl, rfl, rfl⟩, (hl2.push _)⟩ ?hA ?hB
          case hA =>
            have hg : ((s.heap.push (setE (byT w))).push { cls := .type "list_iterator", data := .fields #[.ref l, .int 0 0] }).get? s.heap.objs.size = some (setE (byT w)) := Heap.get?_push_of_some _ hS
            exact ts_new hg
          case hB =>
            intro s3 mv hS3
            obtain ⟨h3, g3, d3, tk3, os3⟩ := s3
            obtain rfl : g3 = s.gens := mv.gens
            obtain rfl : d3 = s.drawn := mv.drawn
            obtain rfl : os3 = s.os := mv.os
            show wpAny (model P w) _ _ _ _ _
            refine wpAny_pure ?_
            show wpAny (model P w) _ (ret Value.none) _ _ _
            refine wpAny_pure ⟨rfl, h3, tk3, rfl, by rw [← esz] at hS3; exact hS3, fun b o lt z => ?_⟩
            refine mv.heap b o ?_ (Heap.get?_push_of_some _ (Heap.get?_push_of_some _ z))
            rw [Heap.size_push]
            simp only [List.mem_cons, List.not_mem_nil, or_false, not_or]
            exact ⟨Nat.ne_of_lt lt, Nat.ne_of_lt (Nat.lt_succ_of_lt lt)⟩
        · have ⟨⟨ocl, odi, oda, osl⟩, hol, hcl, nl, hdl⟩ := hl
          simp only at hcl hdl
          subst hcl hdl
          have hol2 : (s.heap.push (setE (byT w))).get? l = some { cls := .type "tuple", dict := odi, data := .seq its nl, slots := osl } := Heap.get?_push_of_some _ hol
          have hm8 := PySem.F.sub_tuple_set; have hm9 := PySem.F.sub_tuple_frozenset
          have hm10 : (Value.type "tuple" == Value.type "dict") = false := by decide
          have hl2 : (s.heap.push (setE (byT w))).IsTuple l its := ⟨_, hol2, rfl, nl, rfl⟩
          unfold Builtin.«set.__init__» noKeywords Builtin.Frozenset.updateFrom
          generalize hIt : pyIter = It
          wp_walk
          subst hIt
          refine wpAny_pyIter_tuple hl2 (wpAny_bind (wpAny_runValue ?_))
          have lo : l < s.heap.objs.size := Heap.lt_size hol
          have calm3 : A.in1.in1.in1.handled = none := by simp [calm]
          have nl2 : l ≠ (s.heap.push (setE (byT w))).objs.size := by
            rw [Heap.size_push]
            exact Nat.ne_of_lt (Nat.lt_succ_of_lt lo)
          have nf : s.heap.objs.size ∉ [(s.heap.push (setE (byT w))).objs.size, l] := by
            rw [Heap.size_push]
            simp only [List.mem_cons, List.not_mem_nil, or_false, not_or]
            exact ⟨Nat.ne_of_lt (Nat.lt_succ_self _), Nat.ne_of_gt lo⟩
          have vals : ∀ (i : Nat) (v : Value), its[i]? = some v → ∃ y t, ys[i]? = some y ∧ v = .str y t := fun i v z => by
            have hlt : i < ys.length := by
              have := (Array.getElem?_eq_some_iff.mp z).1
              omega
            obtain ⟨t, e⟩ := SS.strs_at hi i v (by rw [Array.getElem?_toList]; exact z)
            rw [List.getD_eq_getElem?_getD, List.getElem?_eq_getElem hlt] at e
            exact ⟨ys[i], t, List.getElem?_eq_getElem hlt, e⟩
          refine fill_ts ((Walks.tuple calm3 _ l nl2 its).toS) s.heap.objs.size nf ys esz.symm room vals (its.size - 0) 0 _ (by omega) (Nat.zero_le _) ⟨⟨_, Heap.get?_push_size _ rfl, rfl, rfl⟩, (hl2.push _)⟩ ?hA ?hB
          case hA =>
            have hg : ((s.heap.push (setE (byT w))).push { cls := .type "tuple_iterator", data := .fields #[.ref l, .int 0 0] }).get? s.heap.objs.size = some (setE (byT w)) := Heap.get?_push_of_some _ hS
            exact ts_new hg
          case hB =>
            intro s3 mv hS3
            obtain ⟨h3, g3, d3, tk3, os3⟩ := s3
            obtain rfl : g3 = s.gens := mv.gens
            obtain rfl : d3 = s.drawn := mv.drawn
            obtain rfl : os3 = s.os := mv.os
            show wpAny (model P w) _ _ _ _ _
            refine wpAny_pure ?_
            show wpAny (model P w) _ (ret Value.none) _ _ _
            refine wpAny_pure ⟨rfl, h3, tk3, rfl, by rw [← esz] at hS3; exact hS3, fun b o lt z => ?_⟩
            refine mv.heap b o ?_ (Heap.get?_push_of_some _ (Heap.get?_push_of_some _ z))
            rw [Heap.size_push]
            simp only [List.mem_cons, List.not_mem_nil, or_false, not_or]
            exact ⟨Nat.ne_of_lt lt, Nat.ne_of_lt (Nat.lt_succ_of_lt lt)⟩
      · cases r2 with
        | error e => exact hr2
        | ok fl2 =>
          cases fl2 with
          | ret r =>
            obtain ⟨rfl, h2, tk, rfl, hS2, k2⟩ := hr2
            repeat (any_goals (first | assumption | wp_step))
            exact q _ _ hS2 k2
          | _ => exact hr2.elim
    | _ => exact hr.elim
end
section
variable {P : Program} {w : World} {A : Around} {E : Value → Shared → Prop} {s : Shared} {a : Addr}
theorem strs_of : ∀ {l : List Value}, (∀ v ∈ l, ∃ y u, v = Value.str y u) → StrsAre l (l.map fun v => txt (0, v))
  | [], _ => .nil
  | v :: l, h => by
    obtain ⟨y, u, rfl⟩ := h v List.mem_cons_self
    exact .cons y u (strs_of fun z hz => h z (List.mem_cons_of_mem _ hz))
theorem sorted_ts {T : Str → Bool} {n : Nat} {Q : Value → Shared → Prop} (R : TS w s.heap a T n) (hh : A.handled = none) (h64 : n < 64)
    (q : ∀ s2 p (out : Array Value) (c : Nat) (zs : List Str), (∀ b o, s.heap.get? b = some o → s2.heap.get? b = some o) → s2.gens = s.gens → s2.os = s.os → s.heap.objs.size ≤ p →
      s2.heap.get? p = some (seqObj "list" out c) → StrsAre out.toList zs → sortedS zs = true → zs.Nodup → (∀ y, y ∈ zs ↔ T y = true) → zs.length = n → Q (.ref p) s2) :
    wpAny (model P w) A (call (.builtin "sorted") [.ref a]) Q E s := by
  obtain ⟨ob, en, ec, tb, r⟩ := R
  refine Calls.call_function_entry kind_sorted plain_sorted entry_sorted (args_sorted1 _) ?_
  unfold Builtin.«sorted»
  refine wpAny_bind (m := checkCount "sorted" 1 1 _) (wpAny_pure (wpAny_bind (collect_set (A := A.in1) hh ⟨ob, r.at_, r.ex.1, r.da⟩ r.fit r.few r.ris r.led fun s1 vs k1 hz g1 o1 pm => ?_)))
  have hvl : vs.length = n := by
    rw [pm.length_eq, List.length_map, Array.length_toList]
    exact r.len
  have hV := strs_of (l := vs) fun v hv => by
    obtain ⟨e, he, z⟩ := List.mem_map.mp (pm.mem_iff.mp hv)
    obtain ⟨y, u, g, _⟩ := r.all e he
    exact ⟨y, u, by rw [← z]; exact g⟩
  have pk : (vs.map fun v => txt (0, v)).Perm (en.toList.map txt) := by
    have z := pm.map fun v => txt (0, v)
    rw [List.map_map] at z
    exact z
  refine wpAny_bind (wpAny_newList ?_ (by rw [hvl]; exact Nat.le_trans (Nat.le_of_lt h64) (by decide)))
  have hoL : (s1.heap.push (seqObj "list" vs.toArray 0)).get? s1.heap.objs.size = some (seqObj "list" vs.toArray 0) := Heap.get?_push_size _ rfl
  refine wpAny_bind (wpAny_holding (wpAny_call_entry slot_list_sort ⟨_, hoL, rfl⟩ entry_list_sort (list_sort_treeK strKind_oneLt hoL hV.keysOf (fun v1 v2 rest e => keyKind_strs (by rw [← e]; exact hV)) (by rw [hvl]; exact h64) fun st2 a1 a2 => ⟨_, rfl, ?_⟩) (args_list_sort _)))
  obtain ⟨zs, b1, b2, b3⟩ := sorted_out_str hV a1 a2
  obtain ⟨c, hc⟩ := sortedHeap_at (vs := vs) (out := (arrOf st2).map (·.2)) hoL
  have pn : zs.Perm (en.toList.map txt) := b2.trans pk
  refine wpAny_pure ⟨_, rfl, q _ s1.heap.objs.size _ c zs (fun b u e => ?_) g1 o1 hz hc b1 b3 (pn.nodup_iff.mpr r.nd) (fun y => ?_) ?_⟩
  · have z := k1 b u e
    have lt := Heap.lt_size z
    show (sortedHeap (s1.heap.push (seqObj "list" vs.toArray 0)) s1.heap.objs.size vs _).get? b = some u
    rw [sortedHeap_old (Nat.ne_of_lt lt) (by rw [size_push']; exact Nat.lt_succ_of_lt lt)]
    exact Heap.get?_push_of_some _ z
  · rw [pn.mem_iff, ← r.mem y]
  · rw [pn.length_eq, List.length_map, Array.length_toList]
    exact r.len
end
section
variable {X : Cx} {K : PySem.W.Frag}
/-- sorted(set(xs)) -/
def tSortSet (K : PySem.W.Frag) (ta : TE) : TE := fun σ H Q => ta σ H fun x H1 => ∃ (l : Addr) (ys : List Str), x = .ref l ∧ (SqL K H1 l (ys.map V.str) ∨ SqT K H1 l (ys.map V.str)) ∧ ys.length < 64 ∧
  ∀ (zs : List Str) (p : Addr), sortedS zs = true → zs.Nodup → (∀ y, y ∈ zs ↔ y ∈ ys) → H1 p = none → Q (.ref p) (upd H1 p (.lst (zs.map V.str)))
theorem pe_sortSet {a : Expr} {ta : TE} {p p2 q pos : Pos} (calm : X.calm = true) (hg : Gl X "sorted") (hm : X.mg "sorted" = none) (hg2 : Gl X "set") (hm2 : X.mg "set" = none) (ha : PE X a ta) (hK : X.K = K := by rfl)
    (na : starEach [a] X.env = (false, eval a X.env) :: starEach [] X.env := by rfl) : PE X (.Call (.Name "sorted" p) [.Call (.Name "set" p2) [a] [] q] [] pos) (tSortSet K ta) := by
  subst hK
  refine ⟨fun pins s σ H Q I h => Call_ (ld_blt I hg hm PyProof.Rows.boot_sorted ?_)⟩
  refine PyProof.Rows.callWith_builtin1 (PyProof.Rows.args_cons (Call_ (ld_blt I hg2 hm2 PyProof.Rows.boot_set ?_)) rfl) rfl rfl
  refine PyProof.Rows.callWith_type1 (PyProof.Rows.args_cons (thn (ha.run pins s σ H _ I h) fun v s1 ⟨x, H1, I1, r1, z⟩ => PyProof.Rows.args_nil ?_) na) na rfl
  obtain ⟨l, ys, rfl, hq, few, z⟩ := z
  cases r1
  have dl := disN_le ys ys.length
  have fin2 : ∀ (s2 : Shared) (a2 : Addr), Inv X pins σ H1 s2 → TS X.w s2.heap a2 (hasY ys ys.length) (disN ys ys.length) → wpAny (model X.prog X.w) X.A (call (.builtin "sorted") [.ref a2]) (EP X pins σ Q) X.xe s2 := fun s2 a2 I2 hS => by
    refine sorted_ts hS (I2.ok.hd calm) (by omega) fun s3 p out c zs k g o hp hg hi hs nd hm hl => ?_
    have hlen : (zs.map V.str).length ≤ sizeLine := by
      rw [List.length_map, hl]
      exact Nat.le_trans (show disN ys ys.length ≤ 64 by omega) (by decide)
    have hn : H1 p = none := I2.hok.fresh hp
    have J : Inv X pins σ (upd H1 p (.lst (zs.map V.str))) { s2 with heap := s3.heap, gens := s3.gens, drawn := s3.drawn, toks := s3.toks } :=
      I2.call (ch := []) (Un.laid k hp hn) (I2.hok.laid k hp ⟨hlen, out.toList, c, vals_of_strs hi, hg⟩) (by rw [g]; exact I2.bare) (fun _ z => nomatch z)
    have e : s3 = { s2 with heap := s3.heap, gens := s3.gens, drawn := s3.drawn, toks := s3.toks } := by
      obtain ⟨x1, x2, x3, x4, x5⟩ := s3
      cases o
      rfl
    rw [e]
    refine ⟨.ref p, _, J, rfl, z zs p hs nd (fun y => (hm y).trans (hasY_iff.trans ?_)) hn⟩
    rw [List.take_length]
  have fin : ∀ (its : List Value), Vals (ys.map V.str) its → (s1.heap.IsList l its.toArray ∨ s1.heap.IsTuple l its.toArray) → wpAny (model X.prog X.w) X.A (call (.type "set") [.ref l]) (fun v s₁ => wpAny (model X.prog X.w) X.A (spliced (backTo pos (starEach [] X.env))) (fun vs s₂ => wpAny (model X.prog X.w) X.A (call (.builtin "sorted") (v :: vs)) (EP X pins σ Q) X.xe s₂) X.xe s₁) X.xe s1 := fun its rv pl => by
    refine set_ts (I1.ok.hd calm) pl (by simpa using strsAre_of rv) (by unfold scanBound; omega) fun h2 tk hS k2 => PyProof.Rows.args_nil ?_
    exact fin2 _ _ (I1.kept fun b o e => k2 b o (Heap.lt_size e) e) hS
  rcases hq with hq | hq
  · obtain ⟨its, rv, pl, _⟩ := I1.list hq
    exact fin its rv (.inl pl.isList)
  · obtain ⟨its, rv, pl, _⟩ := I1.tuple hq
    exact fin its rv (.inr pl)
end
end WT

set_option Elab.async false
set_option linter.all false
set_option maxRecDepth 100000
set_option maxHeartbeats 4000000
/-! sorted(set(xs)), xs a list of whole numbers. -/
namespace WT
open PySem PySem.Spec PyProof.Rows L2
theorem ints_at {vs : List Value} {ns : List Int} (h : IntsAre vs ns) : ∀ {i : Nat} {v : Value}, vs[i]? = some v → ∃ y t, ns[i]? = some y ∧ v = .int y t := by
  induction h with
  | nil =>
    intro i v e
    simp at e
  | cons y t _ ih =>
    intro i v e
    cases i with
    | zero =>
      cases e
      exact ⟨y, t, rfl, rfl⟩
    | succ i => exact ih e
section
variable {P : Program} {w : World} {A : Around} {E : Value → Shared → Prop} {s : Shared}
theorem set_is {l : Addr} {its : Array Value} {ys : List Int} {Q : Value → Shared → Prop} (calm : A.handled = none) (hl : s.heap.IsList l its) (hi : IntsAre its.toList ys) (room : ys.length + 1 < scanBound)
    (q : ∀ (h2 : Heap) (tk : Nat), (∃ c, c ≤ ys.length ∧ SetR w h2 s.heap.objs.size (fun j => decide (j ∈ ys)) c) → (∀ b o, b < s.heap.objs.size → s.heap.get? b = some o → h2.get? b = some o) → Q (.ref s.heap.objs.size) { s with heap := h2, toks := tk }) :
    wpAny (model P w) A (call (.type "set") [.ref l]) Q E s := by
  have esz : ys.length = its.size := by rw [← IntsAre.length hi, Array.length_toList]
  have ⟨c1, c2, hmr⟩ := PySem.F.called_set.mro
  have hm1 := PySem.F.called_set.made; have hm2 := PySem.F.called_set.sub
  refine wpAny_call (codeAny_of_tree ?_); show wpAny _ _ (callAny (.type "set") _) _ _ _
  refine wpAny_pure ⟨Code.quiet_builtin _ (by decide +kernel), codeAny_builtin PySem.F.entry_type_call ?_⟩
  rw [Around.under_plain (weight_type_call_type "set" [.ref l] []) (by rfl)]
  have hm3 := PySem.F.called_set.notType; have hm4 := PySem.F.called_set.canCreate
  have hm5 := PySem.F.typeCall_set_1 (.ref l)
  repeat (any_goals (first | assumption | wp_step))
  refine codeAny_mono (L2.code_set_led1 (.ref l) (E := E) (Q₁ := fun ob s1 => ob = .ref s.heap.objs.size ∧ s1 = { s with heap := s.heap.push (setE (byT w)) }) ⟨rfl, rfl⟩) fun r s1 hr => ?_
  cases r with
  | error e => exact hr
  | ok fl =>
    cases fl with
    | ret ob =>
      obtain ⟨rfl, rfl⟩ := hr
      have hS : (s.heap.push (setE (byT w))).get? s.heap.objs.size = some (setE (byT w)) := Heap.get?_push_size _ rfl
      have hT : Shared.TypeIs { s with heap := s.heap.push (setE (byT w)) } (.ref s.heap.objs.size) "set" := ⟨_, hS, rfl⟩
      have hm6 := PySem.F.called_set.init.lookup; have hm7 := PySem.F.called_set.init.bind (.ref s.heap.objs.size)
      repeat (any_goals (first | assumption | wp_step))
      refine codeAny_mono (codeAny_call_builtin (R := wants (fun r s2 => r = .none ∧ ∃ h2 tk, s2 = { s with heap := h2, toks := tk } ∧ (∃ c, c ≤ ys.length ∧ SetR w h2 s.heap.objs.size (fun j => decide (j ∈ ys)) c) ∧
          (∀ b o, b < s.heap.objs.size → s.heap.get? b = some o → h2.get? b = some o)) E) PySem.F.called_set.init.plain PySem.F.entry_set_init (PySem.check_set_init_1 hT ?_)) fun r2 s2 hr2 => ?_
      · have ⟨⟨ocl, odi, oda, osl⟩, hol, hcl, nl, hdl⟩ := hl
        simp only at hcl hdl
        subst hcl hdl
        have hol2 : (s.heap.push (setE (byT w))).get? l = some { cls := .type "list", dict := odi, data := .seq its nl, slots := osl } := Heap.get?_push_of_some _ hol
        have hm8 := PySem.F.sub_list_set; have hm9 := PySem.F.sub_list_frozenset
        have hm10 : (Value.type "list" == Value.type "dict") = false := by decide
        have hl2 : (s.heap.push (setE (byT w))).IsList l its := ⟨_, hol2, rfl, nl, rfl⟩
        unfold Builtin.«set.__init__» noKeywords Builtin.Frozenset.updateFrom
        generalize hIt : pyIter = It
        wp_walk
        subst hIt
        refine wpAny_pyIter_list hl2 (wpAny_bind (wpAny_runValue ?_))
        have lo : l < s.heap.objs.size := Heap.lt_size hol
        have calm3 : A.in1.in1.in1.handled = none := by simp [calm]
        have nl2 : l ≠ (s.heap.push (setE (byT w))).objs.size := by
          rw [Heap.size_push]
          exact Nat.ne_of_lt (Nat.lt_succ_of_lt lo)
        have nf : s.heap.objs.size ∉ [(s.heap.push (setE (byT w))).objs.size, l] := by
          rw [Heap.size_push]
          simp only [List.mem_cons, List.not_mem_nil, or_false, not_or]
          exact ⟨Nat.ne_of_lt (Nat.lt_succ_self _), Nat.ne_of_gt lo⟩
        have vals : ∀ (i : Nat) (v : Value), its[i]? = some v → ∃ y t, ys[i]? = some y ∧ v = .int y t := fun i v z => by
          have hlt : i < ys.length := by
            have := (Array.getElem?_eq_some_iff.mp z).1
            omega
          obtain ⟨y, t, hy, rfl⟩ := ints_at hi (show its.toList[i]? = some v by rw [Array.getElem?_toList]; exact z)
          exact ⟨y, t, hy, rfl⟩
        refine set_update_ints ((Walks.list calm3 _ l nl2 its).toS) s.heap.objs.size nf ys esz.symm room vals (its.size - 0) 0 _ (by omega) (Nat.zero_le _) ⟨⟨_, Heap.get?_push_size _ rfl, rfl, rfl⟩, (hl2.push _)⟩ ?hA ?hB
        case hA =>
          have hg : ((s.heap.push (setE (byT w))).push { cls := .type "list_iterator", data := .fields #[.ref l, .int 0 0] }).get? s.heap.objs.size = some (setE (byT w)) := Heap.get?_push_of_some _ hS
          exact ⟨0, Nat.le_refl _, setR_new_at hg⟩
        case hB =>
          intro s3 cc mv lc hS3
          obtain ⟨h3, g3, d3, tk3, os3⟩ := s3
          obtain rfl : g3 = s.gens := mv.gens
          obtain rfl : d3 = s.drawn := mv.drawn
          obtain rfl : os3 = s.os := mv.os
          show wpAny (model P w) _ _ _ _ _
          refine wpAny_pure ?_
          show wpAny (model P w) _ (ret Value.none) _ _ _
          refine wpAny_pure ⟨rfl, h3, tk3, rfl, ⟨cc, by omega, hS3⟩, fun b o lt z => ?_⟩
          refine mv.heap b o ?_ (Heap.get?_push_of_some _ (Heap.get?_push_of_some _ z))
          rw [Heap.size_push]
          simp only [List.mem_cons, List.not_mem_nil, or_false, not_or]
          exact ⟨Nat.ne_of_lt lt, Nat.ne_of_lt (Nat.lt_succ_of_lt lt)⟩
      · cases r2 with
        | error e => exact hr2
        | ok fl2 =>
          cases fl2 with
          | ret r =>
            obtain ⟨rfl, h2, tk, rfl, hS2, k2⟩ := hr2
            repeat (any_goals (first | assumption | wp_step))
            exact q _ _ hS2 k2
          | _ => exact hr2.elim
    | _ => exact hr.elim
end
section
variable {X : Cx} {K : PySem.W.Frag}
/-- sorted(set(xs)), whole numbers -/
def tSortSetI (K : PySem.W.Frag) (ta : TE) : TE := fun σ H Q => ta σ H fun x H1 => ∃ (l : Addr) (ys : List Int), x = .ref l ∧ SqL K H1 l (ys.map V.int) ∧ ys.length < 64 ∧
  ∀ (zs : List Int) (p : Addr), zs.Pairwise (· < ·) → (∀ y, y ∈ zs ↔ y ∈ ys) → zs.length ≤ ys.length → H1 p = none → Q (.ref p) (upd H1 p (.lst (zs.map V.int)))
theorem pe_sortSetI {a : Expr} {ta : TE} {p p2 q pos : Pos} (calm : X.calm = true) (hg : Gl X "sorted") (hm : X.mg "sorted" = none) (hg2 : Gl X "set") (hm2 : X.mg "set" = none) (ha : PE X a ta) (hK : X.K = K := by rfl)
    (na : starEach [a] X.env = (false, eval a X.env) :: starEach [] X.env := by rfl) : PE X (.Call (.Name "sorted" p) [.Call (.Name "set" p2) [a] [] q] [] pos) (tSortSetI K ta) := by
  subst hK
  refine ⟨fun pins s σ H Q I h => Call_ (ld_blt I hg hm PyProof.Rows.boot_sorted ?_)⟩
  refine PyProof.Rows.callWith_builtin1 (PyProof.Rows.args_cons (Call_ (ld_blt I hg2 hm2 PyProof.Rows.boot_set ?_)) rfl) rfl rfl
  refine PyProof.Rows.callWith_type1 (PyProof.Rows.args_cons (thn (ha.run pins s σ H _ I h) fun v s1 ⟨x, H1, I1, r1, z⟩ => PyProof.Rows.args_nil ?_) na) na rfl
  obtain ⟨l, ys, rfl, hq, few, z⟩ := z
  cases r1
  have fin2 : ∀ (s2 : Shared) (a2 : Addr) (c : Nat), c ≤ ys.length → Inv X pins σ H1 s2 → SetR X.w s2.heap a2 (fun j => decide (j ∈ ys)) c → wpAny (model X.prog X.w) X.A (call (.builtin "sorted") [.ref a2]) (EP X pins σ Q) X.xe s2 := fun s2 a2 c lc I2 hS => by
    refine sorted_set hS (I2.ok.hd calm) (by omega) fun s3 p out cc zs k g o hp hg hi hs hm hl => ?_
    have hlen : (zs.map V.int).length ≤ sizeLine := by
      rw [List.length_map, hl]
      exact Nat.le_trans (show c ≤ 64 by omega) (by decide)
    have hn : H1 p = none := I2.hok.fresh hp
    have J : Inv X pins σ (upd H1 p (.lst (zs.map V.int))) { s2 with heap := s3.heap, gens := s3.gens, drawn := s3.drawn, toks := s3.toks } :=
      I2.call (ch := []) (Un.laid k hp hn) (I2.hok.laid k hp ⟨hlen, out.toList, cc, vals_of_ints hi, hg⟩) (by rw [g]; exact I2.bare) (fun _ z => nomatch z)
    have e : s3 = { s2 with heap := s3.heap, gens := s3.gens, drawn := s3.drawn, toks := s3.toks } := by
      obtain ⟨x1, x2, x3, x4, x5⟩ := s3
      cases o
      rfl
    rw [e]
    exact ⟨.ref p, _, J, rfl, z zs p hs (fun y => (hm y).trans decide_eq_true_iff) (by omega) hn⟩
  obtain ⟨its, rv, pl, _⟩ := I1.list hq
  refine set_is (I1.ok.hd calm) pl.isList (by simpa using rv.ints) (by unfold scanBound; omega) fun h2 tk hS k2 => PyProof.Rows.args_nil ?_
  obtain ⟨c, lc, hS⟩ := hS
  exact fin2 _ _ c lc (I1.kept fun b o e => k2 b o (Heap.lt_size e) e) hS
end
end WT

set_option Elab.async false
set_option linter.all false
set_option maxRecDepth 100000
set_option maxHeartbeats 4000000
/-! len(set(xs)), xs a list of whole numbers. -/
namespace WT
open PySem PySem.Spec PyProof.Rows L2
section
variable {X : Cx} {K : PySem.W.Frag}
def tLenSetI (K : PySem.W.Frag) (ta : TE) : TE := fun σ H Q => ta σ H fun x H1 => ∃ (l : Addr) (ys : List Int), x = .ref l ∧ SqL K H1 l (ys.map V.int) ∧ ys.length < 64 ∧
  ∀ (zs : List Int), zs.Nodup → (∀ y, y ∈ zs ↔ y ∈ ys) → Q (.int zs.length) H1
theorem pe_lenSetI {a : Expr} {ta : TE} {p p2 q pos : Pos} (calm : X.calm = true) (hg : Gl X "len") (hm : X.mg "len" = none) (hg2 : Gl X "set") (hm2 : X.mg "set" = none) (ha : PE X a ta) (hK : X.K = K := by rfl)
    (na : starEach [a] X.env = (false, eval a X.env) :: starEach [] X.env := by rfl) : PE X (.Call (.Name "len" p) [.Call (.Name "set" p2) [a] [] q] [] pos) (tLenSetI K ta) := by
  subst hK
  refine ⟨fun pins s σ H Q I h => Call_ (ld_blt I hg hm PySem.boot_len ?_)⟩
  refine PyProof.Rows.callWith_builtin1 (PyProof.Rows.args_cons (Call_ (ld_blt I hg2 hm2 PyProof.Rows.boot_set ?_)) rfl) rfl rfl
  refine PyProof.Rows.callWith_type1 (PyProof.Rows.args_cons (thn (ha.run pins s σ H _ I h) fun v s1 ⟨x, H1, I1, r1, z⟩ => PyProof.Rows.args_nil ?_) na) na rfl
  obtain ⟨l, ys, rfl, hq, few, z⟩ := z
  cases r1
  obtain ⟨its, rv, pl, _⟩ := I1.list hq
  refine set_is (I1.ok.hd calm) pl.isList (by simpa using rv.ints) (by unfold scanBound; omega) fun h2 tk hS k2 => PyProof.Rows.args_nil ?_
  obtain ⟨c, lc, o, es, ep, t, ho, hex, hd, _, nd, hm, _, hf, hn, _⟩ := hS
  have I2 : Inv X pins σ H1 { s1 with heap := h2, toks := tk } := I1.kept fun b o e => k2 b o (Heap.lt_size e) e
  have sz : es.size = (es.toList.map keyOf).length := by rw [List.length_map, Array.length_toList]
  exact call_len_set ho hex hd hf (by rw [hn]; omega) ⟨.int es.size, H1, I2.tok _, ⟨_, rfl⟩, by
    rw [sz]
    exact z _ nd fun y => (hm y).symm.trans decide_eq_true_iff⟩
end
end WT
namespace WT
open PySem PySem.Spec PyProof.Rows L2
theorem not_nd {α : Type} [DecidableEq α] : ∀ {ys : List α}, ¬ ys.Nodup → ∃ zs : List α, (∀ y ∈ ys, y ∈ zs) ∧ zs.length < ys.length
  | [], h => absurd List.nodup_nil h
  | y :: ys, h => by
    by_cases c : y ∈ ys
    · exact ⟨ys, fun z hz => by
        rcases List.mem_cons.mp hz with e | hz
        · rw [e]; exact c
        · exact hz, by simp⟩
    · obtain ⟨zs, h1, h2⟩ := not_nd (ys := ys) fun k => h (List.nodup_cons.mpr ⟨c, k⟩)
      exact ⟨y :: zs, fun z hz => by
        rcases List.mem_cons.mp hz with e | hz
        · rw [e]; exact List.mem_cons_self
        · exact List.mem_cons_of_mem _ (h1 z hz), by simp only [List.length_cons]; omega⟩
theorem few_iff {α : Type} [DecidableEq α] {zs ys : List α} (n : zs.Nodup) (m : ∀ y, y ∈ zs ↔ y ∈ ys) : zs.length < ys.length ↔ ¬ ys.Nodup := by
  constructor
  · intro h k
    have := nodup_le k fun y hy => (m y).mpr hy
    omega
  · intro h
    obtain ⟨ws, h1, h2⟩ := not_nd h
    have := nodup_le n fun y hy => h1 y ((m y).mp hy)
    omega
theorem nd_map {α β : Type} {f : α → β} : ∀ {ms : List α}, ms.Nodup → ((ms.map f).Nodup ↔ ∀ a ∈ ms, ∀ b ∈ ms, b ≠ a → f a ≠ f b)
  | [], _ => by simp
  | m :: ms, h => by
    obtain ⟨h1, h2⟩ := List.nodup_cons.mp h
    have ih := nd_map (f := f) h2
    rw [List.map_cons, List.nodup_cons, ih]
    constructor
    · rintro ⟨k1, k2⟩ a ha b hb ne
      rcases List.mem_cons.mp ha with e | ha <;> rcases List.mem_cons.mp hb with e2 | hb
      · exact absurd (e2.trans e.symm) ne
      · rw [e]
        exact fun q => k1 (q ▸ List.mem_map.mpr ⟨b, hb, rfl⟩)
      · rw [e2]
        exact fun q => k1 (q ▸ List.mem_map.mpr ⟨a, ha, rfl⟩)
      · exact k2 a ha b hb ne
    · intro k
      refine ⟨fun q => ?_, fun a ha b hb => k a (List.mem_cons_of_mem _ ha) b (List.mem_cons_of_mem _ hb)⟩
      obtain ⟨b, hb, e⟩ := List.mem_map.mp q
      exact k m List.mem_cons_self b (List.mem_cons_of_mem _ hb) (fun z => h1 (z ▸ hb)) e.symm
end WT

set_option Elab.async false
set_option linter.all false
set_option maxRecDepth 100000
set_option maxHeartbeats 1000000
/-! builders: gateways sorted by their names; whether a wrapping gateway lies on a cycle, of any list. -/
namespace WT
open PySem PySem.Spec PyProof.Rows L2
def insG (g : Gt) : List Gt → List Gt
  | [] => [g]
  | h :: t => if Bef g.1 h.1 then g :: h :: t else h :: insG g t
def sortG : List Gt → List Gt
  | [] => []
  | g :: t => insG g (sortG t)
theorem ins_perm (g : Gt) : ∀ l, (insG g l).Perm (g :: l)
  | [] => .refl _
  | h :: t => by
    unfold insG
    by_cases c : Bef g.1 h.1
    · rw [if_pos c]
    · rw [if_neg c]
      exact ((ins_perm g t).cons h).trans (.swap g h t)
theorem sort_perm : ∀ l, (sortG l).Perm l
  | [] => .refl _
  | g :: t => (ins_perm g (sortG t)).trans ((sort_perm t).cons g)
theorem ins_asc {g : Gt} : ∀ {l : List Gt}, AscS (l.map (·.1)) → g.1 ∉ l.map (·.1) → AscS ((insG g l).map (·.1))
  | [], _, _ => by
    unfold insG AscS
    simp
  | h :: t, a, n => by
    unfold insG
    obtain ⟨a1, a2⟩ := List.pairwise_cons.mp a
    by_cases c : Bef g.1 h.1
    · rw [if_pos c]
      refine List.pairwise_cons.mpr ⟨fun y hy => ?_, a⟩
      rcases List.mem_cons.mp hy with e | hy
      · rw [e]
        exact c
      · exact c.trans (a1 y hy)
    · rw [if_neg c]
      have n1 : g.1 ≠ h.1 := fun e => n (by rw [e]; exact List.mem_cons_self)
      have lt : Bef h.1 g.1 := by
        rcases str_tri h.1 g.1 with q | q | q
        · exact q
        · exact absurd q.symm n1
        · exact absurd q c
      refine List.pairwise_cons.mpr ⟨fun y hy => ?_, ins_asc a2 fun z => n (List.mem_cons_of_mem _ z)⟩
      rcases List.mem_cons.mp (((ins_perm g t).map (·.1)).mem_iff.mp hy) with e | hy
      · rw [e]
        exact lt
      · exact a1 y hy
theorem sort_asc : ∀ {l : List Gt}, (l.map (·.1)).Nodup → AscS ((sortG l).map (·.1))
  | [], _ => List.Pairwise.nil
  | g :: t, n => by
    obtain ⟨n1, n2⟩ := List.nodup_cons.mp n
    exact ins_asc (sort_asc n2) fun z => n1 (((sort_perm t).map (·.1)).mem_iff.mp z)
/-- names in order: one order only -/
theorem asc_only : ∀ {l m : List Gt}, l.Perm m → AscS (l.map (·.1)) → AscS (m.map (·.1)) → l = m
  | [], m, p, _, _ => (List.nil_perm.mp p).symm
  | g :: l, [], p, _, _ => absurd p.length_eq (by simp)
  | g :: l, h :: m, p, a, b => by
    obtain ⟨a1, a2⟩ := List.pairwise_cons.mp a
    obtain ⟨b1, b2⟩ := List.pairwise_cons.mp b
    have e : g = h := by
      rcases List.mem_cons.mp (p.mem_iff.mp List.mem_cons_self) with e | e
      · exact e
      · rcases List.mem_cons.mp (p.mem_iff.mpr List.mem_cons_self) with f | f
        · exact f.symm
        · have k1 := a1 h.1 (List.mem_map.mpr ⟨h, f, rfl⟩)
          have k2 := b1 g.1 (List.mem_map.mpr ⟨g, e, rfl⟩)
          exact absurd rfl (k1.trans k2).ne
    subst e
    rw [asc_only ((List.perm_cons g).mp p) a2 b2]
theorem sort_only {l m : List Gt} (p : l.Perm m) (a : AscS (l.map (·.1))) : l = sortG m := asc_only (p.trans (sort_perm m).symm) a (sort_asc ((p.map (·.1)).nodup_iff.mp a.nodup))
theorem sort_eq {l m : List Gt} (p : l.Perm m) (n : (l.map (·.1)).Nodup) : sortG l = sortG m := sort_only ((sort_perm l).trans p) (sort_asc n)
theorem sort_len (l : List Gt) : (sortG l).length = l.length := (sort_perm l).length_eq
/-! ### cycles -/
/-- two members are connected without the gateway -/
def OnC (gs : List Gt) (g : Gt) : Prop := ∃ a ∈ g.2.1, ∃ b ∈ g.2.1, b ≠ a ∧ Conn gs [g.1] a b
/-- some wrapping gateway lies on a cycle -/
def Noisy (gs : List Gt) : Prop := ∃ g ∈ gs, g.2.2 = ("wrap" : Str) ∧ OnC gs g
theorem conn_mono {gs hs : List Gt} {bar : List Str} (s : ∀ g ∈ gs, g ∈ hs) {x y : Str} (h : Conn gs bar x y) : Conn hs bar x y := by
  induction h with
  | refl => exact .refl
  | step _ a ih =>
    obtain ⟨g, h1, h2⟩ := a
    exact ih.step ⟨g, s g h1, h2⟩
theorem Noisy.mono {gs hs : List Gt} (s : ∀ g ∈ gs, g ∈ hs) (h : Noisy gs) : Noisy hs := by
  obtain ⟨g, hg, w, a, ha, b, hb, n, c⟩ := h
  exact ⟨g, s g hg, w, a, ha, b, hb, n, conn_mono s c⟩
theorem noisy_perm {gs hs : List Gt} (p : gs.Perm hs) : Noisy gs ↔ Noisy hs := ⟨.mono fun g h => p.mem_iff.mp h, .mono fun g h => p.mem_iff.mpr h⟩
theorem onc_iff {gs : List Gt} {rs : List Str} (W : Wds gs rs) {g : Gt} (hg : g ∈ gs) : OnC gs g ↔ cycT gs rs g ≠ none := by
  rw [Ne, cycT_none W.sub hg, Classical.not_not]
  constructor
  · rintro ⟨a, ha, b, hb, n, c⟩
    rcases str_tri a b with q | q | q
    · exact ⟨a, ha, b, hb, q, c⟩
    · exact absurd q.symm n
    · exact ⟨b, hb, a, ha, q, c.symm⟩
  · rintro ⟨a, ha, b, hb, q, c⟩
    exact ⟨a, ha, b, hb, fun e => by subst e; exact str_irrefl q rfl, c⟩
theorem noisy_iff {gs : List Gt} {rs : List Str} (W : Wds gs rs) : Noisy gs ↔ scyc gs rs ≠ none := by
  constructor
  · rintro ⟨g, hg, w, o⟩ e
    exact (onc_iff W hg).mp o (scyc_none.mp e g (List.mem_filter.mpr ⟨hg, decide_eq_true w⟩))
  · intro h
    cases e : scyc gs rs with
    | none => exact absurd e h
    | some c =>
      obtain ⟨⟨g, hg, e2⟩, _⟩ := scyc_some e
      obtain ⟨h1, h2⟩ := List.mem_filter.mp hg
      exact ⟨g, h1, of_decide_eq_true h2, (onc_iff W h1).mpr (by rw [e2]; exact fun z => nomatch z)⟩
theorem scyc_names {gs : List Gt} {rs : List Str} (W : Wds gs rs) {c : List (Str × Str)} (h : scyc gs rs = some c) : 2 ≤ c.length ∧ c.length ≤ rs.length ∧ ∀ p ∈ c, p.2 ∈ gs.map (·.1) := by
  obtain ⟨⟨g, hg, e⟩, _⟩ := scyc_some h
  obtain ⟨i, _, _, _⟩ := cycT_some W.nd W.sub (List.mem_filter.mp hg).1 e
  refine ⟨i.two, i.short, fun p hp => ?_⟩
  obtain ⟨j, hj⟩ := List.getElem?_of_mem hp
  have lj := (List.getElem?_eq_some_iff.mp hj).1
  have two := i.two
  have ln : ((c.map (·.1)).tail ++ (c.map (·.1)).take 1).length = c.length := by
    rw [List.length_append, List.length_tail, List.length_take, List.length_map]
    omega
  obtain ⟨g', h1, h2, _⟩ := i.join j p _ hj (List.getElem?_eq_getElem (by rw [ln]; exact lj))
  exact List.mem_map.mpr ⟨g', h1, h2⟩
end WT

set_option Elab.async false
set_option linter.all false
set_option maxRecDepth 100000
set_option maxHeartbeats 1000000
/-! Trees of gateways, and trees with one gateway more: the cycles through each gateway. -/
namespace WT
open PySem PySem.Spec PyProof.Rows L2
/-- every gateway has two members, and parts the regions in two -/
structure TreeG (rs : List Str) (gs : List Gt) : Prop where
  nd : (gs.map (·.1)).Nodup
  sub : ∀ g ∈ gs, ∀ z ∈ g.2.1, z ∈ rs
  part : ∀ g ∈ gs, ∃ (a b : Str) (S : Str → Bool), a ≠ b ∧ (∀ y, y ∈ g.2.1 ↔ y = a ∨ y = b) ∧ S a ≠ S b ∧ ∀ h ∈ gs, h.1 ≠ g.1 → ∀ x ∈ h.2.1, ∀ y ∈ h.2.1, S x = S y
  conn : ∀ x ∈ rs, ∀ y ∈ rs, Conn gs [] x y
theorem TreeG.one (r : Str) : TreeG [r] [] := ⟨List.nodup_nil, fun g h => absurd h List.not_mem_nil, fun g h => absurd h List.not_mem_nil, fun x hx y hy => by
  rw [List.mem_singleton.mp hx, List.mem_singleton.mp hy]
  exact .refl⟩
theorem TreeG.leaf {rs : List Str} {gs : List Gt} {z p : Str} {g : Gt} (T : TreeG rs gs) (hz : z ∉ rs) (hp : p ∈ rs) (hn : g.1 ∉ gs.map (·.1)) (hm : ∀ y, y ∈ g.2.1 ↔ y = z ∨ y = p) : TreeG (rs ++ [z]) (gs ++ [g]) := by
  have pz : p ≠ z := fun e => hz (e ▸ hp)
  have old : ∀ h ∈ gs, ∀ x ∈ h.2.1, x ≠ z := fun h hh x hx e => hz (e ▸ T.sub h hh x hx)
  refine ⟨?_, fun h hh y hy => ?_, fun h hh => ?_, fun x hx y hy => ?_⟩
  · rw [List.map_append]
    exact List.nodup_append.mpr ⟨T.nd, by simp, fun a ha b hb e => hn (by
      have hb : b = g.1 := by simpa using hb
      rw [← hb, ← e]
      exact ha)⟩
  · rcases List.mem_append.mp hh with hh | hh
    · exact List.mem_append_left _ (T.sub h hh y hy)
    · rw [List.mem_singleton.mp hh] at hy
      rcases (hm y).mp hy with e | e
      · rw [e]; exact List.mem_append_right _ List.mem_cons_self
      · rw [e]; exact List.mem_append_left _ hp
  · rcases List.mem_append.mp hh with hh | hh
    · obtain ⟨a, b, S, ne, mem, sd, con⟩ := T.part h hh
      have az := old h hh a ((mem a).mpr (.inl rfl))
      have bz := old h hh b ((mem b).mpr (.inr rfl))
      refine ⟨a, b, fun y => if y = z then S p else S y, ne, mem, by show (if a = z then S p else S a) ≠ (if b = z then S p else S b); rw [if_neg az, if_neg bz]; exact sd, fun k hk kn x hx y hy => ?_⟩
      show (if x = z then S p else S x) = (if y = z then S p else S y)
      rcases List.mem_append.mp hk with hk | hk
      · rw [if_neg (old k hk x hx), if_neg (old k hk y hy)]
        exact con k hk kn x hx y hy
      · rw [List.mem_singleton.mp hk] at hx hy
        have one : ∀ y, y = z ∨ y = p → (if y = z then S p else S y) = S p := fun y h => by
          rcases h with e | e
          · rw [if_pos e]
          · rw [e, if_neg pz]
        rw [one x ((hm x).mp hx), one y ((hm y).mp hy)]
    · rw [List.mem_singleton.mp hh]
      refine ⟨z, p, fun y => decide (y = z), pz.symm, hm, by show decide (z = z) ≠ decide (p = z); rw [decide_eq_true rfl, decide_eq_false pz]; simp, fun k hk kn x hx y hy => ?_⟩
      show decide (x = z) = decide (y = z)
      rcases List.mem_append.mp hk with hk | hk
      · rw [decide_eq_false (old k hk x hx), decide_eq_false (old k hk y hy)]
      · exact absurd (by rw [List.mem_singleton.mp hk]) kn
  · have up : ∀ {a b : Str}, Conn gs [] a b → Conn (gs ++ [g]) [] a b := fun h => conn_mono (fun k hk => List.mem_append_left _ hk) h
    have pzc : Conn (gs ++ [g]) [] p z := Conn.refl.step ⟨g, List.mem_append_right _ List.mem_cons_self, by simp, (hm p).mpr (.inr rfl), (hm z).mpr (.inl rfl)⟩
    have toP : ∀ x ∈ rs ++ [z], Conn (gs ++ [g]) [] p x := fun x hx => by
      rcases List.mem_append.mp hx with hx | hx
      · exact up (T.conn p hp x hx)
      · rw [List.mem_singleton.mp hx]
        exact pzc
    exact (toP x hx).symm.trans (toP y hy)
theorem TreeG.perm {rs rs' : List Str} {gs gs' : List Gt} (T : TreeG rs gs) (p : gs'.Perm gs) (r : ∀ x, x ∈ rs' ↔ x ∈ rs) : TreeG rs' gs' := by
  refine ⟨(p.map _).nodup_iff.mpr T.nd, fun g hg z hz => (r z).mpr (T.sub g (p.mem_iff.mp hg) z hz), fun g hg => ?_, fun x hx y hy => conn_mono (fun k hk => p.mem_iff.mpr hk) (T.conn x ((r x).mp hx) y ((r y).mp hy))⟩
  obtain ⟨a, b, S, ne, mem, sd, con⟩ := T.part g (p.mem_iff.mp hg)
  exact ⟨a, b, S, ne, mem, sd, fun k hk => con k (p.mem_iff.mp hk)⟩
/-- what every gateway but the barred ones keeps, a way keeps -/
theorem conn_keep {gs : List Gt} {bar : List Str} {S : Str → Bool} (h : ∀ g ∈ gs, g.1 ∉ bar → ∀ x ∈ g.2.1, ∀ y ∈ g.2.1, S x = S y) {x y : Str} (c : Conn gs bar x y) : S x = S y := by
  induction c with
  | refl => rfl
  | step _ a ih =>
    obtain ⟨g, hg, nb, h1, h2⟩ := a
    exact ih.trans (h g hg nb _ h1 _ h2)
theorem two_sides {S : Str → Bool} {ms : List Str} {a b : Str} (mem : ∀ y, y ∈ ms ↔ y = a ∨ y = b) (sd : S a ≠ S b) {c d : Str} (hc : c ∈ ms) (hd : d ∈ ms) (ne : d ≠ c) : S c ≠ S d := by
  rcases (mem c).mp hc with e | e <;> rcases (mem d).mp hd with f | f
  · exact absurd (f.trans e.symm) ne
  · rw [e, f]; exact sd
  · rw [e, f]; exact sd.symm
  · exact absurd (f.trans e.symm) ne
/-- in a tree no gateway lies on a cycle -/
theorem TreeG.quiet {rs : List Str} {gs : List Gt} (T : TreeG rs gs) {g : Gt} (hg : g ∈ gs) : ¬ OnC gs g := by
  rintro ⟨a, ha, b, hb, ne, c⟩
  obtain ⟨a', b', S, _, mem, sd, con⟩ := T.part g hg
  exact two_sides mem sd ha hb ne (conn_keep (fun h hh nb => con h hh fun e => nb (by rw [e]; exact List.mem_singleton.mpr rfl)) c)
theorem cyc_onc {gs : List Gt} {g : Gt} {n : Nat} (h : CycW gs g n) : OnC gs g := by
  obtain ⟨a, ha, b, hb, ne, l, p, _⟩ := h
  exact ⟨a, ha, b, hb, ne, p.conn⟩
/-- a simple way changes sides of a gateway exactly if it uses it -/
theorem side_path {gs : List Gt} {bar : List Str} {g : Gt} {S : Str → Bool} (nd : (gs.map (·.1)).Nodup) (hg : g ∈ gs) {a b : Str} (mem : ∀ y, y ∈ g.2.1 ↔ y = a ∨ y = b) (sd : S a ≠ S b) (con : ∀ h ∈ gs, h.1 ≠ g.1 → ∀ x ∈ h.2.1, ∀ y ∈ h.2.1, S x = S y) {x y : Str} {l : List (Str × Str)}
    (p : SPath gs bar x l y) : (x :: l.map (·.2)).Nodup → (l.map (·.1)).Nodup → ((g.1 ∉ l.map (·.1) → S x = S y) ∧ (g.1 ∈ l.map (·.1) → S x ≠ S y)) := by
  induction p with
  | nil => exact fun _ _ => ⟨fun _ => rfl, fun h => absurd h List.not_mem_nil⟩
  | @cons x n z y l s t ih =>
    intro r m
    rw [List.map_cons] at r m
    obtain ⟨r1, r2⟩ := List.nodup_cons.mp r
    obtain ⟨m1, m2⟩ := List.nodup_cons.mp m
    obtain ⟨i1, i2⟩ := ih r2 m2
    obtain ⟨h, hh, en, _, h1, h2⟩ := s
    rw [List.map_cons]
    by_cases c : n = g.1
    · have : h = g := by_name nd hh hg (en.trans c)
      subst this
      have xz : z ≠ x := fun e => r1 (by rw [e]; exact List.mem_cons_self)
      have d := two_sides mem sd h1 h2 xz
      have e := i1 (by rw [← c]; exact m1)
      refine ⟨fun z => absurd (by rw [← c]; exact List.mem_cons_self) z, fun _ => ?_⟩
      rw [← e]
      exact d
    · have e := con h hh (fun q => c (en.symm.trans q)) x h1 z h2
      refine ⟨fun q => e.trans (i1 fun w => q (List.mem_cons_of_mem _ w)), fun q => ?_⟩
      rw [e]
      exact i2 ((List.mem_cons.mp q).resolve_left fun w => c w.symm)
theorem cut_first_at {α : Type} [DecidableEq α] {a : α} : ∀ {l : List α}, a ∈ l → l = l.takeWhile (· ≠ a) ++ a :: (l.dropWhile (· ≠ a)).tail
  | [], h => nomatch h
  | x :: l, h => by
    by_cases c : x = a
    · subst c
      simp
    · have := cut_first_at ((List.mem_cons.mp h).resolve_left fun z => c z.symm)
      rw [List.takeWhile_cons_of_pos (by simpa using c), List.dropWhile_cons_of_pos (by simpa using c), List.cons_append, ← this]
theorem last_mem {α : Type} : ∀ (y : α) (ys : List α), ys.getLastD y ∈ y :: ys
  | y, [] => List.mem_cons_self
  | y, z :: ys => by
    rw [List.getLastD_cons]
    exact List.mem_cons_of_mem _ (last_mem z ys)
/-- a tree, a way in it, and one gateway more between its ends -/
structure Uni (rs : List Str) (gs : List Gt) (l : List (Str × Str)) (one other : Str) (e : Gt) (gs' : List Gt) : Prop where
  T : TreeG rs gs
  G : GoodP gs [] rs one l
  en : lastOf one l = other
  ne : other ≠ one
  o1 : one ∈ rs
  o2 : other ∈ rs
  mem : ∀ y, y ∈ e.2.1 ↔ y = one ∨ y = other
  new : e.1 ∉ gs.map (·.1)
  p : gs'.Perm (gs ++ [e])
section
variable {rs : List Str} {gs : List Gt} {l : List (Str × Str)} {one other : Str} {e : Gt} {gs' : List Gt}
abbrev around (l : List (Str × Str)) (e : Gt) : List Str := l.map (·.1) ++ [e.1]
theorem Uni.way (U : Uni rs gs l one other e gs') : SPath gs [] one l other := by
  have := U.G.last
  rwa [U.en] at this
theorem Uni.ndg (U : Uni rs gs l one other e gs') : (gs'.map (·.1)).Nodup := by
  refine (U.p.map _).nodup_iff.mpr ?_
  rw [List.map_append]
  refine List.nodup_append.mpr ⟨U.T.nd, by simp, fun a ha b hb q => U.new ?_⟩
  have hb : b = e.1 := by simpa using hb
  rw [← hb, ← q]
  exact ha
theorem Uni.in_ (U : Uni rs gs l one other e gs') {g : Gt} : g ∈ gs' ↔ g ∈ gs ∨ g = e := by
  rw [U.p.mem_iff, List.mem_append, List.mem_singleton]
theorem Uni.wds (U : Uni rs gs l one other e gs') : Wds gs' rs := ⟨U.ndg, fun g hg z hz => by
  rcases U.in_.mp hg with h | h
  · exact U.T.sub g h z hz
  · subst h
    rcases (U.mem z).mp hz with q | q <;> rw [q]
    · exact U.o1
    · exact U.o2⟩
theorem Uni.nms (U : Uni rs gs l one other e gs') : ∀ n ∈ l.map (·.1), n ∈ gs.map (·.1) := by
  have h := U.way
  clear U
  induction h with
  | nil => exact fun n hn => absurd hn List.not_mem_nil
  | cons s _ ih =>
    obtain ⟨g, hg, q, _⟩ := s
    intro n hn
    rw [List.map_cons] at hn
    rcases List.mem_cons.mp hn with w | hn
    · rw [w]
      exact List.mem_map.mpr ⟨g, hg, q⟩
    · exact ih n hn
theorem Uni.nda (U : Uni rs gs l one other e gs') : (around l e).Nodup :=
  List.nodup_append.mpr ⟨U.G.gat, by simp, fun a ha b hb q => U.new (by
    have hb : b = e.1 := by simpa using hb
    rw [← hb, ← q]
    exact U.nms a ha)⟩
/-- the sides of a gateway of the tree: the new one changes sides exactly if the way uses the gateway -/
theorem Uni.sides (U : Uni rs gs l one other e gs') {g : Gt} (hg : g ∈ gs) : ∃ S : Str → Bool, (∀ c ∈ g.2.1, ∀ d ∈ g.2.1, d ≠ c → S c ≠ S d) ∧ (∀ h ∈ gs, h.1 ≠ g.1 → ∀ x ∈ h.2.1, ∀ y ∈ h.2.1, S x = S y) ∧ (g.1 ∉ l.map (·.1) → S one = S other) ∧ (g.1 ∈ l.map (·.1) → S one ≠ S other) := by
  obtain ⟨a, b, S, _, mem, sd, con⟩ := U.T.part g hg
  obtain ⟨h1, h2⟩ := side_path U.T.nd hg mem sd con U.way U.G.reg U.G.gat
  exact ⟨S, fun c hc d hd n => two_sides mem sd hc hd n, con, h1, h2⟩
theorem Uni.ends (U : Uni rs gs l one other e gs') {S : Str → Bool} (h : S one = S other) : ∀ x ∈ e.2.1, ∀ y ∈ e.2.1, S x = S y := fun x hx y hy => by
  rcases (U.mem x).mp hx with q | q <;> rcases (U.mem y).mp hy with r | r <;> rw [q, r]
  · exact h
  · exact h.symm
theorem Uni.endsN (U : Uni rs gs l one other e gs') {S : Str → Bool} (h : S one ≠ S other) : ∀ x ∈ e.2.1, ∀ y ∈ e.2.1, y ≠ x → S x ≠ S y := fun x hx y hy n => by
  rcases (U.mem x).mp hx with q | q <;> rcases (U.mem y).mp hy with r | r
  · exact absurd (r.trans q.symm) n
  · rw [q, r]; exact h
  · rw [q, r]; exact h.symm
  · exact absurd (r.trans q.symm) n
/-- what lies off the way lies on no cycle -/
theorem Uni.off (U : Uni rs gs l one other e gs') {g : Gt} (hg : g ∈ gs') (n : g.1 ∉ around l e) : ¬ OnC gs' g := by
  rintro ⟨c, hc, d, hd, ne, w⟩
  have hgs : g ∈ gs := (U.in_.mp hg).resolve_right fun q => n (by rw [q]; exact List.mem_append_right _ List.mem_cons_self)
  obtain ⟨S, s1, s2, s3, _⟩ := U.sides hgs
  refine s1 c hc d hd ne (conn_keep (fun h hh nb => ?_) w)
  rcases U.in_.mp hh with q | q
  · exact s2 h q fun r => nb (by rw [r]; exact List.mem_singleton.mpr rfl)
  · rw [q]
    exact U.ends (s3 fun r => n (List.mem_append_left _ r))
/-- without two gateways of the cycle, the members of each are apart -/
theorem Uni.sep (U : Uni rs gs l one other e gs') {g h : Gt} (hg : g ∈ gs') (hh : h ∈ gs') (ng : g.1 ∈ around l e) (nh : h.1 ∈ around l e) (n : h.1 ≠ g.1) {c d : Str} (hc : c ∈ g.2.1) (hd : d ∈ g.2.1) (ne : d ≠ c) : ¬ Conn gs' [g.1, h.1] c d := by
  intro w
  have inl : ∀ {k : Gt}, k ∈ gs → k.1 ∈ around l e → k.1 ∈ l.map (·.1) := fun {k} hk nk => (List.mem_append.mp nk).resolve_right fun q => U.new (by rw [← List.mem_singleton.mp q]; exact List.mem_map.mpr ⟨k, hk, rfl⟩)
  have nb2 : ∀ {k : Gt}, k.1 ∉ [g.1, h.1] → k.1 ≠ g.1 ∧ k.1 ≠ h.1 := fun {k} nb => ⟨fun q => nb (by rw [q]; simp), fun q => nb (by rw [q]; simp)⟩
  rcases U.in_.mp hg with gi | ge <;> rcases U.in_.mp hh with hi | he
  · obtain ⟨S, s1, s2, _, s4⟩ := U.sides gi
    obtain ⟨R, r1, r2, _, r4⟩ := U.sides hi
    have key := conn_keep (S := fun y => (S y != R y)) (fun k hk nb => by
      obtain ⟨k1, k2⟩ := nb2 nb
      rcases U.in_.mp hk with q | q
      · intro x hx y hy
        show (S x != R x) = (S y != R y)
        rw [s2 k q k1 x hx y hy, r2 k q k2 x hx y hy]
      · rw [q]
        refine U.ends (S := fun y => (S y != R y)) ?_
        have a := s4 (inl gi ng)
        have b := r4 (inl hi nh)
        exact (by decide : ∀ p q r s : Bool, p ≠ q → r ≠ s → (p != r) = (q != s)) _ _ _ _ a b) w
    have a := s1 c hc d hd ne
    have b := r2 g gi n.symm c hc d hd
    have key : (S c != R c) = (S d != R d) := key
    rw [b] at key
    exact a ((by decide : ∀ p q r : Bool, (p != r) = (q != r) → p = q) _ _ _ key)
  · obtain ⟨S, s1, s2, _, s4⟩ := U.sides gi
    refine s1 c hc d hd ne (conn_keep (fun k hk nb => ?_) w)
    obtain ⟨k1, k2⟩ := nb2 nb
    rcases U.in_.mp hk with q | q
    · exact s2 k q k1
    · exact absurd (by rw [q, he]) k2
  · obtain ⟨R, _, r2, _, r4⟩ := U.sides hi
    rw [ge] at hc hd
    refine U.endsN (r4 (inl hi nh)) c hc d hd ne (conn_keep (fun k hk nb => ?_) w)
    obtain ⟨k1, k2⟩ := nb2 nb
    rcases U.in_.mp hk with q | q
    · exact r2 k q k2
    · exact absurd (by rw [q, ge]) k1
  · exact n (by rw [ge, he])
theorem spath_bar {gs : List Gt} {bar : List Str} {x y : Str} {l : List (Str × Str)} (h : SPath gs bar x l y) : ∀ n ∈ l.map (·.1), n ∉ bar := by
  induction h with
  | nil => exact fun n hn => absurd hn List.not_mem_nil
  | cons st _ ih =>
    obtain ⟨g, _, _, nb, _⟩ := st
    intro k hk
    rw [List.map_cons] at hk
    rcases List.mem_cons.mp hk with q | hk
    · rw [q]; exact nb
    · exact ih k hk
theorem spath_in {gs hs : List Gt} {bar bar' : List Str} {x y : Str} {l : List (Str × Str)} (s : ∀ g ∈ gs, g ∈ hs) (h : SPath gs bar x l y) : (∀ n ∈ l.map (·.1), n ∉ bar') → SPath hs bar' x l y := by
  induction h with
  | nil => exact fun _ => .nil _
  | cons st _ ih =>
    intro nb
    obtain ⟨g, hg, q, _, h1, h2⟩ := st
    exact .cons ⟨g, s g hg, q, nb _ (by rw [List.map_cons]; exact List.mem_cons_self), h1, h2⟩ (ih fun n hn => nb n (by rw [List.map_cons]; exact List.mem_cons_of_mem _ hn))
/-- each gateway of the way, and the new one, lies on the cycle -/
theorem Uni.on (U : Uni rs gs l one other e gs') {g : Gt} (hg : g ∈ gs') (n : g.1 ∈ around l e) : CycW gs' g (1 + l.length) := by
  have sb : ∀ k ∈ gs, k ∈ gs' := fun k hk => U.in_.mpr (.inl hk)
  have ein : e ∈ gs' := U.in_.mpr (.inr rfl)
  rcases U.in_.mp hg with gi | ge
  · have nl : g.1 ∈ l.map (·.1) := (List.mem_append.mp n).resolve_right fun q => U.new (by rw [← List.mem_singleton.mp q]; exact List.mem_map.mpr ⟨g, gi, rfl⟩)
    obtain ⟨m1, q, m2, rfl, _, eq, _⟩ := cut_map (l := l) (f := (·.1)) (l1 := (l.map (·.1)).takeWhile (· ≠ g.1)) (b := g.1) (r := ((l.map (·.1)).dropWhile (· ≠ g.1)).tail) (cut_first_at nl)
    obtain ⟨n', z⟩ := q
    have eq : n' = g.1 := eq
    subst eq
    have gat := U.G.gat
    have reg := U.G.reg
    rw [List.map_append, List.map_cons] at gat reg
    obtain ⟨x, p1, p2⟩ := U.way.split
    cases p2 with
    | cons st p2 =>
      obtain ⟨g2, hg2, q2, _, h1, h2⟩ := st
      have : g2 = g := by_name U.T.nd hg2 gi q2
      subst this
      obtain ⟨a1, a2, a3⟩ := List.nodup_append.mp gat
      obtain ⟨b1, b2⟩ := List.nodup_cons.mp a2
      have xin : x ∈ one :: m1.map (·.2) := by
        rw [p1.end_]
        cases m1.map (·.2) with
        | nil => exact List.mem_cons_self
        | cons y ys => exact List.mem_cons_of_mem _ (by rw [List.getLastD_cons]; exact last_mem y ys)
      have zx : x ≠ z := fun w => by
        have reg : ((one :: m1.map (·.2)) ++ z :: m2.map (·.2)).Nodup := reg
        exact (List.nodup_append.mp reg).2.2 x xin z List.mem_cons_self w
      have eg : e.1 ∉ [g2.1] := fun w => U.new (by rw [List.mem_singleton.mp w]; exact List.mem_map.mpr ⟨g2, gi, rfl⟩)
      have w2 : SPath gs' [g2.1] z m2 other := spath_in sb p2 fun k hk w => b1 (by rw [← List.mem_singleton.mp w]; exact hk)
      have w1 : SPath gs' [g2.1] one m1 x := spath_in sb p1 fun k hk w => a3 k hk g2.1 List.mem_cons_self (List.mem_singleton.mp w)
      refine ⟨z, h2, x, h1, zx, m2 ++ (e.1, one) :: m1, w2.app (.cons ⟨e, ein, rfl, eg, (U.mem other).mpr (.inr rfl), (U.mem one).mpr (.inl rfl)⟩ w1), ?_⟩
      rw [List.length_append, List.length_append, List.length_cons, List.length_cons]
      omega
  · rw [ge]
    exact ⟨one, (U.mem one).mpr (.inl rfl), other, (U.mem other).mpr (.inr rfl), U.ne, l, spath_in sb U.way fun k hk w => U.new (by rw [← List.mem_singleton.mp w]; exact U.nms k hk), rfl⟩
theorem Uni.named (U : Uni rs gs l one other e gs') {n : Str} (h : n ∈ around l e) : ∃ k ∈ gs', k.1 = n := by
  rcases List.mem_append.mp h with h | h
  · obtain ⟨k, hk, q⟩ := List.mem_map.mp (U.nms n h)
    exact ⟨k, U.in_.mpr (.inl hk), q⟩
  · exact ⟨e, U.in_.mpr (.inr rfl), (List.mem_singleton.mp h).symm⟩
/-- a way round a gateway of the cycle uses all others of it -/
theorem Uni.uses (U : Uni rs gs l one other e gs') {g : Gt} (hg : g ∈ gs') (ng : g.1 ∈ around l e) {c d : Str} {m : List (Str × Str)} (hc : c ∈ g.2.1) (hd : d ∈ g.2.1) (ne : d ≠ c) (p : SPath gs' [g.1] c m d) {n : Str} (h : n ∈ around l e) (hn : n ≠ g.1) : n ∈ m.map (·.1) := by
  obtain ⟨k, hk, rfl⟩ := U.named h
  by_cases q : k.1 ∈ m.map (·.1)
  · exact q
  · have free : ∀ x ∈ m.map (·.1), x ≠ g.1 := fun x hx z => by
      have := spath_bar p x hx
      exact this (by rw [z]; exact List.mem_singleton.mpr rfl)
    exact absurd (spath_in (fun _ h => h) p fun x hx w => by
      rcases List.mem_cons.mp w with z | z
      · exact free x hx z
      · exact q (by rw [← List.mem_singleton.mp z]; exact hx)).conn (U.sep hg hk ng h hn hc hd ne)
/-- what cycle_through finds: just this cycle -/
theorem Uni.cyc (U : Uni rs gs l one other e gs') {g : Gt} (hg : g ∈ gs') (ng : g.1 ∈ around l e) {c : List (Str × Str)} (h : cycT gs' rs g = some c) : (c.map (·.2)).Perm (around l e) := by
  have W := U.wds
  obtain ⟨I, _, _, _⟩ := cycT_some W.nd W.sub hg h
  obtain ⟨c2, e2, lo⟩ := cyc_way W hg (U.on hg ng)
  rw [h] at e2
  cases e2
  have h0 := h
  unfold cycT at h0
  obtain ⟨⟨a, m⟩, hb, rfl⟩ := Option.map_eq_some_iff.mp h0
  obtain ⟨b, h1, h2, h3, h4⟩ := mem_fs.mp (best_some hb).1
  obtain ⟨G, em⟩ := spath_good W.nd W.sub (W.sub g hg a h1) h4
  have sp : SPath gs' [g.1] a m b := by
    have := G.last
    rwa [em] at this
  have nm : (cycOf g.1 (a, m)).map (·.2) = g.1 :: m.map (·.1) := by
    unfold cycOf
    rw [List.map_cons, (zip_maps a m).2]
  have nd1 := I.gat
  have sub : ∀ x ∈ around l e, x ∈ (cycOf g.1 (a, m)).map (·.2) := fun x hx => by
    rw [nm]
    by_cases q : x = g.1
    · rw [q]; exact List.mem_cons_self
    · exact List.mem_cons_of_mem _ (U.uses hg ng h1 h2 (str_irrefl h3).symm sp hx q)
  refine (List.perm_ext_iff_of_nodup nd1 U.nda).mpr fun x => ⟨fun hx => ?_, sub x⟩
  by_cases q : x ∈ around l e
  · exact q
  · have k := nodup_le (ks := x :: around l e) (rs := (cycOf g.1 (a, m)).map (·.2)) (List.nodup_cons.mpr ⟨q, U.nda⟩) fun y hy => by
      rcases List.mem_cons.mp hy with z | z
      · rw [z]; exact hx
      · exact sub y z
    rw [List.length_cons, List.length_append, List.length_map, List.length_map, List.length_singleton] at k
    omega
theorem Uni.girth_some (U : Uni rs gs l one other e gs') (h : ∃ g ∈ gs', g.2.2 = ("wrap" : Str) ∧ g.1 ∈ around l e) : ∃ c, scyc gs' rs = some c ∧ c.length = 1 + l.length ∧ (c.map (·.2)).Perm (around l e) ∧ IsCyc gs' rs c := by
  obtain ⟨g, hg, hw, hn⟩ := h
  have W := U.wds
  cases es : scyc gs' rs with
  | none =>
    obtain ⟨c, e2, _⟩ := cyc_way W hg (U.on hg hn)
    rw [scyc_none.mp es g (List.mem_filter.mpr ⟨hg, decide_eq_true hw⟩)] at e2
    cases e2
  | some c =>
    obtain ⟨⟨g2, hg2, e2⟩, _⟩ := scyc_some es
    have hg2 := (List.mem_filter.mp hg2).1
    have n2 : g2.1 ∈ around l e := Classical.byContradiction fun z => U.off hg2 z (cyc_onc (cyc_is W hg2 e2))
    have p := U.cyc hg2 n2 e2
    refine ⟨c, rfl, ?_, p, (cycT_some W.nd W.sub hg2 e2).1⟩
    have := p.length_eq
    rw [List.length_map, List.length_append, List.length_map, List.length_singleton] at this
    omega
theorem Uni.girth_none (U : Uni rs gs l one other e gs') (h : ∀ g ∈ gs', g.2.2 = ("wrap" : Str) → g.1 ∉ around l e) : scyc gs' rs = none := by
  refine girth_no U.wds fun g hg n w => ?_
  obtain ⟨h1, h2⟩ := List.mem_filter.mp hg
  exact U.off h1 (h g h1 (of_decide_eq_true h2)) (cyc_onc w)
theorem Uni.onc (U : Uni rs gs l one other e gs') {g : Gt} (hg : g ∈ gs') : OnC gs' g ↔ g.1 ∈ around l e :=
  ⟨fun h => Classical.byContradiction fun z => U.off hg z h, fun h => cyc_onc (U.on hg h)⟩
end
/-- the names that pickG keeps, by what lies on a cycle -/
theorem pick_mem {gs hs : List Gt} {rs : List Str} (W : Wds gs rs) (sub : ∀ g ∈ hs, g ∈ gs) (b : Bool) {n : Str} : n ∈ pickG gs rs b hs ↔ ∃ g ∈ hs, g.1 = n ∧ (b = true ↔ OnC gs g) := by
  unfold pickG
  rw [List.mem_map]
  constructor
  · rintro ⟨g, hg, e⟩
    obtain ⟨h1, h2⟩ := List.mem_filter.mp hg
    refine ⟨g, h1, e, ?_⟩
    have h2 : (cycT gs rs g).isSome = b := by simpa using h2
    rw [onc_iff W (sub g h1), ← h2]
    cases cycT gs rs g <;> simp
  · rintro ⟨g, hg, e, i⟩
    refine ⟨g, List.mem_filter.mpr ⟨hg, ?_⟩, e⟩
    rw [onc_iff W (sub g hg)] at i
    cases h : cycT gs rs g <;> cases b <;> simp [h] at i ⊢
theorem pick_asc {gs hs : List Gt} {rs : List Str} {b : Bool} (a : AscS (hs.map (·.1))) : AscS (pickG gs rs b hs) := by
  unfold pickG
  exact List.Pairwise.sublist (List.Sublist.map _ List.filter_sublist) a
end WT

set_option Elab.async false
set_option linter.all false
set_option maxRecDepth 100000
set_option maxHeartbeats 4000000
namespace K13
open PySem PySem.Spec PyProof.Rows L2 WT
abbrev st_on_cycle : Stmt := top 26
theorem sc_on_cycle : FnScope ["_law_world", "_law_found", "_law_name", "_law_inside", "_law_kind", "_law_group", "_law_region"] ["_law_world"] (defScope st_on_cycle) := ⟨rfl, rfl, rfl, by decide +kernel, rfl, by decide +kernel, by decide +kernel⟩
section
variable {P : Program} {w : World} {K : PySem.W.Frag} {mg : Str → Option Value} {base : Heap} {f fG : Addr} {fd fdG : FuncData}
/-- on_cycle(world) -/
def spOnc : Sp := fun vs H Q _ => ∃ (wa r g : Addr) (as : List Addr) (rs : List Str) (gs : List Gt), vs = [.ref wa] ∧ WorldAt H wa r g as rs gs ∧ rs.Nodup ∧ rs.length ≤ 60 ∧ gs.length ≤ 60 ∧
  (∀ g ∈ gs, g.2.1 ≠ [] ∧ g.2.1.Nodup ∧ g.2.1.length ≤ 60 ∧ ∀ y ∈ g.2.1, y ∈ rs) ∧ ∀ (H' : Hp) (p : Addr) (ns : List Str), Same H H' → H p = none → H' p = some (.lst (ns.map V.str)) → ns.length ≤ gs.length → (∀ n, n ∈ ns ↔ ∃ g ∈ gs, g.1 = n ∧ OnC gs g) → Q (.ref p) H'
theorem ok_on_cycle (F : Fun K "_law_on_cycle" "_law_on_cycle" st_on_cycle f fd) (B : Blt mg) (hset : mg "set" = none) (F_groups : Df P w K mg base "_law_groups" 1 fG fdG ["_law_world", "_law_barred"] (spGroups K)) :
    FnG P w K mg base CX0 2 f fd ["_law_world"] spOnc := by
  refine okG F sc_on_cycle (fun vs H Q E h => ?_) (fun cdv A outer s H vs Q E hgd hr h => ?_)
  · obtain ⟨_, _, _, _, _, _, rfl, _⟩ := h
    rfl
  · obtain ⟨wa, r, g, as, rs, gs, rfl, hw, ndr, hrl, hgl, each, q⟩ := h
    refine ⟨_, (pss_cons (ps_set (i := 1) sc_on_cycle.nd rfl (.inl rfl) (pe_lst pa_nil))
      (pss_cons (ps_for PassesOwn.never rfl (pi_tup (pe_ix ix_tup (pv 0) pe_int (fun _ _ => rfl))) (pg_tup rfl (pgs_cons (pg_name (i := 2) sc_on_cycle.nd rfl (.inl rfl)) (pgs_cons (pg_name (i := 3) sc_on_cycle.nd rfl (.inl rfl)) (pgs_cons (pg_name (i := 4) sc_on_cycle.nd rfl (.inl rfl)) pgs_nil))))
       (pss_cons (ps_set (i := 5) sc_on_cycle.nd rfl (.inr rfl) (pe_callG hgd F_groups.G (hr.mono (by decide)) (by rfl) F_groups.g F_groups.kp F_groups.bd pass0 (pa_cons (pv 0) (pa_cons (pe_tup (pa_cons (pv 2) pa_nil)) pa_nil))))
       (pss_one (ps_if (pt_cmpR op_lt (pe_lenSetI (K := K) (by rfl) (by rfl) B.len (by rfl) hset (pe_lc (own := [("_law_region", 6)]) (by rfl) sc_on_cycle.nd (pi_tup (pv 3)) (blkOk_by (own := [("_law_region", 6)]) (N := ["_law_world", "_law_found", "_law_name", "_law_inside", "_law_kind", "_law_group", "_law_region"]) (sc := defScope st_on_cycle) (by decide +kernel)) (fun _ _ _ _ _ => (pg_name (i := 6) sc_on_cycle.nd rfl (.inl rfl))) (fun _ _ _ _ _ => pts_nil) (fun _ _ _ _ _ => (pe_dget (hu_of hr) (pv 5) (pv 6) (fun _ _ => rfl))))) (pe_callB call_len (by rfl) B.len (by decide +kernel) (pa_cons (pv 3) pa_nil)) (nomark _))
        (pss_one (ps_expr (pe_bm PySem.F.plainAttrs_list PySem.F.slot_list_append PySem.F.type_list_append mt_append (pv 1) (pa_cons (pv 2) pa_nil))))
        pss_nil))))
      (pss_one (ps_ret (pv 1))))), ?_⟩
    have hlen := Paired.length hw.each
    refine ⟨(by show 0 ≤ sizeLine; decide), fun D nD => ?_⟩
    have z0 := same_new nD (o := .lst [])
    have hw0 := hw.same z0
    refine ⟨_, rfl, wa, _, 1, .ref g, rfl, rfl, SqT.of hw0.top, atI_nat (j := 1) rfl, g, rfl, ⟨_, SqT.of hw0.gat⟩, for_it (walk_tup (xs := as.map V.ref))
      (fun j σ H' => ∃ (v2 v3 v4 v5 : Option V) (ns : List Str), σ = [some (.ref wa), some (.ref D), v2, v3, v4, v5, none] ∧ Same H H' ∧ H' D = some (.lst (ns.map V.str)) ∧ ns.length ≤ j ∧ ∀ n, n ∈ ns ↔ ∃ g ∈ gs.take j, g.1 = n ∧ OnC gs g)
      ⟨none, none, none, none, [], rfl, z0, upd_same, Nat.le_refl _, fun n => ⟨fun h => absurd h List.not_mem_nil, fun ⟨_, h, _⟩ => absurd h List.not_mem_nil⟩⟩ (fun j σ H' _ ⟨_, _, _, _, _, _, s', _⟩ => SqT.of (hw.same s').gat) (fun j v σ H1 H2 hj hP hY => ?_) (fun σ H1 hP => ?_)⟩
    · obtain ⟨v2, v3, v4, v5, ns, rfl, s2, hD, lns, hns⟩ := hP
      obtain ⟨rfl, hv⟩ := hY
      rw [List.length_map] at hj
      rw [List.getElem?_map, List.getElem?_eq_getElem hj] at hv
      cases hv
      have hw2 := hw.same s2
      obtain ⟨gg, hgg, ia, e1, e2⟩ := pair_at hw2.each (List.getElem?_eq_getElem hj)
      have ggm : gg ∈ gs := List.mem_of_getElem? hgg
      obtain ⟨gne, gnd, gl, gsub⟩ := each gg ggm
      have nxt : ∀ n, (∃ g ∈ gs.take (j + 1), g.1 = n ∧ OnC gs g) ↔ (∃ g ∈ gs.take j, g.1 = n ∧ OnC gs g) ∨ (gg.1 = n ∧ OnC gs gg) := fun n => by
        rw [List.take_add_one, hgg]
        constructor
        · rintro ⟨g, hg, h⟩
          rcases List.mem_append.mp hg with hg | hg
          · exact .inl ⟨g, hg, h⟩
          · have hg : g = gg := by simpa using hg
            rw [hg] at h
            exact .inr h
        · rintro (⟨g, hg, h⟩ | h)
          · exact ⟨g, List.mem_append_left _ hg, h⟩
          · exact ⟨gg, List.mem_append_right _ (by simp), h⟩
      refine ⟨_, [.str gg.1, .ref ia, .str gg.2.2], rfl, SqT.of e1, rfl, .str gg.1, _, rfl, .ref ia, _, rfl, .str gg.2.2, [], rfl, rfl, ?_⟩
      -- group = groups(world, (name,))
      refine ⟨_, rfl, _, rfl, (by show 1 ≤ sizeLine; decide), fun b nb => ?_⟩
      have z3 := same_new nb (o := .tup [.str gg.1])
      have hw3 := hw2.same z3
      refine ⟨wa, r, g, b, as, rs, gs, [gg.1], rfl, hw3, SqT.of upd_same, ndr, by omega, fun h hh => ⟨(each h hh).1, by have := (each h hh).2.2.1; omega, (each h hh).2.2.2⟩, fun H4 d lab s4 hd4 lb => ?_⟩
      have e24 := s4 _ _ (z3 _ _ e2)
      -- the labels of the members
      refine ⟨_, rfl, ia, rfl, ⟨_, SqT.of e24⟩, fun L nL => lc_tup (K := K) (a := ia) (xs := gg.2.1.map V.str) (fun m H' => Same H4 H' ∧ H' L = some (.lst (((gg.2.1.map lab).take m).map V.int)))
        ⟨same_new nL, upd_same⟩ (fun m H' _ ⟨s', _⟩ => SqT.of (s' _ _ e24)) (fun m v H5 hm hP => ?_) fun H5 hP => ?_⟩
      · obtain ⟨s5, hL⟩ := hP
        rw [List.getElem?_map] at hm
        obtain ⟨y, hy, rfl⟩ := Option.map_eq_some_iff.mp hm
        refine ⟨rfl, _, rfl, _, rfl, d, .int (lab y), rfl, dget_lab (s5 _ _ hd4) (gsub y (List.mem_of_getElem? hy)), _, hL, ?_, fun c o ec => ?_, ?_⟩
        · rw [List.length_map, List.length_take, List.length_map]
          exact Nat.lt_of_le_of_lt (show min m gg.2.1.length ≤ 60 by omega) (by decide)
        · rw [upd_ne (ne_of_none ec nL)]
          exact s5 _ _ ec
        · rw [upd_same, List.take_add_one, List.getElem?_map, hy, List.map_append]
          rfl
      · obtain ⟨s5, hL⟩ := hP
        rw [List.length_map, List.take_of_length_le (by rw [List.length_map]; omega)] at hL
        have s25 := z3.trans (s4.trans s5)
        refine ⟨L, gg.2.1.map lab, rfl, SqL.of hL, by rw [List.length_map]; omega, fun zs nz mz => ?_⟩
        refine ⟨_, rfl, _, gg.2.1.length, rfl, .inr ⟨_, SqT.of (s5 _ _ e24), (List.length_map ..).symm⟩, (zs.length : Int), (gg.2.1.length : Int), rfl, rfl, _, rfl, ?_⟩
        have key : ((zs.length : Int) < (gg.2.1.length : Int)) ↔ OnC gs gg := by
          have a := few_iff nz mz
          rw [List.length_map, nd_map gnd] at a
          have a2 : ((zs.length : Int) < (gg.2.1.length : Int)) ↔ zs.length < gg.2.1.length := by omega
          rw [a2, a]
          constructor
          · intro h
            refine Classical.byContradiction fun n => h fun a ha b hb ne e => n ⟨a, ha, b, hb, ne, (lb a (gsub a ha) b (gsub b hb)).mp e⟩
          · rintro ⟨a, ha, b, hb, ne, c⟩ h
            exact h a ha b hb ne ((lb a (gsub a ha) b (gsub b hb)).mpr c)
        have hD5 := s25 _ _ hD
        by_cases c : OnC gs gg
        · refine ifT (decide_eq_true (key.mpr c)) ⟨_, rfl, .inl ⟨rfl, _, SqL.of hD5⟩, _, rfl, D, _, _, rfl, rfl, hD5, ?_, ?_⟩
          · rw [List.length_map]
            exact Nat.lt_of_le_of_lt (show ns.length ≤ 60 by omega) (by decide)
          · refine ⟨_, _, _, _, ns ++ [gg.1], rfl, fun c o ec => ?_, ?_, ?_, fun n => ?_⟩
            · rw [upd_ne (ne_of_none ec nD)]
              exact s25 _ _ (s2 _ _ ec)
            · rw [upd_same, List.map_append]
              rfl
            · rw [List.length_append, List.length_singleton]
              omega
            · rw [nxt, List.mem_append, hns, List.mem_singleton]
              exact ⟨fun h => h.imp id fun e => ⟨e.symm, c⟩, fun h => h.imp id fun e => e.1.symm⟩
        · refine ifF (decide_eq_false fun z => c (key.mp z)) ⟨_, _, _, _, ns, rfl, s2.trans s25, hD5, by omega, fun n => ?_⟩
          rw [nxt, hns]
          exact ⟨.inl, fun h => h.resolve_right fun e => c e.2⟩
    · obtain ⟨v2, v3, v4, v5, ns, rfl, s2, hD, lns, hns⟩ := hP
      rw [List.length_map, hlen] at lns
      rw [List.length_map, hlen, List.take_length] at hns
      exact ⟨_, rfl, q _ D ns s2 nD hD lns hns⟩
end
end K13

set_option Elab.async false
set_option linter.all false
set_option maxRecDepth 100000
set_option maxHeartbeats 1000000
/-! trails of any data. -/
namespace WT
open PySem PySem.Spec PyProof.Rows L2
/-- the i-th part of a tuple, if it is a text -/
def partS (d : PyData) (i : Nat) : Str := match d with
  | .tuple ds => match ds[i]? with
    | some (.str s) => s
    | _ => ""
  | _ => ""
/-- two different members -/
def leadD (a b : PyData) (ms : List Str) : Bool := isIn a ms && (isIn b ms && !PyData.eqv a b)
/-- a crossing of the world -/
def crossD (gs : List Gt) (d : PyData) : Bool := match d with
  | .tuple [n, a, b] => isIn n (wrapsW gs) && gs.any fun g => isIn n [g.1] && leadD a b g.2.1
  | _ => false
/-- what stands one behind the other fits -/
noncomputable def nextD (rs : List Str) (gs : List Gt) (b c : PyData) : Bool := !decide (partS b 0 = partS c 0) && conB gs (wrapsW gs) (partS b 2) (partS c 1)
noncomputable def trailD (rs : List Str) (gs : List Gt) (d : PyData) : Bool := match d with
  | .tuple ds => ds.all (crossD gs) && (ds.zip (ds.drop 1)).all fun p => nextD rs gs p.1 p.2
  | _ => false
theorem isIn_str {d : PyData} {ss : List Str} (h : isIn d ss = true) : ∃ s ∈ ss, d = .str s := by
  cases d with
  | str s => exact ⟨s, of_decide_eq_true h, rfl⟩
  | _ => cases h
theorem isIn_one {a b : Str} : isIn (.str a) [b] = decide (b = a) := by
  show decide (a ∈ [b]) = _
  by_cases e : b = a
  · rw [decide_eq_true e, decide_eq_true (by rw [e]; exact List.mem_cons_self)]
  · rw [decide_eq_false e, decide_eq_false fun z => e (List.mem_singleton.mp z).symm]
/-- what a crossing is -/
theorem cross_parts {gs : List Gt} {d : PyData} (h : crossD gs d = true) : ∃ n a b : Str, d = .tuple [.str n, .str a, .str b] ∧ ∃ g ∈ gs, g.1 = n ∧ a ∈ g.2.1 ∧ b ∈ g.2.1 := by
  unfold crossD at h
  split at h
  · rename_i n a b
    rw [Bool.and_eq_true, List.any_eq_true] at h
    obtain ⟨h1, g, hg, h2⟩ := h
    obtain ⟨s, _, rfl⟩ := isIn_str h1
    rw [Bool.and_eq_true, isIn_one] at h2
    obtain ⟨h3, h4⟩ := h2
    unfold leadD at h4
    rw [Bool.and_eq_true, Bool.and_eq_true] at h4
    obtain ⟨x, hx, rfl⟩ := isIn_str h4.1
    obtain ⟨y, hy, rfl⟩ := isIn_str h4.2.1
    exact ⟨s, x, y, rfl, g, hg, of_decide_eq_true h3, hx, hy⟩
  · cases h
/-- with one gateway of each name -/
theorem cross_by {gs : List Gt} (nd : (gs.map (·.1)).Nodup) {n : Str} {a b : PyData} {g : Gt} (hg : g ∈ gs) (en : g.1 = n) (hw : n ∈ wrapsW gs) : crossD gs (.tuple [.str n, a, b]) = leadD a b g.2.1 := by
  have e1 : isIn (.str n) (wrapsW gs) = true := decide_eq_true hw
  show (isIn (.str n) (wrapsW gs) && gs.any fun g => isIn (.str n) [g.1] && leadD a b g.2.1) = _
  rw [e1, Bool.true_and]
  cases c : leadD a b g.2.1 with
  | true => exact List.any_eq_true.mpr ⟨g, hg, by rw [isIn_one, decide_eq_true en, c]; rfl⟩
  | false =>
    refine List.any_eq_false.mpr fun g2 h2 z => ?_
    rw [Bool.and_eq_true, isIn_one] at z
    have e2 : g2.1 = g.1 := (of_decide_eq_true z.1).trans en.symm
    have : g2 = g := by
      obtain ⟨i, hi, rfl⟩ := List.getElem_of_mem hg
      obtain ⟨j, hj, rfl⟩ := List.getElem_of_mem h2
      have q : i = j := by
        rcases Nat.lt_trichotomy i j with lt | e | lt
        · exact absurd e2.symm (List.pairwise_iff_getElem.mp (List.pairwise_map.mp nd) i j hi hj lt)
        · exact e
        · exact absurd e2 (List.pairwise_iff_getElem.mp (List.pairwise_map.mp nd) j i hj hi lt)
      subst q
      rfl
    rw [this, c] at z
    cases z.2
theorem cross_no {gs : List Gt} {n : PyData} {a b : PyData} (h : isIn n (wrapsW gs) = false) : crossD gs (.tuple [n, a, b]) = false := by
  show (isIn n (wrapsW gs) && _) = false
  rw [h]
  rfl
/-- zones of two regions are the same exactly if they are connected -/
theorem zone_same {R : Str → Str → Bool} (E : EqvB R) {rs : List Str} {x y : Str} (hx : x ∈ rs) (hy : y ∈ rs) : zoneL R rs x = zoneL R rs y ↔ R x y = true := by
  refine ⟨fun e => ?_, zone_eq E⟩
  have : y ∈ zoneL R rs y := mem_zone.mpr ⟨hy, E.refl y⟩
  rw [← e] at this
  exact (mem_zone.mp this).2
end WT

set_option Elab.async false
set_option linter.all false
set_option maxRecDepth 100000
set_option maxHeartbeats 1000000
/-! references that wrappers stand around: ("object", number), ("wrapper", gateway, start, target, end). -/
namespace WT
open PySem PySem.Spec PyProof.Rows L2
abbrev Cr := Str × Str × Str
abbrev Tr := List Cr
inductive Wv
  | obj (n : Nat)
  | wrp (g s : Str) (t : Wv) (e : Str)
inductive Vl
  | non
  | num (i : Int)
  | ref (w : Wv)
def Wv.trl : Wv → Tr
  | .obj _ => []
  | .wrp g s t e => t.trl ++ [(g, s, e)]
def Wv.no : Wv → Nat
  | .obj n => n
  | .wrp _ _ t _ => t.no
def Wv.gate : Wv → Option Str
  | .obj _ => none
  | .wrp g _ _ _ => some g
def Wv.dep : Wv → Nat
  | .obj _ => 0
  | .wrp _ _ t _ => t.dep + 1
theorem Wv.dep_trl : ∀ w : Wv, w.trl.length = w.dep
  | .obj _ => rfl
  | .wrp g s t e => by
    show (t.trl ++ [(g, s, e)]).length = t.dep + 1
    rw [List.length_append, t.dep_trl]
    rfl
def Vl.dep : Vl → Nat
  | .ref w => w.dep
  | _ => 0
/-- what a reference becomes that crosses a wrapping gateway -/
def crossR (w : Wv) (g s e : Str) : Wv := match w with
  | .wrp g' s' t e' => if g' = g then (if s' = e then t else .wrp g s' t e) else .wrp g s w e
  | .obj _ => .wrp g s w e
def crossK (k : Str) (v : Vl) (g s e : Str) : Vl := if k = ("open" : Str) then v else match v with
  | .ref w => .ref (crossR w g s e)
  | v => v
/-- what a trail becomes -/
def crossedT (t : Tr) (g s e : Str) : Tr := match t.getLast? with
  | none => t ++ [(g, s, e)]
  | some (g', s', e') => if g' = g then (if s' = e then t.dropLast else t.dropLast ++ [(g, s', e)]) else t ++ [(g, s, e)]
theorem trl_cross (w : Wv) (g s e : Str) : (crossR w g s e).trl = crossedT w.trl g s e := by
  cases w with
  | obj n => rfl
  | wrp g' s' t e' =>
    have h1 : (Wv.wrp g' s' t e').trl.getLast? = some (g', s', e') := by
      show (t.trl ++ [(g', s', e')]).getLast? = _
      rw [List.getLast?_append]
      rfl
    have h2 : (Wv.wrp g' s' t e').trl.dropLast = t.trl := by
      show (t.trl ++ [(g', s', e')]).dropLast = _
      rw [List.dropLast_concat]
    unfold crossedT
    rw [h1, h2]
    unfold crossR
    by_cases c : g' = g
    · by_cases d : s' = e
      · simp [c, d]
      · simp [c, d, Wv.trl]
    · simp [c, Wv.trl]
/-- a value passed through a reference, to the object's region; and back -/
def inwW : Wv → Vl → Vl
  | .obj _, v => v
  | .wrp g s t e, v => inwW t (crossK "wrap" v g e s)
def outW : Wv → Vl → Vl
  | .obj _, v => v
  | .wrp g s t e, v => crossK "wrap" (outW t v) g s e
def inwT (t along : Tr) : Tr := along.reverse.foldl (fun p c => crossedT p c.1 c.2.2 c.2.1) t
def outT (t along : Tr) : Tr := along.foldl (fun p c => crossedT p c.1 c.2.1 c.2.2) t
theorem wrap_open : ¬ ("wrap" : Str) = "open" := by decide +kernel
theorem crossK_wrap (w : Wv) (g s e : Str) : crossK "wrap" (.ref w) g s e = .ref (crossR w g s e) := by
  unfold crossK
  rw [if_neg wrap_open]
theorem inw_ref : ∀ (a w : Wv), ∃ u, inwW a (.ref w) = .ref u ∧ u.trl = inwT w.trl a.trl
  | .obj _, w => ⟨w, rfl, rfl⟩
  | .wrp g s t e, w => by
    obtain ⟨u, h1, h2⟩ := inw_ref t (crossR w g e s)
    refine ⟨u, ?_, ?_⟩
    · show inwW t (crossK "wrap" (.ref w) g e s) = _
      rw [crossK_wrap, h1]
    · rw [h2, trl_cross]
      show _ = inwT w.trl (t.trl ++ [(g, s, e)])
      unfold inwT
      rw [List.reverse_append]
      rfl
theorem out_ref : ∀ (a w : Wv), ∃ u, outW a (.ref w) = .ref u ∧ u.trl = outT w.trl a.trl
  | .obj _, w => ⟨w, rfl, rfl⟩
  | .wrp g s t e, w => by
    obtain ⟨u, h1, h2⟩ := out_ref t w
    refine ⟨crossR u g s e, ?_, ?_⟩
    · show crossK "wrap" (outW t (.ref w)) g s e = _
      rw [h1, crossK_wrap]
    · rw [trl_cross, h2]
      show _ = outT w.trl (t.trl ++ [(g, s, e)])
      unfold outT
      rw [List.foldl_append]
      rfl
theorem crossR_dep (w : Wv) (g s e : Str) : (crossR w g s e).dep ≤ w.dep + 1 := by
  cases w with
  | obj n => exact Nat.le_refl _
  | wrp g' s' t e' =>
    unfold crossR
    dsimp only
    split
    · split
      · show t.dep ≤ t.dep + 1 + 1
        omega
      · show t.dep + 1 ≤ t.dep + 1 + 1
        omega
    · exact Nat.le_refl _
theorem crossK_dep (k : Str) (v : Vl) (g s e : Str) : (crossK k v g s e).dep ≤ v.dep + 1 := by
  unfold crossK
  split
  · omega
  · cases v with
    | ref w => exact crossR_dep w g s e
    | _ => exact Nat.zero_le _
theorem inw_dep : ∀ (a : Wv) (v : Vl), (inwW a v).dep ≤ v.dep + a.dep
  | .obj _, v => Nat.le_refl _
  | .wrp g s t e, v => by
    have h1 := inw_dep t (crossK "wrap" v g e s)
    have h2 := crossK_dep "wrap" v g e s
    show (inwW t (crossK "wrap" v g e s)).dep ≤ v.dep + (t.dep + 1)
    omega
theorem out_dep : ∀ (a : Wv) (v : Vl), (outW a v).dep ≤ v.dep + a.dep
  | .obj _, v => Nat.le_refl _
  | .wrp g s t e, v => by
    have h1 := out_dep t v
    have h2 := crossK_dep "wrap" (outW t v) g s e
    show (crossK "wrap" (outW t v) g s e).dep ≤ v.dep + (t.dep + 1)
    omega
/-! ### in memory -/
def WAt (H : Hp) : Addr → Wv → Prop
  | a, .obj n => H a = some (.tup [.str "object", .int n])
  | a, .wrp g s t e => ∃ b, H a = some (.tup [.str "wrapper", .str g, .str s, .ref b, .str e]) ∧ WAt H b t
def VlAt (H : Hp) (x : V) : Vl → Prop
  | .non => x = .non
  | .num i => x = .int i
  | .ref w => ∃ a, x = .ref a ∧ WAt H a w
/-- tuples stay -/
def Kt (H H' : Hp) : Prop := ∀ c xs, H c = some (.tup xs) → H' c = some (.tup xs)
theorem Kt.refl {H : Hp} : Kt H H := fun _ _ e => e
theorem Kt.trans {H H' H'' : Hp} (h : Kt H H') (k : Kt H' H'') : Kt H H'' := fun c xs e => k c xs (h c xs e)
theorem Kt.of {H H' : Hp} (s : Same H H') : Kt H H' := fun c xs e => s _ _ e
theorem WAt.kt {H H' : Hp} (k : Kt H H') : ∀ {w : Wv} {a : Addr}, WAt H a w → WAt H' a w
  | .obj n, a, h => k _ _ h
  | .wrp g s t e, a, h => by
    obtain ⟨b, h1, h2⟩ := h
    exact ⟨b, k _ _ h1, WAt.kt k h2⟩
theorem VlAt.kt {H H' : Hp} (k : Kt H H') {x : V} {v : Vl} (h : VlAt H x v) : VlAt H' x v := by
  cases v with
  | non => exact h
  | num i => exact h
  | ref w =>
    obtain ⟨a, e, h⟩ := h
    exact ⟨a, e, h.kt k⟩
def Wv.data : Wv → PyData
  | .obj n => .tuple [.str "object", .int n]
  | .wrp g s t e => .tuple [.str "wrapper", .str g, .str s, t.data, .str e]
def Vl.data : Vl → PyData
  | .non => .none
  | .num i => .int i
  | .ref w => w.data
theorem WAt.dp {K : PySem.W.Frag} {H : Hp} : ∀ {w : Wv} {a : Addr}, WAt H a w → Dp K H (.ref a) w.data
  | .obj n, a, h => .tup (SqT.of h) (.cons (.str _) (.cons (.int _) .nil))
  | .wrp g s t e, a, h => by
    obtain ⟨b, h1, h2⟩ := h
    exact .tup (SqT.of h1) (.cons (.str _) (.cons (.str _) (.cons (.str _) (.cons (WAt.dp h2) (.cons (.str _) .nil)))))
theorem VlAt.dp {K : PySem.W.Frag} {H : Hp} {x : V} {v : Vl} (h : VlAt H x v) : Dp K H x v.data := by
  cases v with
  | non =>
    have h : x = .non := h
    subst h
    exact .non
  | num i =>
    have h : x = .int i := h
    subst h
    exact .int i
  | ref w =>
    obtain ⟨a, rfl, h⟩ := h
    exact h.dp
theorem WAt.tup {H : Hp} : ∀ {w : Wv} {a : Addr}, WAt H a w → ∃ xs, H a = some (.tup xs)
  | .obj n, a, h => ⟨_, h⟩
  | .wrp g s t e, a, ⟨b, h1, _⟩ => ⟨_, h1⟩
/-! ### valid references -/
section
variable (gs : List Gt) (home : List Str)
/-- the gateway wraps and has both as members -/
def Lead (g s e : Str) : Prop := (∃ gt ∈ gs, gt.1 = g ∧ gt.2.2 = ("wrap" : Str) ∧ s ∈ gt.2.1 ∧ e ∈ gt.2.1) ∧ s ≠ e
def GoodW : Str → Wv → Prop
  | x, .obj n => ∃ h, home[n]? = some h ∧ Conn gs (wrapsW gs) h x
  | x, .wrp g s t e => Lead gs g s e ∧ Conn gs (wrapsW gs) e x ∧ GoodW s t ∧ t.gate ≠ some g
def GoodV (x : Str) : Vl → Prop
  | .ref w => GoodW gs home x w
  | _ => True
end
section
variable {gs : List Gt} {home : List Str}
theorem Lead.symm {g s e : Str} (h : Lead gs g s e) : Lead gs g e s := by
  obtain ⟨⟨gt, h1, h2, h3, h4, h5⟩, ne⟩ := h
  exact ⟨⟨gt, h1, h2, h3, h5, h4⟩, ne.symm⟩
theorem GoodW.move {x y : Str} {w : Wv} (h : GoodW gs home x w) (c : Conn gs (wrapsW gs) x y) : GoodW gs home y w := by
  cases w with
  | obj n =>
    obtain ⟨h0, e, k⟩ := h
    exact ⟨h0, e, k.trans c⟩
  | wrp g s t e =>
    obtain ⟨h1, h2, h3, h4⟩ := h
    exact ⟨h1, h2.trans c, h3, h4⟩
theorem GoodV.move {x y : Str} {v : Vl} (h : GoodV gs home x v) (c : Conn gs (wrapsW gs) x y) : GoodV gs home y v := by
  cases v with
  | ref w => exact GoodW.move h c
  | _ => trivial
theorem GoodW.grow {x : Str} {w : Wv} {more : List Str} (h : GoodW gs home x w) : GoodW gs (home ++ more) x w := by
  induction w generalizing x with
  | obj n =>
    obtain ⟨h0, e, k⟩ := h
    exact ⟨h0, by rw [List.getElem?_append_left (List.getElem?_eq_some_iff.mp e).1]; exact e, k⟩
  | wrp g s t e ih =>
    obtain ⟨h1, h2, h3, h4⟩ := h
    exact ⟨h1, h2, ih h3, h4⟩
theorem GoodV.grow {x : Str} {v : Vl} {more : List Str} (h : GoodV gs home x v) : GoodV gs (home ++ more) x v := by
  cases v with
  | ref w => exact GoodW.grow h
  | _ => trivial
theorem GoodW.cross (nd : (gs.map (·.1)).Nodup) {g s e : Str} {w : Wv} (h : GoodW gs home s w) (l : Lead gs g s e) : GoodW gs home e (crossR w g s e) := by
  cases w with
  | obj n => exact ⟨l, .refl, h, by intro z; cases z⟩
  | wrp g' s' t e' =>
    unfold crossR
    dsimp only
    by_cases c : g' = g
    · subst c
      rw [if_pos rfl]
      obtain ⟨h1, h2, h3, h4⟩ := h
      by_cases d : s' = e
      · rw [if_pos d, ← d]
        exact h3
      · rw [if_neg d]
        refine ⟨⟨?_, d⟩, .refl, h3, h4⟩
        obtain ⟨⟨gt, k1, k2, k3, k4, k5⟩, _⟩ := h1
        obtain ⟨⟨gt', m1, m2, m3, m4, m5⟩, _⟩ := l
        have : gt = gt' := by_name nd k1 m1 (by rw [k2, m2])
        subst this
        exact ⟨gt, k1, k2, k3, k4, m5⟩
    · rw [if_neg c]
      exact ⟨l, .refl, h, fun z => c (Option.some.inj z)⟩
theorem open_conn (nd : (gs.map (·.1)).Nodup) {gt : Gt} (hg : gt ∈ gs) (k : gt.2.2 = ("open" : Str)) {s e : Str} (hs : s ∈ gt.2.1) (he : e ∈ gt.2.1) : Conn gs (wrapsW gs) s e := by
  refine Conn.refl.step ⟨gt, hg, fun z => ?_, hs, he⟩
  obtain ⟨g2, h2, k2, e2⟩ := mem_wraps.mp z
  rw [by_name nd h2 hg e2, k] at k2
  exact wrap_open k2.symm
theorem GoodV.cross (nd : (gs.map (·.1)).Nodup) {gt : Gt} (hg : gt ∈ gs) (kd : gt.2.2 = ("wrap" : Str) ∨ gt.2.2 = ("open" : Str)) {s e : Str} (hs : s ∈ gt.2.1) (he : e ∈ gt.2.1) (ne : s ≠ e) {v : Vl} (h : GoodV gs home s v) : GoodV gs home e (crossK gt.2.2 v gt.1 s e) := by
  rcases kd with k | k
  · rw [k]
    cases v with
    | ref w =>
      rw [crossK_wrap]
      exact GoodW.cross nd h ⟨⟨gt, hg, rfl, k, hs, he⟩, ne⟩
    | non => unfold crossK; rw [if_neg wrap_open]; trivial
    | num i => unfold crossK; rw [if_neg wrap_open]; trivial
  · unfold crossK
    rw [if_pos k]
    exact h.move (open_conn nd hg k hs he)
theorem GoodV.wrap (nd : (gs.map (·.1)).Nodup) {g s e : Str} (l : Lead gs g s e) {v : Vl} (h : GoodV gs home s v) : GoodV gs home e (crossK "wrap" v g s e) := by
  cases v with
  | ref w =>
    rw [crossK_wrap]
    exact GoodW.cross nd h l
  | non => unfold crossK; rw [if_neg wrap_open]; trivial
  | num i => unfold crossK; rw [if_neg wrap_open]; trivial
theorem GoodV.inw (nd : (gs.map (·.1)).Nodup) : ∀ {w : Wv} {x : Str} {v : Vl}, GoodW gs home x w → GoodV gs home x v → ∃ h, home[w.no]? = some h ∧ GoodV gs home h (inwW w v)
  | .obj n, x, v, ⟨h, e, k⟩, hv => ⟨h, e, hv.move k.symm⟩
  | .wrp g s t e, x, v, ⟨l, k, ht, _⟩, hv => by
    have := GoodV.inw nd (v := crossK "wrap" v g e s) ht (GoodV.wrap nd l.symm (hv.move k.symm))
    exact this
theorem GoodV.out (nd : (gs.map (·.1)).Nodup) : ∀ {w : Wv} {x h : Str} {v : Vl}, GoodW gs home x w → home[w.no]? = some h → GoodV gs home h v → GoodV gs home x (outW w v)
  | .obj n, x, h, v, ⟨h', e, k⟩, eh, hv => by
    have eh : home[n]? = some h := eh
    rw [e] at eh
    cases eh
    exact hv.move k
  | .wrp g s t e, x, h, v, ⟨l, k, ht, _⟩, eh, hv => (GoodV.wrap nd l (GoodV.out nd ht eh hv)).move k
end
/-! ### trails as data -/
def crD (c : Cr) : PyData := .tuple [.str c.1, .str c.2.1, .str c.2.2]
def trD (t : Tr) : PyData := .tuple (t.map crD)
theorem zip_snoc {α : Type} : ∀ (l : List α) (d : α), (l ++ [d]).zip ((l ++ [d]).drop 1) = l.zip (l.drop 1) ++ (match l.getLast? with
    | none => []
    | some b => [(b, d)])
  | [], d => rfl
  | [a], d => rfl
  | a :: b :: l, d => by
    have ih := zip_snoc (b :: l) d
    rw [List.getLast?_cons_cons]
    show (a, b) :: ((b :: l) ++ [d]).zip (((b :: l) ++ [d]).drop 1) = (a, b) :: (b :: l).zip ((b :: l).drop 1) ++ _
    rw [ih]
    rfl
section
variable {gs : List Gt} {home rs : List Str}
theorem lead_cross (nd : (gs.map (·.1)).Nodup) {g s e : Str} (l : Lead gs g s e) : crossD gs (crD (g, s, e)) = true := by
  obtain ⟨⟨gt, h1, h2, h3, h4, h5⟩, ne⟩ := l
  show crossD gs (.tuple [.str g, .str s, .str e]) = true
  rw [cross_by nd h1 h2 (mem_wraps.mpr ⟨gt, h1, h3, h2⟩)]
  unfold leadD
  rw [show isIn (.str s) gt.2.1 = true from decide_eq_true h4, show isIn (.str e) gt.2.1 = true from decide_eq_true h5]
  show (true && (true && !PyData.eqv (.str s) (.str e))) = true
  rw [show PyData.eqv (.str s) (.str e) = false by
    rw [PyData.eqv]
    exact beq_eq_false_iff_ne.mpr ne]
  rfl
theorem trl_last {w : Wv} {c : Cr} (h : w.trl.getLast? = some c) : ∃ t, w = .wrp c.1 c.2.1 t c.2.2 := by
  cases w with
  | obj n => cases h
  | wrp g s t e =>
    have h : (t.trl ++ [(g, s, e)]).getLast? = some c := h
    rw [List.getLast?_append] at h
    cases h
    exact ⟨t, rfl⟩
theorem good_trail (nd : (gs.map (·.1)).Nodup) : ∀ {w : Wv} {x : Str}, GoodW gs home x w → trailD rs gs (trD w.trl) = true
  | .obj n, x, _ => rfl
  | .wrp g s t e, x, ⟨l, _, ht, ng⟩ => by
    have ih := good_trail nd ht
    have ih : (t.trl.map crD).all (crossD gs) = true ∧ ((t.trl.map crD).zip ((t.trl.map crD).drop 1)).all (fun p => nextD rs gs p.1 p.2) = true := by
      rw [← Bool.and_eq_true]
      exact ih
    show (((t.trl ++ [(g, s, e)]).map crD).all (crossD gs) && (((t.trl ++ [(g, s, e)]).map crD).zip (((t.trl ++ [(g, s, e)]).map crD).drop 1)).all fun p => nextD rs gs p.1 p.2) = true
    rw [List.map_append, List.all_append, ih.1, List.map_cons, List.map_nil, zip_snoc, List.all_append, ih.2]
    rw [List.all_cons, lead_cross nd l]
    cases e1 : t.trl.getLast? with
    | none =>
      rw [List.getLast?_map, e1]
      rfl
    | some c =>
      rw [List.getLast?_map, e1]
      obtain ⟨t', rfl⟩ := trl_last e1
      obtain ⟨l', k', _, _⟩ := ht
      have n1 : ¬ c.1 = g := fun z => ng (by rw [← z]; rfl)
      have c1 : conB gs (wrapsW gs) c.2.2 s = true := conB_iff.mpr k'
      have nx : nextD rs gs (crD c) (crD (g, s, e)) = true := by
        show (!decide (c.1 = g) && conB gs (wrapsW gs) c.2.2 s) = true
        rw [decide_eq_false n1, c1]
        rfl
      simp [nx]
theorem good_names (f : WFine rs gs) : ∀ {w : Wv} {x : Str}, GoodW gs home x w → ∀ c ∈ w.trl, NmOk c.1 ∧ NmOk c.2.1 ∧ NmOk c.2.2
  | .obj n, x, _, c, hc => nomatch hc
  | .wrp g s t e, x, ⟨l, _, ht, _⟩, c, hc => by
    have hc : c ∈ t.trl ++ [(g, s, e)] := hc
    rcases List.mem_append.mp hc with h | h
    · exact good_names f ht c h
    · rw [List.mem_singleton.mp h]
      obtain ⟨⟨gt, h1, h2, h3, h4, h5⟩, _⟩ := l
      obtain ⟨f1, _, f3, _⟩ := f.each gt h1
      exact ⟨by rw [← h2]; exact f1, f.rok _ (f3 _ h4), f.rok _ (f3 _ h5)⟩
end
theorem fit_cr {c : Cr} (h : NmOk c.1 ∧ NmOk c.2.1 ∧ NmOk c.2.2) : Fit 1 700 (crD c) := by
  have := fit_strs (ss := [c.1, c.2.1, c.2.2]) fun s hs => by
    simp only [List.mem_cons, List.not_mem_nil, or_false] at hs
    rcases hs with rfl | rfl | rfl
    · exact h.1
    · exact h.2.1
    · exact h.2.2
  exact this.mono (by decide) (by show 3 * 202 + 3 ≤ 700; decide)
theorem fit_tr {t : Tr} (l : t.length ≤ 200) (h : ∀ c ∈ t, NmOk c.1 ∧ NmOk c.2.1 ∧ NmOk c.2.2) : Fit 60 sizeLine (trD t) := by
  have := fit_tuple (n := 1) (L := 700) (ds := t.map crD) fun d hd => by
    obtain ⟨c, hc, rfl⟩ := List.mem_map.mp hd
    exact fit_cr (h c hc)
  rw [List.length_map] at this
  exact this.mono (by decide) (Nat.le_trans (show t.length * (700 + 2) + 3 ≤ 200000 by omega) (by decide))
/-- a trail in memory -/
def TrAt (H : Hp) (p : Addr) (t : Tr) : Prop := ∃ as : List Addr, H p = some (.tup (as.map V.ref)) ∧ Paired (fun a (c : Cr) => H a = some (.tup [.str c.1, .str c.2.1, .str c.2.2])) as t
theorem TrAt.kt {H H' : Hp} {p : Addr} {t : Tr} (h : TrAt H p t) (k : Kt H H') : TrAt H' p t := by
  obtain ⟨as, h1, h2⟩ := h
  exact ⟨as, k _ _ h1, Paired.mapP h2 fun _ _ z => k _ _ z⟩
theorem dp_crs {K : PySem.W.Frag} {H : Hp} : ∀ {as : List Addr} {t : Tr}, Paired (fun a (c : Cr) => H a = some (.tup [.str c.1, .str c.2.1, .str c.2.2])) as t → DpAll K H (as.map V.ref) (t.map crD)
  | _, _, .nil => .nil
  | _, _, .cons h t => .cons (.tup (SqT.of h) (.cons (.str _) (.cons (.str _) (.cons (.str _) .nil)))) (dp_crs t)
theorem TrAt.dp {K : PySem.W.Frag} {H : Hp} {p : Addr} {t : Tr} (h : TrAt H p t) : Dp K H (.ref p) (trD t) := by
  obtain ⟨as, h1, h2⟩ := h
  exact .tup (SqT.of h1) (dp_crs h2)
end WT

set_option Elab.async false
set_option linter.all false
set_option maxRecDepth 100000
set_option maxHeartbeats 1000000
/-! written values of any depth, dicts among them; data that repr can show, by weight and depth. -/
namespace WT
open PySem PySem.Spec PyProof.Rows L2
/-- data that repr can show, of at most that weight and depth -/
structure Wf (W D : Nat) (d : PyData) : Prop where
  sh : d.showable = true
  sm : d.leavesShort 40 = true
  wt : d.weight ≤ W
  de : d.depth ≤ D
structure WfA (W D : Nat) (ds : List PyData) : Prop where
  ok : ∀ d ∈ ds, d.showable = true ∧ d.leavesShort 40 = true
  wt : PyData.weightAll ds ≤ W
  de : PyData.depthAll ds ≤ D
theorem Wf.mono {W D W' D' : Nat} {d : PyData} (h : Wf W D d) (h1 : W ≤ W') (h2 : D ≤ D') : Wf W' D' d := ⟨h.sh, h.sm, Nat.le_trans h.wt h1, Nat.le_trans h.de h2⟩
theorem WfA.mono {W D W' D' : Nat} {ds : List PyData} (h : WfA W D ds) (h1 : W ≤ W') (h2 : D ≤ D') : WfA W' D' ds := ⟨h.ok, Nat.le_trans h.wt h1, Nat.le_trans h.de h2⟩
theorem Wf.fit {W D : Nat} {d : PyData} (h : Wf W D d) : Fit D (42 * W + 40) d := ⟨h.sh, h.de, Nat.le_trans (PyData.shown_le 40 (by decide) d h.sm) (by have := h.wt; omega)⟩
theorem Sm.wf {W D : Nat} {d : PyData} (h : Sm W D d) : Wf W D d := ⟨h.nr.short.1, h.nr.short.2, h.wt, h.de⟩
theorem SmA.wf {W D : Nat} {ds : List PyData} (h : SmA W D ds) : WfA W D ds := ⟨fun d hd => (h.nr d hd).short, h.wt, h.de⟩
theorem WfA.tup {W D : Nat} {ds : List PyData} (h : WfA W D ds) : Wf W (D + 1) (.tuple ds) := by
  obtain ⟨a, b⟩ := short_all h.ok
  exact ⟨by rw [PyData.showable]; exact a, by rw [PyData.leavesShort]; exact b, by rw [PyData.weight]; exact h.wt, by rw [PyData.depth]; have := h.de; omega⟩
theorem WfA.lst {W D : Nat} {ds : List PyData} (h : WfA W D ds) : Wf W (D + 1) (.list ds) := by
  obtain ⟨a, b⟩ := short_all h.ok
  exact ⟨by rw [PyData.showable]; exact a, by rw [PyData.leavesShort]; exact b, by rw [PyData.weight]; exact h.wt, by rw [PyData.depth]; have := h.de; omega⟩
theorem WfA.nil (W D : Nat) : WfA W D [] := ⟨fun _ h => absurd h List.not_mem_nil, by rw [w_nil]; exact Nat.zero_le _, by rw [d_nil]; exact Nat.zero_le _⟩
theorem WfA.one {W D : Nat} {d : PyData} (h : Wf W D d) : WfA (W + 1) D [d] := by
  refine ⟨fun x hx => ?_, ?_, ?_⟩
  · rw [List.mem_singleton.mp hx]
    exact ⟨h.sh, h.sm⟩
  · rw [w_cons, w_nil]
    have := h.wt
    omega
  · rw [d_cons, d_nil]
    have := h.de
    omega
theorem WfA.app {W D W' : Nat} {a b : List PyData} (h : WfA W D a) (k : WfA W' D b) : WfA (W + W') D (a ++ b) :=
  ⟨fun d hd => (List.mem_append.mp hd).elim (h.ok d) (k.ok d), by rw [w_app]; have := h.wt; have := k.wt; omega, by rw [d_app]; have := h.de; have := k.de; omega⟩
theorem Wf.dict {W D : Nat} {d : PyData} {k : Str} (h : Wf W D d) (hk : Asc k) : Wf (W + k.cps.size + 2) (D + 1) (.dict [(.str k, d)]) := by
  refine ⟨?_, ?_, ?_, ?_⟩
  · rw [PyData.showable, PyData.showableKv, h.sh, PyData.showable, PyData.showableKv]
    rfl
  · rw [PyData.leavesShort, PyData.leavesShortKv, h.sm, PyData.leavesShortKv, (Nr.short (.str k hk)).2]
    rfl
  · rw [PyData.weight, PyData.weightKv, PyData.weightKv, PyData.weight]
    have := h.wt
    omega
  · rw [PyData.depth, PyData.depthKv, PyData.depthKv, PyData.depth]
    have := h.de
    omega
theorem w_take (n : Nat) (ds : List PyData) : PyData.weightAll (ds.take n) + PyData.weightAll (ds.drop n) = PyData.weightAll ds := by
  rw [← w_app, List.take_append_drop]
theorem d_take (n : Nat) (ds : List PyData) : max (PyData.depthAll (ds.take n)) (PyData.depthAll (ds.drop n)) = PyData.depthAll ds := by
  rw [← d_app, List.take_append_drop]
theorem WfA.take {W D : Nat} {a : List PyData} (h : WfA W D a) (n : Nat) : WfA W D (a.take n) := ⟨fun d hd => h.ok d (List.mem_of_mem_take hd), by have := w_take n a; have := h.wt; omega, by have := d_take n a; have := h.de; omega⟩
theorem WfA.drop {W D : Nat} {a : List PyData} (h : WfA W D a) (n : Nat) : WfA W D (a.drop n) := ⟨fun d hd => h.ok d (List.mem_of_mem_drop hd), by have := w_take n a; have := h.wt; omega, by have := d_take n a; have := h.de; omega⟩
theorem WfA.rev {W D : Nat} {a : List PyData} (h : WfA W D a) : WfA W D a.reverse := ⟨fun d hd => h.ok d (List.mem_reverse.mp hd), by rw [w_rev]; exact h.wt, by rw [d_rev]; exact h.de⟩
/-- texts and tuples of such -/
inductive Tx : PyData → Prop
  | str (s : Str) (h : Asc s) : Tx (.str s)
  | tup (ds : List PyData) (h : ∀ d ∈ ds, Tx d) : Tx (.tuple ds)
theorem Tx.nr {d : PyData} (h : Tx d) : Nr d := by
  induction h with
  | str s h => exact .str s h
  | tup ds h ih => exact .tup ds ih
theorem tx_all {ds : List PyData} (h : ∀ d ∈ ds, Tx d) : WfA (PyData.weightAll ds) (PyData.depthAll ds) ds := ⟨fun d hd => (h d hd).nr.short, Nat.le_refl _, Nat.le_refl _⟩
/-- something else in it -/
def Bn (d e : PyData) : Prop := Wf (2 * d.weight + 200) (d.depth + 16) e
theorem bn_tup {ds es : List PyData} (h : WfA (2 * PyData.weightAll ds + 200) (PyData.depthAll ds + 16) es) : Bn (.tuple ds) (.tuple es) := h.tup.mono (by rw [PyData.weight]; exact Nat.le_refl _) (by rw [PyData.depth]; omega)
theorem WfA.put {W D C : Nat} {a : List PyData} {i : Nat} {d e : PyData} (h : WfA W D a) (hd : a[i]? = some d) (k : Wf (2 * d.weight + C) (d.depth + 16) e) : WfA (2 * W + C) (D + 16) (a.take i ++ [e] ++ a.drop (i + 1)) := by
  obtain ⟨hi, hd⟩ := List.getElem?_eq_some_iff.mp hd
  have s : a = a.take i ++ (d :: a.drop (i + 1)) := by
    rw [← hd, List.getElem_cons_drop, List.take_append_drop]
  have h2 := h
  rw [s] at h2
  obtain ⟨x, y, z⟩ := h2
  rw [w_app, w_cons] at y
  rw [d_app, d_cons] at z
  have kw := k.wt
  have kd := k.de
  refine ⟨fun q hq => ?_, ?_, ?_⟩
  · rw [List.append_assoc] at hq
    rcases List.mem_append.mp hq with hq | hq
    · exact x q (List.mem_append.mpr (.inl hq))
    · rcases List.mem_append.mp hq with hq | hq
      · rw [List.mem_singleton.mp hq]
        exact ⟨k.sh, k.sm⟩
      · exact x q (List.mem_append.mpr (.inr (List.mem_cons_of_mem _ hq)))
  · rw [w_app, w_app, w_cons, w_nil]
    omega
  · rw [d_app, d_app, d_cons, d_nil]
    omega
theorem seq_asg {t : TE} {g : TG} {u : L2.TS} {D : Ends} {σ : L2.St} {H : Hp} (h : t σ H fun v H1 => g v σ H1 (u D)) : tSeq (tAsg t g) u D σ H := h
theorem cons_hd {t : TE} {ts : TA} {σ : L2.St} {H : Hp} {Q : List V → Hp → Prop} (h : t σ H fun x H1 => ts σ H1 fun xs H2 => Q (x :: xs) H2) : tCons t ts σ H Q := h
section
variable {K : PySem.W.Frag} {S : Addr → Bool} {σ : L2.St} {H0 : Hp}
/-- an expression whose value is that data, whatever new objects there are -/
def Lit (K : PySem.W.Frag) (S : Addr → Bool) (σ : L2.St) (H0 : Hp) (t : TE) (d : PyData) : Prop := ∀ (H : Hp) (Q : VK), Same H0 H → (∀ H' x, Same H H' → Off K S H' x d → Q x H') → t σ H Q
def LitA (K : PySem.W.Frag) (S : Addr → Bool) (σ : L2.St) (H0 : Hp) (t : TA) (ds : List PyData) : Prop := ∀ (H : Hp) (Q : List V → Hp → Prop), Same H0 H → (∀ H' xs, Same H H' → DtAll K (del S H') xs ds → Q xs H') → t σ H Q
theorem lit_str (s : Str) : Lit K S σ H0 (tC (.str s)) (.str s) := fun H Q _ k => k H _ (fun _ _ e => e) (.str _)
theorem lit_int (i : Int) : Lit K S σ H0 (tC (.int i)) (.int i) := fun H Q _ k => k H _ (fun _ _ e => e) (.int _)
theorem lit_bl (b : Bool) : Lit K S σ H0 (tC (.bl b)) (.bool b) := fun H Q _ k => k H _ (fun _ _ e => e) (.bl _)
theorem lit_non : Lit K S σ H0 (tC .non) .none := fun H Q _ k => k H _ (fun _ _ e => e) .non
theorem lit_var {i : Nat} {v : V} {d : PyData} (e : σ[i]? = some (some v)) (h : Off K S H0 v d) : Lit K S σ H0 (tVar i) d := fun H Q s k => ⟨v, e, k H _ (fun _ _ e => e) (h.same s)⟩
theorem lit_nil : LitA K S σ H0 tNil [] := fun H Q _ k => k H _ (fun _ _ e => e) .nil
theorem lit_cons {t : TE} {d : PyData} {ts : TA} {ds : List PyData} (h : Lit K S σ H0 t d) (k : LitA K S σ H0 ts ds) : LitA K S σ H0 (tCons t ts) (d :: ds) := fun H Q s q =>
  h H _ s fun H1 x s1 o1 => k H1 _ (s.trans s1) fun H2 xs s2 o2 => q H2 _ (s1.trans s2) (.cons (Off.same o1 s2) o2)
theorem lit_tup {ts : TA} {ds : List PyData} (lv : Live S H0) (h : LitA K S σ H0 ts ds) (l : ds.length ≤ 4000 := by decide) : Lit K S σ H0 (tTup ts) (.tuple ds) := fun H Q s q =>
  h H _ s fun H1 xs s1 o1 => ⟨Nat.le_trans (by rw [DtAll.length o1]; exact l) (by decide), fun p np => q _ _ (s1.trans (same_new np)) (TupD.new (lv.same (s.trans s1)) np o1).off⟩
theorem lit_lst {ts : TA} {ds : List PyData} (lv : Live S H0) (h : LitA K S σ H0 ts ds) (l : ds.length ≤ 4000 := by decide) : Lit K S σ H0 (tLst ts) (.list ds) := fun H Q s q =>
  h H _ s fun H1 xs s1 o1 => ⟨Nat.le_trans (by rw [DtAll.length o1]; exact l) (by decide), fun p np => q _ _ (s1.trans (same_new np)) (off_lst (lv.same (s.trans s1)) np o1)⟩
theorem lit_dnew (lv : Live S H0) : Lit K S σ H0 tDNewK (.dict []) := fun H Q s q p np => q _ _ (same_new np) (off_dic (lv.same s) np)
/-- {k: variable} -/
theorem lit_disp {i : Nat} {v : V} {d : PyData} {k : Str} (lv : Live S H0) (e : σ[i]? = some (some v)) (h : Off K S H0 v d) : Lit K S σ H0 (tDisp [(tC (.str k), tVar i)]) (.dict [(.str k, d)]) := fun H Q s q p np => by
  refine ⟨v, e, upd_same, [(Sum.inr k, v)], rfl, (by show 1 ≤ 15; decide), q _ _ (fun c o ec => ?_) ?_⟩
  · rw [upd_ne (ne_of_none ec np), upd_ne (ne_of_none ec np)]
    exact ec
  · have nS : S p = false := (lv.same s).new np
    have z : Same H (upd (upd H p (.dK [])) p (.dK (mergeK [] [(Sum.inr k, v)]))) := fun c o ec => by
      rw [upd_ne (ne_of_none ec np), upd_ne (ne_of_none ec np)]
      exact ec
    have hv := h.same (s.trans z)
    exact .dic (kvs := [(Sum.inr k, v)]) (ds := [d]) (.inl (del_at nS upd_same)) (.cons hv .nil)
/-- a list of written values -/
theorem lit_list {ts : TA} {ds : List PyData} {H : Hp} {Q : VK} (h : LitA K S σ H0 ts ds) (lv : Live S H0) (s : Same H0 H) (l : ds.length ≤ 4000) (q : ∀ H' p xs, Same H H' → H p = none → H' p = some (.lst xs) → S p = false → DtAll K (del S H') xs ds → Q (.ref p) H') : tLst ts σ H Q :=
  h H _ s fun H1 xs s1 o1 => ⟨Nat.le_trans (by rw [DtAll.length o1]; exact l) (by decide), fun p np => q _ p xs (s1.trans (same_new np)) (s1.free np) upd_same ((lv.same (s.trans s1)).new np) (DtAll.same (del_same (same_new np)) o1)⟩
end
end WT

set_option Elab.async false
set_option linter.all false
set_option maxRecDepth 100000
set_option maxHeartbeats 2000000
/-! any value == text, any value != text. -/
namespace PySem.SeqAt
open AutoSeq1 (wpAny_loadPart')
open MeetsSeq
theorem rcAt_dict_txt {A : Around} {s : Shared} {l : Addr} {ob : Obj} {es : Array DictEntry} {ep : Nat} (b : Str) (u : Tok) (ho : s.heap.get? l = some ob) (hc : ob.cls = .type "dict") (hd : ob.data = .dict es ep) (hu : A.units < cLine) : RcAt A s (.ref l) (.str b u) false := fun pr wd Er Q' hq' => by
  obtain ⟨cl, di, da, sl⟩ := ob
  simp only at hc hd
  subst hc hd
  refine rc_eq_decline_or (k := false) ⟨_, ho, rfl⟩ (typeIs_str s b u) (by decide) F.sub_str_dict F.slot_dict_eq_refl F.slot_str_eq (fun _ z => ?_) (fun _ z => ?_) (fun _ z => wpAny_of_eq (rfl : isSame (.ref l) (.str b u) = pure false) z) (.inr hu) hq'
  · exact call_meets F.slot_dict_eq_refl ⟨_, ho, rfl⟩ F.entry_dict_eq (F.args_dict_eq_2 _ _) (dict_declines l b u _) ⟨ho, rfl, z⟩
  · exact call_meets F.slot_str_eq (typeIs_str s b u) F.entry_str_eq (F.args_str_eq_2 _ _) (txt_declines b u l di es ep sl) ⟨ho, z⟩
theorem txt_declinesN (b : Str) (u : Tok) (l : Addr) (di : Option Addr) (es : Array DictEntry) (ep : Nat) (sl : Array (Option Value)) : Meets (Builtin.«str.__ne__» ⟨[.str b u, .ref l], []⟩) (fun _ Rr st => st.heap.get? l = some { cls := .type "dict", dict := di, data := .dict es ep, slots := sl } ∧ Rr (.ok (.ret .notImplemented)) st) :=
  .of_wp fun pr wd Ar Rr st hyp => by
    obtain ⟨hh, gg, dd, tt, oo⟩ := st
    obtain ⟨hl, hyp⟩ := hyp
    wp_walk using wpAny_loadPart' hl, wpAny_load hl
    exact ⟨_, rfl, hyp⟩
theorem dict_declinesN (l : Addr) (b : Str) (u : Tok) (ob : Obj) : Meets (Builtin.«dict.__ne__» ⟨[.ref l, .str b u], []⟩) (fun _ Rr st => st.heap.get? l = some ob ∧ ob.cls = .type "dict" ∧ Rr (.ok (.ret .notImplemented)) st) :=
  .of_wp fun pr wd Ar Rr st hyp => by
    obtain ⟨hh, gg, dd, tt, oo⟩ := st
    obtain ⟨hl, hc, hyp⟩ := hyp
    obtain ⟨cl, di, da, sl⟩ := ob
    have hc : cl = .type "dict" := hc
    subst hc
    have f1 := F.sub_str_dict
    wp_walk using wpAny_loadPart' hl, wpAny_load hl
    exact ⟨_, rfl, hyp⟩
theorem rcNeAt_dict_txt {A : Around} {s : Shared} {l : Addr} {ob : Obj} {es : Array DictEntry} {ep : Nat} (b : Str) (u : Tok) (ho : s.heap.get? l = some ob) (hc : ob.cls = .type "dict") (hd : ob.data = .dict es ep) (hu : A.units < cLine) : RcNeAt A s (.ref l) (.str b u) true := fun pr wd Er Q' hq' => by
  obtain ⟨cl, di, da, sl⟩ := ob
  simp only at hc hd
  subst hc hd
  exact rc_ne_decline_or (k := false) ⟨_, ho, rfl⟩ (typeIs_str s b u) (by decide) F.sub_str_dict F.slot_dict_ne F.slot_str_ne_refl
    (fun _ z => call_meets F.slot_dict_ne ⟨_, ho, rfl⟩ F.entry_dict_ne (F.args_dict_ne_2 _ _) (dict_declinesN l b u _) ⟨ho, rfl, z⟩)
    (fun _ z => call_meets F.slot_str_ne_refl (typeIs_str s b u) F.entry_str_ne (F.args_str_ne_2 _ _) (txt_declinesN b u l di es ep sl) ⟨ho, z⟩)
    (fun _ z => wpAny_of_eq (rfl : isSame (.ref l) (.str b u) = pure false) z) (.inr hu) hq'
end PySem.SeqAt
namespace WT
open PySem PySem.Spec PyProof.Rows L2
section
variable {X : Cx}
theorem isT_comm (s z : Str) : (s == z) = isT (.str s) z := by
  show _ = (z == s)
  rw [Bool.eq_iff_iff, beq_iff_eq, beq_iff_eq]
  exact eq_comm
def rEqAT (K : PySem.W.Frag) : R2 := fun x y H Q => ∃ (z : Str) (d : PyData), y = .str z ∧ Dt K H x d ∧ Q (.bl (isT d z)) H
def rNeAT (K : PySem.W.Frag) : R2 := fun x y H Q => ∃ (z : Str) (d : PyData), y = .str z ∧ Dt K H x d ∧ Q (.bl (!isT d z)) H
theorem op_eqAT {K : PySem.W.Frag} (hu : X.A.units + 64 < cLine) (hK : X.K = K := by rfl) : OpR X (compareOp .Eq) (rEqAT K) := by
  subst hK
  intro pins s σ H x y v u Q I rx ry h
  obtain ⟨z, d, rfl, hd, q⟩ := h
  obtain ⟨tk, rfl⟩ := ry
  have hA : X.A.units < cLine := by omega
  have rc : SeqAt.RcAt X.A s v (.str z tk) (isT d z) := by
    cases hd with
    | non =>
      cases rx
      exact SeqAt.RcAt.none_str z tk
    | bl b =>
      cases rx
      exact SeqAt.RcAt.bool_str b z tk
    | int i =>
      obtain ⟨t2, rfl⟩ := rx
      exact SeqAt.RcAt.int_str i t2 z tk
    | str y =>
      obtain ⟨t2, rfl⟩ := rx
      rw [← isT_comm]
      exact SeqAt.RcAt.str_str y t2 z tk
    | lst h _ =>
      cases rx
      obtain ⟨its, _, pl, _⟩ := I.list h
      exact SeqAt.RcAt.list_str z tk pl.isList hA
    | tup h _ =>
      cases rx
      obtain ⟨its, _, pl, _⟩ := I.tuple h
      exact SeqAt.RcAt.tuple_str z tk pl hA
    | dic h _ =>
      cases rx
      obtain ⟨_, _, us2, _, o, es, ep, ho, hx, hdt, _⟩ := dk_rd I.hok h
      exact SeqAt.rcAt_dict_txt z tk ho hx.1 hdt hA
  exact rc _ _ _ _ ⟨.bl _, H, I, rfl, q⟩
theorem op_neAT {K : PySem.W.Frag} (hu : X.A.units + 64 < cLine) (hK : X.K = K := by rfl) : OpR X (compareOp .NotEq) (rNeAT K) := by
  subst hK
  intro pins s σ H x y v u Q I rx ry h
  obtain ⟨z, d, rfl, hd, q⟩ := h
  obtain ⟨tk, rfl⟩ := ry
  have hA : X.A.units < cLine := by omega
  have rc : SeqAt.RcNeAt X.A s v (.str z tk) (!isT d z) := by
    cases hd with
    | non =>
      cases rx
      exact SeqAt.RcNeAt.none_str z tk
    | bl b =>
      cases rx
      exact SeqAt.RcNeAt.bool_str b z tk
    | int i =>
      obtain ⟨t2, rfl⟩ := rx
      exact SeqAt.RcNeAt.int_str i t2 z tk
    | str y =>
      obtain ⟨t2, rfl⟩ := rx
      rw [← isT_comm]
      exact SeqAt.RcNeAt.str_str y t2 z tk
    | lst h _ =>
      cases rx
      obtain ⟨its, _, pl, _⟩ := I.list h
      exact SeqAt.RcNeAt.list_str z tk pl.isList hA
    | tup h _ =>
      cases rx
      obtain ⟨its, _, pl, _⟩ := I.tuple h
      exact SeqAt.RcNeAt.tuple_str z tk pl hA
    | dic h _ =>
      cases rx
      obtain ⟨_, _, us2, _, o, es, ep, ho, hx, hdt, _⟩ := dk_rd I.hok h
      exact SeqAt.rcNeAt_dict_txt z tk ho hx.1 hdt hA
  exact rc _ _ _ _ ⟨.bl _, H, I, rfl, q⟩
end
end WT

set_option Elab.async false
set_option linter.all false
set_option maxRecDepth 100000
set_option maxHeartbeats 2000000
/-! not x, x any value whose truth is known. -/
namespace WT
open PySem PySem.Spec PyProof.Rows L2
def tNotT (K : PySem.W.Frag) (ta : TE) : TE := fun σ H Q => ta σ H fun x H' => ∃ k, TruV K x H' k ∧ Q (.bl (!k)) H'
theorem pe_notT {X : Cx} {a : Expr} {pos : Pos} {ta : TE} (ha : PE X a ta) : PE X (.UnaryOp .Not a pos) (tNotT X.K ta) := by
  refine ⟨fun pins s σ H Q I h => ?_⟩
  refine UnaryOp_ (thn (ha.run pins s σ H _ I h) fun v s1 ⟨x, H1, I1, r1, q1⟩ => ?_)
  obtain ⟨k, hk, q⟩ := q1
  exact not_of (thn (tru_ok pins s1 σ H1 x v (fun b H2 => Q (.bl (!b)) H2) I1 r1 ⟨k, hk, q⟩) fun d s2 ⟨H2, I2, q2⟩ => ⟨.bl (!d), H2, I2, rfl, q2⟩)
end WT

set_option Elab.async false
set_option linter.all false
set_option maxRecDepth 100000
set_option maxHeartbeats 1000000
/-! Calls with a keyword of defs that are known without the guards. -/
namespace WT
open PySem PySem.Spec PyProof.Rows L2
section
variable {X : Cx} {cx : CXT} {k n m : Nat} {f : Addr} {fd : FuncData} {ps ks : List Str} {sp : Sp} {E : XK} {x : Str} {p pos : Pos} {e : Expr} {es : List Expr} {kws : List Keyword} {t tk : TA}
theorem run_fnO {pins : List (Addr × Obj)} {σ : L2.St} {H : Hp} {s : Shared} {Q : VK} {us : List Value} {kw : List (Str × Value)} {bs : List Value} {vs : List V} (G : FnOk X.prog X.w X.K X.mg X.base cx k f fd ps sp) (hr : Room k X.A)
    (hx : Passes cx X E) (I : Inv X pins σ H s) (hb : BindsTo s fd ⟨us, kw⟩ (ps.zip bs)) (r : Vals vs bs) (h : sp vs H Q E) : wpAny (model X.prog X.w) X.A (call (.ref f) us kw) (EP X pins σ Q) X.xe s := by
  refine wpAny_call (codeAny_mono (G.run X.A X.stack s H ⟨us, kw⟩ bs vs Q E hr I.env0 hb r h) fun r s2 hq => ?_)
  cases r with
  | error e => exact hx pins σ H s e s2 I hq
  | ok fl =>
    cases fl with
    | ret u => exact I.after hq
    | next => exact hq.elim
    | brk => exact hq.elim
    | cont => exact hq.elim
theorem pe_callKO (G : FnOk X.prog X.w X.K X.mg X.base cx k f fd ps sp) (hr : Room k X.A) (hg : Gl X x) (hm : X.mg x = some (.ref f)) (hk : PySem.W.keepIn X.K (.ref f) = true)
    (hb : ∀ (s1 : Shared) (us ws : List Value), X.K.In s1.heap → us.length = n → ws.length = m → BindsTo s1 fd ⟨us, ks.zip ws⟩ (ps.zip (us ++ ws))) (hx : Passes cx X E) (ha : PA X (e :: es) t) (hkw : PK X kws tk)
    (hall : (backToKw pos (keywordEach kws X.env)).all (·.1.isSome) = true := by rfl) (hks : (backToKw pos (keywordEach kws X.env)).filterMap (·.1) = ks := by rfl) (hdb : (x == ("__debug__" : Str)) = false := by decide)
    (he : starEach (e :: es) X.env = (false, eval e X.env) :: starEach es X.env := by rfl) (hpl : ((backTo pos (starEach (e :: es) X.env)).any (·.1) || (backToKw pos (keywordEach kws X.env)).any (·.1.isNone)) = false := by rfl) :
    PE X (.Call (.Name x p) (e :: es) kws pos) (tCallKG n m sp E t tk) := by
  refine ⟨fun pins s σ H Q I h => wpAny_Call_Name_kw (ld_glob I hg hm ?_ hdb)⟩
  refine PySem.W.callWith_KW (h₀ := X.base) I.ok.mod.kin hk hall (thn (ha.run pos pins s σ H _ I h) fun us s1 ⟨vs, H1, I1, r, q⟩ => ?_) hpl he
  refine thn (hkw.run pos pins s1 σ H1 _ I1 q) fun ws s2 ⟨zs, H2, I2, rz, l1, l2, q2⟩ => ⟨I2.kIn, ?_⟩
  rw [hks]
  exact run_fnO G hr hx I2 (hb s2 us ws I2.kIn ((Vals.length r).symm.trans l1) ((Vals.length rz).symm.trans l2)) (r.append rz) q2
end
/-- a def with one keyword-only parameter, known without the guards -/
structure DkO (P : Program) (w : World) (K : PySem.W.Frag) (mg : Str → Option Value) (base : Heap) (x : Str) (k : Nat) (f : Addr) (fd : FuncData) (ps : List Str) (n : Nat) (kw : Str) (dv : V) (sp : Sp) : Prop where
  g : mg x = some (.ref f)
  kp : PySem.W.keepIn K (.ref f) = true
  G : FnOk P w K mg base CX0 k f fd ps sp
  kb : ∀ (s1 : Shared) (us ws : List Value), K.In s1.heap → us.length = n → ws.length = 1 → BindsTo s1 fd ⟨us, ([kw] : List Str).zip ws⟩ (ps.zip (us ++ ws))
  bd : ∃ ds, Vals [dv] ds ∧ Binds K fd ps ds
end WT

set_option Elab.async false
set_option linter.all false
set_option maxRecDepth 100000
set_option maxHeartbeats 1000000
/-! what shows a cut, of any data. -/
namespace WT
open PySem PySem.Spec PyProof.Rows L2
/-- the wrapping gateways on a path -/
def wallsOf (gs : List Gt) (ss : List Str) : List Str := (odR ss).filter fun n => decide (n ∈ wrapsW gs)
/-- a path from one to other -/
structure LeadsS (rs : List Str) (gs : List Gt) (one other : Str) (ss : List Str) : Prop where
  p : PathI rs gs ss
  a : ss[0]? = some one
  z : ss[ss.length - 1]? = some other
def LeadsD (rs : List Str) (gs : List Gt) (one other : Str) (d : PyData) : Prop := ∃ ss, d = .tuple (ss.map PyData.str) ∧ LeadsS rs gs one other ss
def tupS (ss : List Str) : PyData := .tuple (ss.map PyData.str)
/-- an open path -/
def OpenD (rs : List Str) (gs : List Gt) (one other : Str) (d : PyData) : Prop := ∃ ss, d = .tuple [.str "open", tupS ss] ∧ LeadsS rs gs one other ss ∧ wallsOf gs ss = []
/-- names that part the two -/
def SepD (gs : List Gt) (one other : Str) (d : PyData) : Prop := ∃ names : List Str, d = tupS names ∧ (∀ n ∈ names, n ∈ wrapsW gs) ∧ AscS names ∧ ¬ Conn gs names one other
/-- paths that share no wrapping gateway -/
def ApaD (rs : List Str) (gs : List Gt) (one other : Str) (d : PyData) : Prop := ∃ pss : List (List Str), d = .tuple (pss.map tupS) ∧ (∀ ss ∈ pss, LeadsS rs gs one other ss) ∧ (pss.flatMap (wallsOf gs)).Nodup
def lenD : PyData → Nat
  | .tuple ds => ds.length
  | _ => 0
def CutD (rs : List Str) (gs : List Gt) (one other : Str) (d : PyData) : Prop := ∃ a b, d = .tuple [.str "cut", a, b] ∧ SepD gs one other a ∧ ApaD rs gs one other b ∧ lenD a = lenD b
def ShowsD (rs : List Str) (gs : List Gt) (one other : Str) (d : PyData) : Prop := OpenD rs gs one other d ∨ CutD rs gs one other d
theorem tupS_inj {a b : List Str} (h : tupS a = tupS b) : a = b := by
  injection h with h
  exact strs_inj h
theorem tupSs_inj : ∀ {a b : List (List Str)}, a.map tupS = b.map tupS → a = b
  | [], [], _ => rfl
  | [], _ :: _, h => by cases h
  | _ :: _, [], h => by cases h
  | x :: a, y :: b, h => by
    rw [List.map_cons, List.map_cons] at h
    injection h with h1 h2
    rw [tupS_inj h1, tupSs_inj h2]
theorem dt_tupS {K : PySem.W.Frag} {H : Hp} {v : V} {ss : List Str} (h : Dt K H v (tupS ss)) : ∃ a, v = .ref a ∧ SqT K H a (ss.map V.str) := by
  cases h with
  | tup hx hds => exact ⟨_, rfl, by rw [← dt_strs hds]; exact hx⟩
theorem dt_tupI {K : PySem.W.Frag} {H : Hp} {v : V} {ds : List PyData} (h : Dt K H v (.tuple ds)) : ∃ a xs, v = .ref a ∧ SqT K H a xs ∧ DtAll K H xs ds := by
  cases h with
  | tup hx hds => exact ⟨_, _, rfl, hx, hds⟩
end WT

set_option Elab.async false
set_option linter.all false
set_option maxRecDepth 100000
set_option maxHeartbeats 1000000
/-! Data of tuples alone, in memory: kept wherever tuples are kept. -/
namespace WT
open PySem PySem.Spec PyProof.Rows L2
mutual
inductive Tq (H : Hp) : V → PyData → Prop
  | non : Tq H .non .none
  | bl (b : Bool) : Tq H (.bl b) (.bool b)
  | int (i : Int) : Tq H (.int i) (.int i)
  | str (x : Str) : Tq H (.str x) (.str x)
  | tup {a : Addr} {xs : List V} {ds : List PyData} : H a = some (.tup xs) → TqA H xs ds → Tq H (.ref a) (.tuple ds)
inductive TqA (H : Hp) : List V → List PyData → Prop
  | nil : TqA H [] []
  | cons {v : V} {vs : List V} {d : PyData} {ds : List PyData} : Tq H v d → TqA H vs ds → TqA H (v :: vs) (d :: ds)
end
mutual
theorem Tq.kt {H H' : Hp} (k : Kt H H') : ∀ {v : V} {d : PyData}, Tq H v d → Tq H' v d
  | _, _, .non => .non
  | _, _, .bl b => .bl b
  | _, _, .int i => .int i
  | _, _, .str x => .str x
  | _, _, .tup h t => .tup (k _ _ h) (TqA.kt k t)
theorem TqA.kt {H H' : Hp} (k : Kt H H') : ∀ {vs : List V} {ds : List PyData}, TqA H vs ds → TqA H' vs ds
  | _, _, .nil => .nil
  | _, _, .cons h t => .cons (Tq.kt k h) (TqA.kt k t)
end
mutual
theorem Tq.dt {K : PySem.W.Frag} {H : Hp} : ∀ {v : V} {d : PyData}, Tq H v d → Dt K H v d
  | _, _, .non => .non
  | _, _, .bl b => .bl b
  | _, _, .int i => .int i
  | _, _, .str x => .str x
  | _, _, .tup h t => .tup (SqT.of h) (TqA.dt t)
theorem TqA.dt {K : PySem.W.Frag} {H : Hp} : ∀ {vs : List V} {ds : List PyData}, TqA H vs ds → DtAll K H vs ds
  | _, _, .nil => .nil
  | _, _, .cons h t => .cons (Tq.dt h) (TqA.dt t)
end
theorem TqA.len {H : Hp} : ∀ {vs : List V} {ds : List PyData}, TqA H vs ds → vs.length = ds.length
  | _, _, .nil => rfl
  | _, _, .cons _ t => congrArg Nat.succ t.len
theorem TqA.app {H : Hp} : ∀ {vs ws : List V} {ds es : List PyData}, TqA H vs ds → TqA H ws es → TqA H (vs ++ ws) (ds ++ es)
  | _, _, _, _, .nil, h => h
  | _, _, _, _, .cons a t, h => .cons a (t.app h)
theorem tqa_strs {H : Hp} : ∀ ss : List Str, TqA H (ss.map V.str) (ss.map PyData.str)
  | [] => .nil
  | s :: ss => .cons (.str s) (tqa_strs ss)
theorem tq_strs {H : Hp} {a : Addr} {ss : List Str} (h : H a = some (.tup (ss.map V.str))) : Tq H (.ref a) (tupS ss) := .tup h (tqa_strs ss)
theorem tq_tups {H : Hp} : ∀ {ts : List Addr} {ls : List (List Str)}, TupsAt H ts ls → TqA H (ts.map V.ref) (ls.map tupS)
  | _, _, .nil => .nil
  | _, _, .cons h t => .cons (tq_strs h) (tq_tups t)
theorem tq_pairs {H : Hp} : ∀ {us : List Addr} {c : List (Str × Str)}, Paired (fun u (q : Str × Str) => H u = some (.tup [.str q.1, .str q.2])) us c → TqA H (us.map V.ref) (c.map fun q => PyData.tuple [.str q.1, .str q.2])
  | _, _, .nil => .nil
  | _, _, .cons h t => .cons (.tup h (.cons (.str _) (.cons (.str _) .nil))) (tq_pairs t)
def cycO : Option (List (Str × Str)) → PyData
  | none => .none
  | some c => cycD c
theorem tq_cyc {H : Hp} {v : V} {o : Option (List (Str × Str))} (h : CycRes H v o) : Tq H v (cycO o) := by
  cases o with
  | none =>
    have h : v = .non := h
    subst h
    exact .non
  | some c =>
    obtain ⟨p, us, rfl, h1, h2⟩ := h
    exact .tup h1 (tq_pairs h2)
/-! ### what repr can show of it -/
theorem WfA.cons {W D W' : Nat} {d : PyData} {ds : List PyData} (h : Wf W D d) (t : WfA W' D ds) : WfA (W + 1 + W') D (d :: ds) := (WfA.one h).app t
theorem WfA.all {W D : Nat} : ∀ {ds : List PyData}, (∀ d ∈ ds, Wf W D d) → WfA (ds.length * (W + 1)) D ds
  | [], _ => (WfA.nil _ _)
  | d :: ds, h => by
    have a := WfA.cons (h d List.mem_cons_self) (WfA.all fun x hx => h x (List.mem_cons_of_mem _ hx))
    exact a.mono (by rw [List.length_cons, Nat.add_mul]; omega) (Nat.le_refl _)
theorem wf_bool (b : Bool) : Wf 1 0 (.bool b) := ⟨by simp [PyData.showable], by simp [PyData.leavesShort], by simp [PyData.weight], by simp [PyData.depth]⟩
theorem wf_none : Wf 1 0 .none := ⟨by simp [PyData.showable], by simp [PyData.leavesShort], by simp [PyData.weight], by simp [PyData.depth]⟩
theorem wf_tupS {l : List Str} (h : ∀ s ∈ l, NmOk s) : Wf (9 * l.length) 1 (tupS l) := (strs_sm h).wf.tup
theorem wf_tups {ls : List (List Str)} {n : Nat} (h : ∀ l ∈ ls, l.length ≤ n ∧ ∀ s ∈ l, NmOk s) : Wf (ls.length * (9 * n + 1)) 2 (.tuple (ls.map tupS)) := by
  have a := WfA.all (W := 9 * n) (D := 1) (ds := ls.map tupS) fun d hd => by
    obtain ⟨l, hl, rfl⟩ := List.mem_map.mp hd
    exact (wf_tupS (h l hl).2).mono (by have := (h l hl).1; omega) (Nat.le_refl _)
  rw [List.length_map] at a
  exact a.tup
theorem wf_cyc {c : List (Str × Str)} (h : ∀ q ∈ c, NmOk q.1 ∧ NmOk q.2) : Wf (c.length * 19) 2 (cycD c) := by
  have a := WfA.all (W := 18) (D := 1) (ds := c.map fun q => PyData.tuple [.str q.1, .str q.2]) fun d hd => by
    obtain ⟨q, hq, rfl⟩ := List.mem_map.mp hd
    exact wf_tupS (l := [q.1, q.2]) fun s hs => by
      rcases List.mem_cons.mp hs with e | hs
      · rw [e]; exact (h q hq).1
      · rw [List.mem_singleton.mp hs]; exact (h q hq).2
  rw [List.length_map] at a
  exact a.tup
theorem scyc_fine {gs : List Gt} {rs : List Str} (W : Wds gs rs) {c : List (Str × Str)} (h : scyc gs rs = some c) : c.length ≤ rs.length ∧ ∀ p ∈ c, p.1 ∈ rs ∧ p.2 ∈ gs.map (·.1) := by
  obtain ⟨⟨g, hg, e⟩, _⟩ := scyc_some h
  obtain ⟨i, _, _, _⟩ := cycT_some W.nd W.sub (List.mem_filter.mp hg).1 e
  refine ⟨i.short, fun p hp => ?_⟩
  obtain ⟨j, hj⟩ := List.getElem?_of_mem hp
  have lj := (List.getElem?_eq_some_iff.mp hj).1
  have two := i.two
  have ln : ((c.map (·.1)).tail ++ (c.map (·.1)).take 1).length = c.length := by
    rw [List.length_append, List.length_tail, List.length_take, List.length_map]
    omega
  obtain ⟨g', h1, h2, h3, _⟩ := i.join j p _ hj (List.getElem?_eq_getElem (by rw [ln]; exact lj))
  exact ⟨W.sub g' h1 _ h3, List.mem_map.mpr ⟨g', h1, h2⟩⟩
end WT

set_option Elab.async false
set_option linter.all false
set_option maxRecDepth 100000
set_option maxHeartbeats 4000000
namespace K13
open PySem PySem.Spec PyProof.Rows L2 WT
abbrev st_sides_right : Stmt := top 27
theorem sc_sides_right : FnScope ["_law_world", "_law_around", "_law_due", "_law_gateway", "_law_name"] ["_law_world"] (defScope st_sides_right) := ⟨rfl, rfl, rfl, by decide +kernel, rfl, by decide +kernel, by decide +kernel⟩
theorem gate_nodup {rs : List Str} {g : Gt} (ndr : rs.Nodup) (h : GateOk rs g) : g.2.1.Nodup := by
  obtain ⟨ys, k, h1, h2, _⟩ := h.from_
  exact h2.nodup_iff.mpr ((h1.nodup_iff.mpr ndr).sublist (List.take_sublist k ys))
/-- a world of these laws -/
structure SiW (rs : List Str) (gs : List Gt) : Prop where
  rl : rs.length ≤ 10
  ndr : rs.Nodup
  each : ∀ g ∈ gs, GateOk rs g
  nd : (gs.map (·.1)).Nodup
  gl : gs.length ≤ 20
theorem SiW.wds {rs : List Str} {gs : List Gt} (W : SiW rs gs) : Wds gs rs := ⟨W.nd, fun g hg => (W.each g hg).sub⟩
theorem pick_own {gs hs : List Gt} {rs ns : List Str} (W : Wds gs rs) (sub : ∀ g ∈ hs, g ∈ gs) (nd : (gs.map (·.1)).Nodup) (h : ∀ n, n ∈ ns ↔ ∃ g ∈ gs, g.1 = n ∧ OnC gs g) (b : Bool) : pickG gs rs b hs = (hs.filter fun g => decide (decide (g.1 ∈ ns) = b)).map (·.1) := by
  unfold pickG
  refine congrArg _ (List.filter_congr fun g hg => ?_)
  have hg := sub g hg
  have e : (cycT gs rs g).isSome = decide (g.1 ∈ ns) := by
    rw [Bool.eq_iff_iff, decide_eq_true_iff, h, Option.isSome_iff_ne_none, ← onc_iff W hg]
    constructor
    · exact fun q => ⟨g, hg, rfl, q⟩
    · rintro ⟨k, hk, e, q⟩
      rwa [by_name nd hk hg e] at q
  rw [e]
theorem q_refl {Q : VK} {x : V} {H : Hp} (h : Q (.bl true) H) : Q (.bl (decide (x = x))) H := by
  rw [decide_eq_true rfl]
  exact h
section
variable {P : Program} {w : World} {K : PySem.W.Frag} {mg : Str → Option Value} {base : Heap} {f fO fW fQ fN : Addr} {fd fdO fdW fdQ fdN : FuncData}
/-- sides_right(world) -/
def spSides : Sp := fun vs H Q _ => ∃ (wa r g : Addr) (as : List Addr) (rs : List Str) (gs : List Gt), vs = [.ref wa] ∧ WorldAt H wa r g as rs gs ∧ SiW rs gs ∧ ∀ (H' : Hp), Same H H' → Q (.bl true) H'
theorem ok_sides_right (F : Fun K "_law_sides_right" "_law_sides_right" st_sides_right f fd) (B : Blt mg) (F_on_cycle : Df P w K mg base "_law_on_cycle" 2 fO fdO ["_law_world"] spOnc) (F_wrapping : Df P w K mg base "_law_wrapping" 1 fW fdW ["_law_world"] spWrapping)
    (F_quiet : Df P w K mg base "quiet" 4 fQ fdQ ["world"] spQuiet) (F_noticed : Df P w K mg base "noticed" 4 fN fdN ["world"] spNoticed) :
    FnG P w K mg base CX0 5 f fd ["_law_world"] spSides := by
  refine okG F sc_sides_right (fun vs H Q E h => ?_) (fun cdv A outer s H vs Q E hgd hr h => ?_)
  · obtain ⟨_, _, _, _, _, _, rfl, _⟩ := h
    rfl
  · obtain ⟨wa, r, g, as, rs, gs, rfl, hw, W, q⟩ := h
    refine ⟨_, (pss_cons (ps_set (i := 1) sc_sides_right.nd rfl (.inr rfl) (pe_callG hgd F_on_cycle.G (hr.mono (by decide)) (by rfl) F_on_cycle.g F_on_cycle.kp F_on_cycle.bd pass0 (pa_cons (pv 0) pa_nil)))
      (pss_cons (ps_set (i := 2) sc_sides_right.nd rfl (.inl rfl) (pe_lst (pa_cons (pe_callTy call_tuple_of (by rfl) B.tuple (by decide +kernel) (pa_cons (pe_lc (own := [("_law_gateway", 3)]) (by rfl) sc_sides_right.nd (pi_tup (pe_ix ix_tup (pv 0) pe_int (fun _ _ => rfl))) (blkOk_by (own := [("_law_gateway", 3)]) (N := ["_law_world", "_law_around", "_law_due", "_law_gateway", "_law_name"]) (sc := defScope st_sides_right) (by decide +kernel)) (fun _ _ _ _ _ => (pg_name (i := 3) sc_sides_right.nd rfl (.inl rfl))) (fun _ _ _ _ _ => (pts_one (pt_cmpR (op_notInK (K := K)) (pe_ix (ix_tupK (K := K)) (pv 3) pe_int (fun _ _ => rfl)) (pv 1) (by rfl)))) (fun _ _ _ _ _ => (pe_ix (ix_tupK (K := K)) (pv 3) pe_int (fun _ _ => rfl)))) pa_nil)) pa_nil)))
      (pss_cons (ps_expr (pe_bm PySem.F.plainAttrs_list PySem.F.slot_list_append PySem.F.type_list_append mt_append (pv 2) (pa_cons (pe_callTy call_tuple_of (by rfl) B.tuple (by decide +kernel) (pa_cons (pe_lc (own := [("_law_name", 4)]) (by rfl) sc_sides_right.nd (pi_list (pe_callG hgd F_wrapping.G (hr.mono (by decide)) (by rfl) F_wrapping.g F_wrapping.kp F_wrapping.bd pass0 (pa_cons (pv 0) pa_nil))) (blkOk_by (own := [("_law_name", 4)]) (N := ["_law_world", "_law_around", "_law_due", "_law_gateway", "_law_name"]) (sc := defScope st_sides_right) (by decide +kernel)) (fun _ _ _ _ _ => (pg_name (i := 4) sc_sides_right.nd rfl (.inl rfl))) (fun _ _ _ _ _ => (pts_one (pt_cmpR (op_inK (K := K)) (pv 4) (pv 1) (by rfl)))) (fun _ _ _ _ _ => (pv 4))) pa_nil)) pa_nil)))
      (pss_one (ps_ret (pe_cmpR op_eq (pe_callB (call_repr hgd hr.units) (by rfl) B.repr (by decide +kernel) (pa_cons (pe_lst (pa_cons (pe_callG hgd F_quiet.G (hr.mono (by decide)) (by rfl) F_quiet.g F_quiet.kp F_quiet.bd pass0 (pa_cons (pv 0) pa_nil)) (pa_cons (pe_callG hgd F_noticed.G (hr.mono (by decide)) (by rfl) F_noticed.g F_noticed.kp F_noticed.bd pass0 (pa_cons (pv 0) pa_nil)) pa_nil))) pa_nil)) (pe_callB (call_repr hgd hr.units) (by rfl) B.repr (by decide +kernel) (pa_cons (pv 2) pa_nil)) (nomark _))))))), ?_⟩
    have hlen := Paired.length hw.each
    have rl := W.rl
    have gl := W.gl
    have each : ∀ g ∈ gs, g.2.1.length ≤ 100 ∧ ∀ y ∈ g.2.1, y ∈ rs := fun g hg => ⟨by have := (W.each g hg).len; omega, (W.each g hg).sub⟩
    refine ⟨_, rfl, wa, r, g, as, rs, gs, rfl, hw, W.ndr, by omega, by omega, fun h hh => ⟨(gate_len (W.each h hh)).1, gate_nodup W.ndr (W.each h hh), by have := (W.each h hh).len; omega, (W.each h hh).sub⟩, fun H1 A ns s1 nA hA lns hns => ?_⟩
    have hw1 := hw.same s1
    -- due = [tuple([..])]
    refine ⟨_, rfl, wa, _, 1, .ref g, rfl, rfl, SqT.of hw1.top, atI_nat (j := 1) rfl, g, rfl, ⟨_, SqT.of hw1.gat⟩, fun N nN => lc_tup (K := K) (a := g) (xs := as.map V.ref) (fun m H' => Same H1 H' ∧ H' N = some (.lst ((((gs.take m).filter fun g => decide (decide (g.1 ∈ ns) = false)).map (·.1)).map V.str)))
      ⟨same_new nN, upd_same⟩ (fun m H' _ ⟨s', _⟩ => SqT.of (s' _ _ hw1.gat)) (fun m v H2 hm hP => ?_) fun H2 hP => ?_⟩
    · obtain ⟨s2, hN⟩ := hP
      rw [List.getElem?_map] at hm
      obtain ⟨t, ht, rfl⟩ := Option.map_eq_some_iff.mp hm
      obtain ⟨gg, hgg, ia, e1, e2⟩ := pair_at (hw1.same s2).each ht
      have stp : ((gs.take (m + 1)).filter fun g => decide (decide (g.1 ∈ ns) = false)).map (·.1) = ((gs.take m).filter fun g => decide (decide (g.1 ∈ ns) = false)).map (·.1) ++ (if gg.1 ∈ ns then [] else [gg.1]) := by
        rw [List.take_add_one, hgg, List.filter_append, List.map_append]
        by_cases c : gg.1 ∈ ns <;> simp [c]
      refine ⟨rfl, _, rfl, t, _, 0, .str gg.1, rfl, rfl, SqT.of e1, atI_nat (j := 0) rfl, _, rfl, A, _, rfl, .inl (s2.seq (SqL.of hA)), rfl, WT.flat_strs _, _, rfl, ?_⟩
      rw [inV_str]
      by_cases c : gg.1 ∈ ns
      · refine ifF (by simp [c]) ⟨s2, ?_⟩
        rw [stp, if_pos c, List.append_nil]
        exact hN
      · refine ifT (by simp [c]) ⟨_, rfl, t, _, 0, .str gg.1, rfl, rfl, SqT.of e1, atI_nat (j := 0) rfl, _, hN, ?_, fun d o ed => ?_, ?_⟩
        · have l1 : (((gs.take m).filter fun g => decide (decide (g.1 ∈ ns) = false)).map (·.1)).length ≤ gs.length := by
            rw [List.length_map]
            refine Nat.le_trans (List.length_filter_le _ _) ?_
            rw [List.length_take]
            exact Nat.min_le_right _ _
          rw [List.length_map]
          exact Nat.lt_of_le_of_lt (show _ ≤ 20 by omega) (by decide)
        · rw [upd_ne (ne_of_none ed nN)]
          exact s2 _ _ ed
        · rw [upd_same, stp, if_neg c, List.map_append]
          rfl
    obtain ⟨s2, hN⟩ := hP
    rw [List.length_map, hlen, List.take_length, ← pick_own W.wds (fun _ h => h) W.nd hns false] at hN
    refine ⟨N, _, rfl, .inl ⟨SqL.of hN, fun t nt => ?_⟩⟩
    have z3 := same_new nt (o := .tup ((pickG gs rs false gs).map V.str))
    have ht3 : upd H2 t (.tup ((pickG gs rs false gs).map V.str)) t = some (.tup ((pickG gs rs false gs).map V.str)) := upd_same
    have s3 := s2.trans z3
    generalize upd H2 t (.tup ((pickG gs rs false gs).map V.str)) = H3 at z3 ht3 s3 ⊢
    refine ⟨(by show 1 ≤ sizeLine; decide), fun D nD => ?_⟩
    have z4 := same_new nD (o := .lst [.ref t])
    have hD4 : upd H3 D (.lst [.ref t]) D = some (.lst [.ref t]) := upd_same
    have s4 := s3.trans z4
    have ht4 := z4 _ _ ht3
    have ntD : t ≠ D := ne_of_none ht3 nD
    have nDH1 : H1 D = none := s3.free nD
    generalize upd H3 D (.lst [.ref t]) = H4 at z4 hD4 s4 ht4 ⊢
    have hw4 := hw1.same s4
    -- due.append(tuple([..]))
    refine ⟨_, rfl, .inl ⟨rfl, _, SqL.of hD4⟩, _, rfl, wa, r, g, as, rs, gs, rfl, hw4, by omega, fun H5 p s5 np hp => ?_⟩
    have lw : (wrapsW gs).length ≤ gs.length := by
      unfold wrapsW
      rw [List.length_map]
      exact List.length_filter_le _ _
    refine ⟨p, rfl, ⟨_, SqL.of hp⟩, fun M nM => lc_list (K := K) (a := p) (xs := (wrapsW gs).map V.str) (fun m H' => Same H5 H' ∧ H' M = some (.lst ((((wrapsW gs).take m).filter fun n => decide (n ∈ ns)).map V.str)))
      ⟨same_new nM, upd_same⟩ (fun m H' _ ⟨s', _⟩ => SqL.of (s' _ _ hp)) (fun m v H6 hm hP => ?_) fun H6 hP => ?_⟩
    · obtain ⟨s6, hM⟩ := hP
      rw [List.getElem?_map] at hm
      obtain ⟨n, hn, rfl⟩ := Option.map_eq_some_iff.mp hm
      have stp : ((wrapsW gs).take (m + 1)).filter (fun n => decide (n ∈ ns)) = ((wrapsW gs).take m).filter (fun n => decide (n ∈ ns)) ++ (if n ∈ ns then [n] else []) := by
        rw [List.take_add_one, hn, List.filter_append]
        by_cases c : n ∈ ns <;> simp [c]
      have hA6 := (s4.trans (s5.trans s6)).seq (K := K) (SqL.of hA)
      refine ⟨rfl, _, rfl, _, rfl, A, _, rfl, .inl hA6, rfl, WT.flat_strs _, _, rfl, ?_⟩
      rw [inV_str]
      by_cases c : n ∈ ns
      · refine ifT (by simp [c]) ⟨_, rfl, _, hM, ?_, fun d o ed => ?_, ?_⟩
        · have l1 : (((wrapsW gs).take m).filter fun n => decide (n ∈ ns)).length ≤ (wrapsW gs).length := by
            refine Nat.le_trans (List.length_filter_le _ _) ?_
            rw [List.length_take]
            exact Nat.min_le_right _ _
          rw [List.length_map]
          exact Nat.lt_of_le_of_lt (show _ ≤ 20 by omega) (by decide)
        · rw [upd_ne (ne_of_none ed nM)]
          exact s6 _ _ ed
        · rw [upd_same, stp, if_pos c, List.map_append]
          rfl
      · refine ifF (by simp [c]) ⟨s6, ?_⟩
        rw [stp, if_neg c, List.append_nil]
        exact hM
    obtain ⟨s6, hM⟩ := hP
    rw [List.length_map, List.take_length] at hM
    have ew : (wrapsW gs).filter (fun n => decide (n ∈ ns)) = pickG gs rs true (wrapsG gs) := by
      rw [pick_own (hs := wrapsG gs) W.wds (fun g hg => (List.mem_filter.mp hg).1) W.nd hns true]
      unfold wrapsW wrapsG
      rw [List.filter_map]
      congr 1
      refine List.filter_congr fun g _ => ?_
      simp
    rw [ew] at hM
    refine ⟨M, _, rfl, .inl ⟨SqL.of hM, fun t2 nt2 => ?_⟩⟩
    have z7 := same_new nt2 (o := .tup ((pickG gs rs true (wrapsG gs)).map V.str))
    have ht7 : upd H6 t2 (.tup ((pickG gs rs true (wrapsG gs)).map V.str)) t2 = some (.tup ((pickG gs rs true (wrapsG gs)).map V.str)) := upd_same
    have s47 := s5.trans (s6.trans z7)
    generalize upd H6 t2 (.tup ((pickG gs rs true (wrapsG gs)).map V.str)) = H7 at z7 ht7 s47 ⊢
    have hD7 := s47 _ _ hD4
    refine ⟨D, _, _, rfl, rfl, hD7, (by show 1 < sizeLine; decide), ?_⟩
    have keep : ∀ (c : Addr) (xs : List V) (o : HO), H7 c = some (.tup xs) → upd H7 D o c = some (.tup xs) := fun c xs o e => by
      rw [upd_ne (ne_of e hD7 (by intro z; cases z))]
      exact e
    have ht8 := keep _ _ (.lst ([.ref t] ++ [.ref t2])) (s47 _ _ ht4)
    have hu8 := keep _ _ (.lst ([.ref t] ++ [.ref t2])) ht7
    have hD8 : upd H7 D (.lst ([.ref t] ++ [.ref t2])) D = some (.lst ([.ref t] ++ [.ref t2])) := upd_same
    have s8 : Same H1 (upd H7 D (.lst ([.ref t] ++ [.ref t2]))) := fun c o ec => by
      rw [upd_ne (ne_of_none ec nDH1)]
      exact s47 _ _ (s4 _ _ ec)
    generalize upd H7 D (.lst ([.ref t] ++ [.ref t2])) = H8 at ht8 hu8 hD8 s8 ⊢
    -- repr([quiet(world), noticed(world)]) == repr(due)
    have hw8 := hw1.same s8
    refine ⟨_, rfl, wa, r, g, as, rs, gs, rfl, hw8, W.nd, by omega, by omega, each, fun H9 a s9 ha => ?_⟩
    refine ⟨_, rfl, wa, r, g, as, rs, gs, rfl, hw8.same s9, W.nd, by omega, by omega, each, fun H10 b s10 hb => ?_⟩
    refine ⟨(by show 2 ≤ sizeLine; decide), fun l nl => ?_⟩
    have z11 := same_new nl (o := .lst [.ref a, .ref b])
    have nmq : ∀ (b : Bool) (hs : List Gt), (∀ g ∈ hs, g ∈ gs) → ∀ s ∈ pickG gs rs b hs, NmOk s := fun b hs sub s hs => by
      obtain ⟨g, hg, rfl, _⟩ := (pick_mem W.wds sub b).mp hs
      exact (W.each g (sub g hg)).nm
    have lq : ∀ (b : Bool) (hs : List Gt), hs.length ≤ gs.length → (pickG gs rs b hs).length ≤ 20 := fun b hs h => by
      unfold pickG
      rw [List.length_map]
      exact Nat.le_trans (List.length_filter_le _ _) (by omega)
    have w1 : Wf 200 1 (tupS (pickG gs rs false gs)) := (wf_tupS (nmq false gs fun _ h => h)).mono (by have := lq false gs (Nat.le_refl _); omega) (Nat.le_refl _)
    have w2 : Wf 200 1 (tupS (pickG gs rs true (wrapsG gs))) := (wf_tupS (nmq true (wrapsG gs) fun g hg => (List.mem_filter.mp hg).1)).mono (by have := lq true (wrapsG gs) (List.length_filter_le _ _); omega) (Nat.le_refl _)
    have wl := (WfA.cons w1 (WfA.one w2)).lst
    have fit := wl.fit
    have fin : (PyData.list [tupS (pickG gs rs false gs), tupS (pickG gs rs true (wrapsG gs))]).showable = true ∧ (PyData.list [tupS (pickG gs rs false gs), tupS (pickG gs rs true (wrapsG gs))]).depth ≤ 60 ∧ (PyData.list [tupS (pickG gs rs false gs), tupS (pickG gs rs true (wrapsG gs))]).shown.length ≤ sizeLine :=
      ⟨fit.sh, Nat.le_trans fit.de (by decide), Nat.le_trans fit.ln (by decide)⟩
    have d1 : Dt K (upd H10 l (.lst [.ref a, .ref b])) (.ref l) (.list [tupS (pickG gs rs false gs), tupS (pickG gs rs true (wrapsG gs))]) :=
      .lst (SqL.of upd_same) (.cons (tq_strs (z11 _ _ (s10 _ _ ha))).dt (.cons (tq_strs (z11 _ _ hb)).dt .nil))
    have s812 := s9.trans (s10.trans z11)
    have d2 : Dt K (upd H10 l (.lst [.ref a, .ref b])) (.ref D) (.list [tupS (pickG gs rs false gs), tupS (pickG gs rs true (wrapsG gs))]) :=
      .lst (SqL.of (s812 _ _ hD8)) (.cons (tq_strs (s812 _ _ ht8)).dt (.cons (tq_strs (s812 _ _ hu8)).dt .nil))
    refine ⟨.ref l, _, rfl, d1, fin.1, fin.2.1, fin.2.2, ?_⟩
    refine ⟨_, rfl, .ref D, _, rfl, d2, fin.1, fin.2.1, fin.2.2, ?_⟩
    exact ⟨rfl, q_refl (q _ (s1.trans (s8.trans s812)))⟩
end
end K13

set_option Elab.async false
set_option linter.all false
set_option maxRecDepth 100000
set_option maxHeartbeats 4000000
namespace K13
open PySem PySem.Spec PyProof.Rows L2 WT
abbrev st_tree : Stmt := top 28
theorem sc_tree : FnScope ["_law_hand_here", "_law_regions", "_law_names_here", "_law_order", "_law_found", "_law_at", "_law_near", "_law_inside"] ["_law_hand_here", "_law_regions", "_law_names_here"] (defScope st_tree) := ⟨rfl, rfl, rfl, by decide +kernel, rfl, by decide +kernel, by decide +kernel⟩
/-- a gateway of two members -/
structure TwoG (rs : List Str) (g : Gt) : Prop where
  nm : NmOk g.1
  two : g.2.1.length = 2
  sub : ∀ y ∈ g.2.1, y ∈ rs
  kind : g.2.2 = "wrap" ∨ g.2.2 = "open"
section
variable {P : Program} {w : World} {K : PySem.W.Frag} {mg : Str → Option Value} {base : Heap} {f fM fO fT : Addr} {fd fdM fdO fdT : FuncData}
/-- tree(hand, regions, names) -/
def spTree : Sp := fun vs H Q _ => ∃ (a r nl : Addr) (b : Nat) (rs ns : List Str), vs = [.ref a, .ref r, .ref nl] ∧ PotAt H a b ∧ b ≤ 80000 ∧ H r = some (.tup (rs.map V.str)) ∧ H nl = some (.lst (ns.map V.str)) ∧ nl ≠ a ∧ rs.length = 10 ∧ ns.length = 10 ∧ rs.Nodup ∧ ns.Nodup ∧ (∀ s ∈ rs, PyData.strOk s = true) ∧ (∀ s ∈ ns, NmOk s) ∧
  ∀ (H' : Hp) (p : Addr) (as : List Addr) (gs : List Gt), But a H H' → PotAt H' a (b + 40) → H p = none → p ≠ a → H' p = some (.lst (as.map V.ref)) → Paired (GateAt H') as gs → TreeG rs gs → gs.map (·.1) = ns.take 9 → (∀ g ∈ gs, TwoG rs g) → Q (.ref p) H'
theorem ok_tree (F : Fun K "_law_tree" "_law_tree" st_tree f fd) (B : Blt mg) (F_mixed : Df P w K mg base "_law_mixed" 2 fM fdM ["_law_hand_here", "_law_some"] (spMixed K)) (F_of : Df P w K mg base "_law_of" 2 fO fdO ["_law_hand_here", "_law_some"] (spOf K))
    (F_take : Df P w K mg base "_law_take" 1 fT fdT ["_law_hand_here", "_law_many"] spTake) : FnG P w K mg base CX0 3 f fd ["_law_hand_here", "_law_regions", "_law_names_here"] spTree := by
  refine okG F sc_tree (fun vs H Q E h => ?_) (fun cdv A outer s H vs Q E hgd hr h => ?_)
  · obtain ⟨_, _, _, _, _, _, rfl, _⟩ := h
    rfl
  · obtain ⟨a, r, nl, b, rs, ns, rfl, ha, hb, hrs, hns, nla, lrs, lns, ndr, ndn, rok, nok, q⟩ := h
    refine ⟨_, (pss_cons (ps_par (by rfl) sc_tree.nd (i := 3) (j := 4) rfl rfl (by decide) rfl rfl (pa_cons (pe_callG hgd F_mixed.G (hr.mono (by decide)) (by rfl) F_mixed.g F_mixed.kp F_mixed.bd pass0 (pa_cons (pv 0) (pa_cons (pv 1) pa_nil))) (pa_cons (pe_lst pa_nil) pa_nil)) (by rfl))
      (pss_cons (ps_for PassesOwn.never rfl (pi_range2 (by rfl) B.range (pa_cons pe_int (pa_cons (pe_callB call_len (by rfl) B.len (by decide +kernel) (pa_cons (pv 3) pa_nil)) pa_nil))) (pg_name (i := 5) sc_tree.nd rfl (.inl rfl))
       (pss_cons (ps_set (i := 6) sc_tree.nd rfl (.inl rfl) (pe_callG hgd F_of.G (hr.mono (by decide)) (by rfl) F_of.g F_of.kp F_of.bd pass0 (pa_cons (pv 0) (pa_cons (pe_lst (pa_cons (pe_op op_sub (pv 5) pe_int) (pa_cons (pe_callG hgd F_take.G (hr.mono (by decide)) (by rfl) F_take.g F_take.kp F_take.bd pass0 (pa_cons (pv 0) (pa_cons (pv 5) pa_nil))) pa_nil))) pa_nil))))
       (pss_cons (ps_set (i := 7) sc_tree.nd rfl (.inl rfl) (pe_callTy call_tuple_of (by rfl) B.tuple (by decide +kernel) (pa_cons (pe_callB cr_sortedS (by rfl) B.sorted (by decide +kernel) (pa_cons (pe_lst (pa_cons (pe_ix ix_list (pv 3) (pv 5) (fun _ _ => rfl)) (pa_cons (pe_ix ix_list (pv 3) (pv 6) (fun _ _ => rfl)) pa_nil))) pa_nil)) pa_nil)))
       (pss_one (ps_expr (pe_bm PySem.F.plainAttrs_list PySem.F.slot_list_append PySem.F.type_list_append mt_append (pv 4) (pa_cons (pe_tup (pa_cons (pe_ix ix_list (pv 2) (pe_op op_sub (pv 5) pe_int) (fun _ _ => rfl)) (pa_cons (pv 7) (pa_cons (pe_callG hgd F_of.G (hr.mono (by decide)) (by rfl) F_of.g F_of.kp F_of.bd pass0 (pa_cons (pv 0) (pa_cons (pe_lst (pa_cons pe_str (pa_cons pe_str (pa_cons pe_str pa_nil)))) pa_nil))) pa_nil)))) pa_nil)))))))
      (pss_one (ps_ret (pv 4))))), ?_⟩
    refine ⟨_, rfl, _, rfl, a, r, b, rs, rfl, ha, by omega, .inr (SqT.of hrs), by omega, rok, fun H1 ml ys b1 p1 nml hml pm => ?_⟩
    refine ⟨(by show 0 ≤ sizeLine; decide), fun D nD => ⟨_, _, rfl, ?_⟩⟩
    have lys : ys.length = 10 := by rw [pm.length_eq, lrs]
    have ndy : ys.Nodup := pm.nodup_iff.mpr ndr
    have mla : ml ≠ a := fun z => by
      obtain ⟨_, _, _, e, _⟩ := ha
      rw [z, e] at nml
      cases nml
    have z2 := same_new nD (o := .lst [])
    have aD : a ≠ D := p1.ne_new nD
    have Da : D ≠ a := Ne.symm aD
    have hD2 : upd H1 D (.lst []) D = some (.lst []) := upd_same
    have p2 := p1.same z2
    have b2 := b1.trans (.of z2)
    have hml2 := z2 _ _ hml
    have nDH : H D = none := but_free b1 Da nD
    have mlD : ml ≠ D := ne_of_none hml nD
    rw [lrs] at p2
    generalize upd H1 D (.lst []) = H2 at z2 hD2 p2 b2 hml2 ⊢
    have hns2 := b2 _ _ nla hns
    have nlD : nl ≠ D := ne_of_none hns nDH
    -- for at in range(1, len(order))
    refine ⟨_, rfl, _, ys.length, rfl, .inl ⟨_, SqL.of hml2, (List.length_map ..).symm⟩, 1, (ys.length : Int), rfl, ⟨by omega, by omega, by omega, by omega⟩, for_it (walk_range (lo := 1) (n := ((ys.length : Int) - 1).toNat)) (fun j σ H' => ∃ (v5 v6 v7 : Option V) (as : List Addr) (gs : List Gt), σ = [some (.ref a), some (.ref r), some (.ref nl), some (.ref ml), some (.ref D), v5, v6, v7] ∧ But a H H' ∧ PotAt H' a (b + 10 + 3 * j) ∧ H' ml = some (.lst (ys.map V.str)) ∧ H' D = some (.lst (as.map V.ref)) ∧
        Paired (GateAt H') as gs ∧ TreeG (ys.take (j + 1)) gs ∧ gs.map (·.1) = ns.take j ∧ ∀ g ∈ gs, TwoG rs g)
      ⟨none, none, none, [], [], rfl, b2, p2, hml2, hD2, .nil, ?_, rfl, fun g hg => (nomatch hg)⟩ (fun _ _ _ _ _ => trivial) (fun j v σ H3 H4 hj hP hY => ?_) (fun σ H3 hP => ?_)⟩
    · match ys, lys with
      | y :: ys, _ => exact TreeG.one y
    · obtain ⟨v5, v6, v7, as, gs, rfl, b4, p4, hml4, hD4, pg, T, nms, two⟩ := hP
      obtain ⟨rfl, rfl⟩ := hY
      have hj : j < 9 := by omega
      have hns4 := b4 _ _ nla hns
      -- near
      refine ⟨_, rfl, _, rfl, _, 1, rfl, rfl, _, rfl, _, rfl, a, b + 10 + 3 * j, 1 + ((j : Nat) : Int), rfl, p4, by omega, by omega, by omega, fun H5 x b5 p5 x0 x1 => ?_⟩
      refine ⟨(by show 2 ≤ sizeLine; decide), fun L nL => ?_⟩
      have z6 := same_new nL (o := .lst [.int (1 + ((j : Nat) : Int) - 1), .int x])
      refine ⟨a, L, b + 10 + 3 * j + 1, _, rfl, p5.same z6, by omega, Ne.symm (p5.ne_new nL), .inl (SqL.of upd_same), by show 0 < 2; decide, by show 2 ≤ 1000; decide, fun H7 u b7 p7 hu => ?_⟩
      obtain ⟨k, rfl, hk⟩ : ∃ k : Nat, u = .int k ∧ k ≤ j := by
        simp only [List.mem_cons, List.not_mem_nil, or_false] at hu
        rcases hu with rfl | rfl
        · exact ⟨j, by congr 1; omega, Nat.le_refl _⟩
        · obtain ⟨m, rfl⟩ := Int.eq_ofNat_of_zero_le x0
          exact ⟨m, rfl, by omega⟩
      have b47 := (b5.trans (But.of z6)).trans b7
      have hml7 := b47 _ _ mla hml4
      have hj1 : j + 1 < ys.length := by omega
      have hky : k < ys.length := by omega
      have i1 : atI (ys.map V.str) (1 + ((j : Nat) : Int)) = some (.str ys[j + 1]) := by
        rw [show (1 + ((j : Nat) : Int)) = ((j + 1 : Nat) : Int) by omega]
        exact atI_nat (by rw [List.getElem?_map, List.getElem?_eq_getElem hj1]; rfl)
      have i2 : atI (ys.map V.str) ((k : Nat) : Int) = some (.str ys[k]) := atI_nat (by rw [List.getElem?_map, List.getElem?_eq_getElem hky]; rfl)
      -- inside
      refine ⟨_, rfl, _, rfl, ml, _, _, _, rfl, rfl, SqL.of hml7, i1, _, rfl, _, rfl, ml, _, _, _, rfl, rfl, SqL.of hml7, i2, (by show 2 ≤ sizeLine; decide), fun L8 n8 => ?_⟩
      have z8 := same_new n8 (o := .lst [.str ys[j + 1], .str ys[k]])
      refine ⟨L8, [ys[j + 1], ys[k]], rfl, SqL.of upd_same, by show 2 < 64; decide, fun ms L9 pms sms n9 => ?_⟩
      have z9 := same_new n9 (o := .lst (ms.map V.str))
      refine ⟨L9, _, rfl, .inl ⟨SqL.of upd_same, fun t nt => ?_⟩⟩
      have z10 := same_new nt (o := .tup (ms.map V.str))
      have ht10 : upd (upd (upd H7 L8 (.lst [.str ys[j + 1], .str ys[k]])) L9 (.lst (ms.map V.str))) t (.tup (ms.map V.str)) t = some (.tup (ms.map V.str)) := upd_same
      have s10 := z8.trans (z9.trans z10)
      have p10 := p7.same s10
      have b410 := b47.trans (But.of s10)
      generalize upd (upd (upd H7 L8 (.lst [.str ys[j + 1], .str ys[k]])) L9 (.lst (ms.map V.str))) t (.tup (ms.map V.str)) = H10 at ht10 p10 b410 ⊢
      have hD10 := b410 _ _ Da hD4
      have hns10 := b410 _ _ nla hns4
      have hml10 := b410 _ _ mla hml4
      have hjn : j < ns.length := by omega
      have i3 : atI (ns.map V.str) (1 + ((j : Nat) : Int) - 1) = some (.str ns[j]) := by
        rw [show (1 + ((j : Nat) : Int) - 1) = ((j : Nat) : Int) by omega]
        exact atI_nat (by rw [List.getElem?_map, List.getElem?_eq_getElem hjn]; rfl)
      -- found.append((name, inside, kind))
      refine ⟨_, rfl, .inl ⟨rfl, _, SqL.of hD10⟩, _, rfl, _, rfl, _, 1, rfl, rfl, nl, _, _, _, rfl, rfl, SqL.of hns10, i3, _, rfl, _, rfl, (by show 3 ≤ sizeLine; decide), fun L11 n11 => ?_⟩
      have z11 := same_new n11 (o := .lst [.str "wrap", .str "open", .str "open"])
      refine ⟨a, L11, b + 10 + 3 * j + 1 + 1, _, rfl, p10.same z11, by omega, Ne.symm (p10.ne_new n11), .inl (SqL.of upd_same), by show 0 < 3; decide, by show 3 ≤ 1000; decide, fun H12 y b12 p12 hy => ?_⟩
      obtain ⟨kd, rfl, hkd⟩ : ∃ kd : Str, y = .str kd ∧ (kd = "wrap" ∨ kd = "open") := by
        simp only [List.mem_cons, List.not_mem_nil, or_false] at hy
        rcases hy with rfl | rfl | rfl
        · exact ⟨_, rfl, .inl rfl⟩
        · exact ⟨_, rfl, .inr rfl⟩
        · exact ⟨_, rfl, .inr rfl⟩
      have b1012 := (But.of z11).trans b12
      have ht12 := b1012 _ _ (p10.ne_tup ht10) ht10
      have b412 := b410.trans b1012
      refine ⟨(by show 3 ≤ sizeLine; decide), fun t13 n13 => ?_⟩
      have z13 := same_new n13 (o := .tup [.str ns[j], .ref t, .str kd])
      have h13 : upd H12 t13 (.tup [.str ns[j], .ref t, .str kd]) t13 = some (.tup [.str ns[j], .ref t, .str kd]) := upd_same
      have b413 := b412.trans (But.of z13)
      have p13 := p12.same z13
      have ht13 := z13 _ _ ht12
      generalize upd H12 t13 (.tup [.str ns[j], .ref t, .str kd]) = H13 at h13 b413 p13 ht13 ⊢
      have hD13 := b413 _ _ Da hD4
      have las := Paired.length pg
      have lgs : gs.length = j := by
        have := congrArg List.length nms
        rw [List.length_map, List.length_take] at this
        omega
      refine ⟨D, _, _, rfl, rfl, hD13, ?_, ?_⟩
      · rw [List.length_map]
        exact Nat.lt_of_le_of_lt (show as.length ≤ 10 by omega) (by decide)
      have keep : ∀ (c : Addr) (xs : List V) (o : HO), H13 c = some (.tup xs) → upd H13 D o c = some (.tup xs) := fun c xs o e => by
        rw [upd_ne (ne_of e hD13 (by intro z; cases z))]
        exact e
      have zin : ys[j + 1] ∉ ys.take (j + 1) := fun h => by
        have nd2 := ndy
        rw [← List.take_append_drop (j + 1) ys] at nd2
        have hd : ys[j + 1] ∈ ys.drop (j + 1) := by
          rw [List.drop_eq_getElem_cons hj1]
          exact List.mem_cons_self
        exact (List.nodup_append.mp nd2).2.2 _ h _ hd rfl
      have pin : ys[k] ∈ ys.take (j + 1) := by
        rw [List.mem_take_iff_getElem]
        exact ⟨k, by omega, rfl⟩
      have memm : ∀ y, y ∈ ms ↔ y = ys[j + 1] ∨ y = ys[k] := fun y => by
        rw [pms.mem_iff]
        simp
      have fresh : ns[j] ∉ gs.map (·.1) := fun h => by
        rw [nms] at h
        have nd2 := ndn
        rw [← List.take_append_drop j ns] at nd2
        have hd : ns[j] ∈ ns.drop j := by
          rw [List.drop_eq_getElem_cons hjn]
          exact List.mem_cons_self
        exact (List.nodup_append.mp nd2).2.2 _ h _ hd rfl
      have T2 := T.leaf (g := (ns[j], ms, kd)) zin pin fresh memm
      refine ⟨_, _, _, as ++ [t13], gs ++ [(ns[j], ms, kd)], rfl, fun c o nc ec => ?_, ?_, ?_, ?_, ?_, ?_, ?_, ?_⟩
      · rw [upd_ne (ne_of_none ec nDH)]
        exact b413 _ _ nc (b4 _ _ nc ec)
      · obtain ⟨u0, u1, u2, e1, e2⟩ := p13
        refine ⟨u0, u1, u2, ?_, e2.more (by omega)⟩
        rw [upd_ne aD]
        exact e1
      · rw [upd_ne mlD]
        exact b413 _ _ mla hml4
      · rw [upd_same, List.map_append]
        rfl
      · refine pair_snoc (Paired.mapP pg fun c g hg => ?_) ⟨t, keep _ _ _ h13, keep _ _ _ ht13⟩
        obtain ⟨i, e1, e2⟩ := hg.but p4 b413
        exact ⟨i, keep _ _ _ e1, keep _ _ _ e2⟩
      · rw [List.take_add_one, List.getElem?_eq_getElem hj1]
        exact T2
      · rw [List.map_append, nms, List.take_add_one, List.getElem?_eq_getElem hjn]
        rfl
      · intro g hg
        rcases List.mem_append.mp hg with hg | hg
        · exact two g hg
        · rw [List.mem_singleton.mp hg]
          refine ⟨nok _ (List.getElem_mem hjn), pms.length_eq, fun y hy => pm.mem_iff.mp ?_, hkd⟩
          rcases (memm y).mp hy with e | e <;> rw [e]
          · exact List.getElem_mem hj1
          · exact List.getElem_mem hky
    · obtain ⟨v5, v6, v7, as, gs, rfl, b4, p4, hml4, hD4, pg, T, nms, two⟩ := hP
      have e9 : ((ys.length : Int) - 1).toNat = 9 := by omega
      rw [e9] at p4 T nms
      rw [List.take_of_length_le (by omega)] at T
      exact ⟨_, rfl, q _ D as gs b4 (p4.more (by omega)) nDH Da hD4 pg (T.perm (List.Perm.refl _) fun x => pm.mem_iff.symm) nms two⟩
end
end K13

set_option Elab.async false
set_option linter.all false
set_option maxRecDepth 100000
set_option maxHeartbeats 1000000
/-! the search through all paths, each gateway of two members. -/
namespace WT
open PySem PySem.Spec PyProof.Rows L2
section
variable {gs : List Gt} {rs : List Str} {one : Str}
def fan1 : Nat → Nat
  | 0 => 1
  | r + 1 => 1 + (r + 1) * fan1 r
theorem fan1_pos : ∀ n, 0 < fan1 n
  | 0 => Nat.one_pos
  | r + 1 => by
    unfold fan1
    omega
theorem kids_fan1 {l : List (Str × Str)} (nd : (gs.map (·.1)).Nodup) (hB : ∀ g ∈ gs, g.2.1.length ≤ 2) (h : GoodP gs [] rs one l) : (kids gs [] one l).length ≤ gs.length - l.length ∧ l.length ≤ gs.length := by
  obtain ⟨z, hz⟩ := h.path
  have ln := hz.names
  let p : Gt → Bool := fun g => decide (g.1 ∉ l.map (·.1))
  have a : (kids gs [] one l).length ≤ (gs.filter p).length * 1 := flat_filter (fun g hg => kidsOf_len (B := 1) (hB g hg) l) fun g hg c => by
    unfold kidsOf
    refine if_neg fun ⟨_, c2, c3⟩ => ?_
    have : ¬ g.1 ∉ l.map (·.1) := of_decide_eq_false c
    exact this c2
  have b : (l.map (·.1) ++ (gs.filter p).map (·.1)).length ≤ (gs.map (·.1)).length := by
    refine nodup_le (List.nodup_append.mpr ⟨h.gat, ?_, fun u hu v hv e => ?_⟩) fun u hu => ?_
    · exact List.Nodup.sublist (List.filter_sublist.map _) nd
    · obtain ⟨g, hg, rfl⟩ := List.mem_map.mp hv
      have : g.1 ∉ l.map (·.1) := of_decide_eq_true (List.mem_filter.mp hg).2
      exact this (e ▸ hu)
    · rcases List.mem_append.mp hu with hu | hu
      · exact ln u hu
      · obtain ⟨g, hg, rfl⟩ := List.mem_map.mp hu
        exact List.mem_map.mpr ⟨g, (List.mem_filter.mp hg).1, rfl⟩
  rw [List.length_append, List.length_map, List.length_map, List.length_map] at b
  omega
theorem weigh_fan1 {l : List (Str × Str)} (nd : (gs.map (·.1)).Nodup) (hm : ∀ g ∈ gs, ∀ z ∈ g.2.1, z ∈ rs) (hB : ∀ g ∈ gs, g.2.1.length ≤ 2) (h : GoodP gs [] rs one l) : weighF fan1 gs.length (kids gs [] one l) < weighF fan1 gs.length [l] := by
  obtain ⟨a, b⟩ := kids_fan1 nd hB h
  rw [weighF_same fan1 _ (l.length + 1) _ fun k hk => (kids_good hm h hk).2]
  have e : weighF fan1 gs.length [l] = fan1 (gs.length - l.length) := by simp [weighF]
  rw [e]
  cases hr : gs.length - l.length with
  | zero =>
    rw [hr] at a
    have : (kids gs [] one l).length = 0 := by omega
    rw [this, Nat.zero_mul]
    exact fan1_pos _
  | succ r =>
    rw [hr] at a
    rw [show gs.length - (l.length + 1) = r by omega]
    have := Nat.mul_le_mul_right (fan1 r) a
    rw [show fan1 (r + 1) = 1 + (r + 1) * fan1 r from rfl]
    omega
end
end WT

set_option Elab.async false
set_option linter.all false
set_option maxRecDepth 100000
set_option maxHeartbeats 1000000
/-! What trees, and trees with one gateway more, answer. -/
namespace WT
open PySem PySem.Spec PyProof.Rows L2
theorem eqv_strsT (a b : List Str) : PyData.eqv (.tuple (a.map PyData.str)) (.tuple (b.map PyData.str)) = decide (a = b) := by
  rw [← eqv_strs, PyData.eqv, PyData.eqv]
theorem nb_asc {zs : List Str} (h : zs.Pairwise fun x y => ¬ Bef y x) (nd : zs.Nodup) : AscS zs := (List.Pairwise.and h nd).imp fun ⟨a, b⟩ => bef_of a b
/-- sorted names: one order only -/
theorem srt_ext {a b : List Str} (ha : sortedS a = true) (nd : a.Nodup) (hb : AscS b) (m : ∀ y, y ∈ a ↔ y ∈ b) : a = b := asc_ext (asc_of ha nd) hb m
section
variable {rs : List Str} {gs : List Gt}
theorem TreeG.wds (T : TreeG rs gs) : Wds gs rs := ⟨T.nd, T.sub⟩
theorem TreeG.none_ (T : TreeG rs gs) {g : Gt} (hg : g ∈ gs) : cycT gs rs g = none := Classical.byContradiction fun n => T.quiet hg ((onc_iff T.wds hg).mpr n)
theorem TreeG.pick (T : TreeG rs gs) : pickG gs rs false gs = gs.map (·.1) := by
  unfold pickG
  congr 1
  refine List.filter_eq_self.mpr fun g hg => ?_
  rw [T.none_ hg]
  rfl
theorem TreeG.girth (T : TreeG rs gs) : scyc gs rs = none := scyc_none.mpr fun g hg => T.none_ (List.mem_filter.mp hg).1
theorem TreeG.way (T : TreeG rs gs) {one other : Str} (h1 : one ∈ rs) (h2 : other ∈ rs) : ∃ l, GoodP gs [] rs one l ∧ lastOf one l = other := by
  obtain ⟨m, p, n1, n2⟩ := (T.conn one h1 other h2).simple T.nd
  exact ⟨m, ⟨⟨_, p⟩, n1, n2, p.sub T.sub⟩, p.end_.symm⟩
end
section
variable {rs : List Str} {gs : List Gt} {l : List (Str × Str)} {one other : Str} {e : Gt} {gs' : List Gt}
theorem Uni.pos (U : Uni rs gs l one other e gs') : l ≠ [] := fun z => by
  have := U.en
  rw [z] at this
  exact U.ne this.symm
theorem Uni.quiet (U : Uni rs gs l one other e gs') (asc : AscS (gs'.map (·.1))) {ns zs : List Str} (hn : ∀ n, n ∈ gs'.map (·.1) ↔ n ∈ ns) (nd : zs.Nodup) (s : sortedS zs = true) (m : ∀ n, n ∈ zs ↔ n ∈ ns ∧ n ∉ around l e) : pickG gs' rs false gs' = zs := by
  refine (srt_ext s nd (pick_asc asc) fun y => ?_).symm
  rw [m, pick_mem U.wds fun _ h => h]
  constructor
  · rintro ⟨h1, h2⟩
    obtain ⟨g, hg, rfl⟩ := List.mem_map.mp ((hn y).mpr h1)
    refine ⟨g, hg, rfl, ⟨fun q => (by cases q), fun q => absurd ((U.onc hg).mp q) h2⟩⟩
  · rintro ⟨g, hg, rfl, i⟩
    exact ⟨(hn _).mp (List.mem_map.mpr ⟨g, hg, rfl⟩), fun q => by
      have := i.mpr ((U.onc hg).mpr q)
      cases this⟩
theorem Uni.noticed (U : Uni rs gs l one other e gs') (h : ∀ g ∈ gs', g.2.2 = ("wrap" : Str) → g.1 ∉ around l e) : pickG gs' rs true (wrapsG gs') = [] := by
  cases hp : pickG gs' rs true (wrapsG gs') with
  | nil => rfl
  | cons n t =>
    exfalso
    have hn : n ∈ pickG gs' rs true (wrapsG gs') := by rw [hp]; exact List.mem_cons_self
    obtain ⟨g, hg, rfl, i⟩ := (pick_mem U.wds (fun g hg => (List.mem_filter.mp hg).1) true).mp hn
    obtain ⟨h1, h2⟩ := List.mem_filter.mp hg
    exact U.off h1 (h g h1 (of_decide_eq_true h2)) (i.mp rfl)
end
end WT

set_option Elab.async false
set_option linter.all false
set_option maxRecDepth 100000
set_option maxHeartbeats 4000000
/-! sorted of a tuple, of a dict's values: alike data. -/
namespace WT
open PySem PySem.Spec PyProof.Rows L2 PySem.W
abbrev VD := V × PyData
/-- new for the tracked heap, since it is new behind what the heap grew to -/
def NewAt (h : Heap) (p : Addr) : Prop := h.get? p = none ∧ ∃ h1 : Heap, (∀ b o, h.get? b = some o → h1.get? b = some o) ∧ h1.objs.size ≤ p
theorem vd_sorted (l : List VD) : (l.mergeSort (dataLe false Prod.snd)).Pairwise fun a b => dataLt b.2 a.2 = false := by
  have T := sortLe_total (listOrd itemOrd) false fun b : VD => keyToks b.2
  have pw : (l.mergeSort (dataLe false Prod.snd)).Pairwise fun a b => dataLe false Prod.snd a b = true := List.pairwise_mergeSort (fun a b c => T.trans a b c) (fun a b => by
    rcases T.total a b with h | h
    · show (dataLe false Prod.snd a b || _) = true
      rw [show dataLe false Prod.snd a b = true from h]
      rfl
    · show (_ || dataLe false Prod.snd b a) = true
      rw [show dataLe false Prod.snd b a = true from h, Bool.or_true]) l
  refine pw.imp fun {a b} h => ?_
  have h : (!dataLt b.2 a.2) = true := h
  rwa [Bool.not_eq_true'] at h
theorem kv_vals {κ : Type} : ∀ {kvs : List (κ × V)} {vs : List (κ × Value)}, KV kvs vs → Vals (kvs.map Prod.snd) (vs.map Prod.snd)
  | _, _, .nil => .nil
  | _, _, .cons h t => .cons h.2 (kv_vals t)
/-- t + u, whichever of the two it gives -/
theorem catA_any {K : PySem.W.Frag} {H : Hp} {Q : VK} {t u : Addr} {xs ys : List V} (ht : H t = some (.tup xs)) (hu : H u = some (.tup ys)) (few : xs.length + ys.length ≤ sizeLine) (h : ∀ (q : Addr) (H7 : Hp), Same H H7 → H7 q = some (.tup (xs ++ ys)) → Q (.ref q) H7) : rCatA K (.ref t) (.ref u) H Q := by
  refine ⟨t, u, xs, ys, rfl, rfl, SqT.of ht, SqT.of hu, few, fun e => h u H (fun _ _ z => z) ?_, fun _ e => h t H (fun _ _ z => z) ?_, fun _ _ p np => h p _ (same_new np) upd_same⟩
  · rw [e, List.nil_append]
    exact hu
  · rw [e, List.append_nil]
    exact ht
section
variable {P : Program} {w : World} {A : Around} {E : Value → Shared → Prop} {s : Shared}
/-- whatever is collected into these values -/
theorem sorted_col {x : Value} {bs : List VD} {Q : Value → Shared → Prop} (hu : A.units + 64 < cLine)
    (col : ∀ (Z : List Value → Shared → Prop), (∀ (h2 : Heap) (tk : Nat) (vs : List Value), (∀ b o, s.heap.get? b = some o → h2.get? b = some o) → EachIs (fun v (b : VD) => RelV b.1 v) vs bs → Z vs { s with heap := h2, toks := tk }) → wpAny (model P w) A.in1 (collect x) Z E s)
    (hr : ∀ vs, EachIs (fun v (b : VD) => RelV b.1 v) vs bs → EachIs (fun v (b : VD) => Reads s.heap v b.2 []) vs bs) (al : AllAlike (bs.map Prod.snd)) (so : Sortable (bs.map Prod.snd)) (dp : ∀ b ∈ bs, b.2.depth ≤ 60) (few : bs.length ≤ sizeLine)
    (z : ∀ (h2 : Heap) (tk : Nat) (p : Addr) (out : Array Value) (c : Nat), (∀ b o, s.heap.get? b = some o → h2.get? b = some o) → NewAt s.heap p → h2.get? p = some (seqObj "list" out c) → Vals ((bs.mergeSort (dataLe false Prod.snd)).map Prod.fst) out.toList → Q (.ref p) { s with heap := h2, toks := tk }) :
    wpAny (model P w) A (call (.builtin "sorted") [x]) Q E s := by
  refine Calls.call_function_entry kind_sorted plain_sorted entry_sorted (args_sorted1 _) ?_
  unfold Builtin.«sorted»
  refine wpAny_bind (m := checkCount "sorted" 1 1 _) (wpAny_pure (wpAny_bind (col _ fun h2 tk vs k2 ev => ?_)))
  have lv := ev.length
  refine wpAny_bind (wpAny_newList ?_ (by omega))
  have hoL : (h2.push (seqObj "list" vs.toArray 0)).get? h2.objs.size = some (seqObj "list" vs.toArray 0) := Heap.get?_push_size _ rfl
  have kk : ∀ b o, s.heap.get? b = some o → (h2.push (seqObj "list" vs.toArray 0)).get? b = some o := fun b o e => Heap.get?_push_of_some _ (k2 b o e)
  refine wpAny_bind (wpAny_holding (list_sort_data (enc := Prod.snd) (bs := bs) (s := { s with heap := h2.push (seqObj "list" vs.toArray 0), toks := tk }) hoL ev
    ((hr vs ev).mono fun v b r => ⟨[], PyProof.Rows.Reads.keeps kk r, List.not_mem_nil⟩) al so few (fun b hb => ?_) fun out ho he => ?_))
  · have := dp b hb
    simp only [Around.in1_units]
    omega
  obtain ⟨c, hc⟩ := sortedHeap_at (vs := vs) (out := List.toArray out) hoL
  have s0 : s.heap.get? h2.objs.size = none := by
    cases e : s.heap.get? h2.objs.size with
    | none => rfl
    | some o => exact absurd (Heap.lt_size (k2 _ _ e)) (Nat.lt_irrefl _)
  refine wpAny_pure ⟨_, rfl, z _ tk h2.objs.size (List.toArray out) c (fun b u e => ?_) ⟨s0, h2, k2, Nat.le_refl _⟩ hc (vals_each he)⟩
  have e1 := k2 b u e
  have lt := Heap.lt_size e1
  rw [sortedHeap_old (Nat.ne_of_lt lt) (by rw [size_push']; exact Nat.lt_succ_of_lt lt)]
  exact Heap.get?_push_of_some _ e1
end
section
variable {X : Cx}
theorem free_H {pins : List (Addr × Obj)} {σ : L2.St} {H : Hp} {s : Shared} (I : Inv X pins σ H s) {p : Addr} (hp : NewAt s.heap p) : H p = none := by
  obtain ⟨_, h1, k, z⟩ := hp
  exact (I.hok.kept k).fresh z
/-- what is laid by such a sort -/
theorem col_done {pins : List (Addr × Obj)} {σ : L2.St} {H : Hp} {s : Shared} (I : Inv X pins σ H s) {ys : List V} {h2 : Heap} {tk : Nat} {p : Addr} {out : Array Value} {c : Nat} (few : ys.length ≤ sizeLine) (k : ∀ b o, s.heap.get? b = some o → h2.get? b = some o) (hp : NewAt s.heap p)
    (hg : h2.get? p = some (seqObj "list" out c)) (hv : Vals ys out.toList) : Inv X pins σ (upd H p (.lst ys)) { s with heap := h2, toks := tk } :=
  I.laidN (t' := tk) k hp.1 (free_H I hp) (show ObjOk X.prog X.w _ h2 p (.lst ys) from ⟨few, out.toList, c, hv, hg⟩)
/-- no list and no dict in it: so no address of one is read -/
theorem plain_reads {pins : List (Addr × Obj)} {σ : L2.St} {H : Hp} {s : Shared} (I : Inv X pins σ H s) {bs : List VD} (hd : ∀ b ∈ bs, ∃ k : NestedKey, b.2 = k.data ∧ Dp X.K H b.1 b.2) :
    ∀ vs, EachIs (fun v (b : VD) => RelV b.1 v) vs bs → EachIs (fun v (b : VD) => Reads s.heap v b.2 []) vs bs := by
  intro vs e
  induction e with
  | nil => exact .nil
  | @cons v b vs bs h _ ih =>
    obtain ⟨k, e1, e2⟩ := hd b List.mem_cons_self
    obtain ⟨as, r⟩ := Dp.reads I _ _ _ e2 h
    have : as = [] := by
      rw [e1] at r
      exact (nk_reads k _ as r).2
    rw [this] at r
    exact .cons r (ih fun x hx => hd x (List.mem_cons_of_mem _ hx))
/-- sorted(t), a tuple of texts -/
def rSortedTS (K : PySem.W.Frag) : List V → Hp → VK → Prop := fun vs H Q => ∃ (a : Addr) (ys : List Str), vs = [.ref a] ∧ SqT K H a (ys.map V.str) ∧ ys.length ≤ 4000 ∧ ∀ (zs : List Str) (p : Addr), zs.Perm ys → zs.Pairwise (fun x y => ¬ Bef y x) → H p = none → Q (.ref p) (upd H p (.lst (zs.map V.str)))
theorem text_sort (ys : List Str) : ∃ zs : List Str, zs.Perm ys ∧ zs.Pairwise (fun x y => ¬ Bef y x) ∧ ((ys.map fun y => ((V.str y, PyData.str y) : VD)).mergeSort (dataLe false Prod.snd)) = zs.map fun y => (V.str y, PyData.str y) := by
  obtain ⟨zs, pz, ez⟩ := perm_map_inv (f := fun y : Str => ((V.str y, PyData.str y) : VD)) (List.mergeSort_perm (ys.map fun y => ((V.str y, PyData.str y) : VD)) (dataLe false Prod.snd)) rfl
  refine ⟨zs, pz, ?_, ez⟩
  have T := sortLe_total (listOrd itemOrd) false fun b : VD => keyToks b.2
  have pw : ((ys.map fun y => ((V.str y, PyData.str y) : VD)).mergeSort (dataLe false Prod.snd)).Pairwise fun a b => dataLe false Prod.snd a b = true := List.pairwise_mergeSort (fun a b c => T.trans a b c) (fun a b => by
    rcases T.total a b with h | h
    · show (dataLe false Prod.snd a b || _) = true
      rw [show dataLe false Prod.snd a b = true from h]
      rfl
    · show (_ || dataLe false Prod.snd b a) = true
      rw [show dataLe false Prod.snd b a = true from h, Bool.or_true]) _
  rw [ez, List.pairwise_map] at pw
  refine pw.imp fun {a b} h hb => ?_
  have h : (!dataLt (.str b) (.str a)) = true := h
  rw [dataLt_str, decide_eq_true (show b.cps.toList < a.cps.toList from hb)] at h
  cases h
theorem cr_sortedTS (hu : X.A.units + 64 < cLine) : CallR X (.builtin "sorted") (rSortedTS X.K) := by
  intro pins s σ H vs us Q I r h
  obtain ⟨a, ys, rfl, hs, few, q⟩ := h
  obtain ⟨its, rv, ⟨o, ho, hc, n, hd⟩, hz⟩ := I.tuple hs
  rw [Vals.ref1 r]
  obtain ⟨zs, pz, srt, ez⟩ := text_sort ys
  have e := each_vals (bs := ys.map fun y => ((V.str y, PyData.str y) : VD)) (us := its) (by rw [List.map_map]; exact rv)
  have lz := pz.length_eq
  have li : its.length = ys.length := by rw [← rv.length, List.length_map]
  have few2 : ys.length ≤ sizeLine := Nat.le_trans few (by decide)
  refine sorted_col (bs := ys.map fun y => ((V.str y, PyData.str y) : VD)) hu (fun Z hZ => ?_) (plain_reads I fun b hb => ?_) ?_ (.inr ?_) (fun b hb => ?_) (by rw [List.length_map]; exact few2) fun h2 tk p out c k hp hg hv => ?_
  · refine wpAny_collect_seq a (.inr rfl) ho hc hd (fun h2 k2 => ?_) (by rw [List.size_toArray, li]; exact few2)
    exact hZ h2 s.toks its k2 e
  · obtain ⟨y, _, rfl⟩ := List.mem_map.mp hb
    exact ⟨.text y, by rw [NestedKey.data], .str y⟩
  · intro d hd d' hd'
    rw [List.map_map] at hd hd'
    obtain ⟨x, _, rfl⟩ := List.mem_map.mp hd
    obtain ⟨y, _, rfl⟩ := List.mem_map.mp hd'
    show alike (.str x) (.str y) = true
    simp [alike]
  · intro d hd
    rw [List.map_map] at hd
    obtain ⟨x, _, rfl⟩ := List.mem_map.mp hd
    exact ⟨fun z => (by cases z), fun xs z => (by cases z)⟩
  · obtain ⟨y, _, rfl⟩ := List.mem_map.mp hb
    show (PyData.str y).depth ≤ 60
    simp [PyData.depth]
  · rw [ez, List.map_map] at hv
    exact ⟨.ref p, _, col_done I (ys := zs.map V.str) (by rw [List.length_map, lz]; exact few2) k hp hg hv, rfl, q zs p pz srt (free_H I hp)⟩
/-- sorted(d.values()), tuples of texts none of which is empty -/
def tSortVals (K : PySem.W.Frag) (td : TE) : TE := fun σ H Q => td σ H fun x H1 => ∃ (a : Addr) (kvs : List (Key × V)) (bs : List VD), x = .ref a ∧ H1 a = some (.dK kvs) ∧ kvs.map Prod.snd = bs.map Prod.fst ∧ (∀ b ∈ bs, ∃ k : NestedKey, b.2 = k.data ∧ Dp K H1 b.1 b.2) ∧ AllAlike (bs.map Prod.snd) ∧ Sortable (bs.map Prod.snd) ∧
  (∀ b ∈ bs, b.2.depth ≤ 60) ∧ bs.length ≤ 4000 ∧ ∀ p, H1 p = none → Q (.ref p) (upd H1 p (.lst ((bs.mergeSort (dataLe false Prod.snd)).map Prod.fst)))
theorem pe_sortVals {o : Expr} {p pos apos mpos : Pos} {td : TE} (calm : X.calm = true) (hu : X.A.units + 64 < cLine) (hg : Gl X "sorted") (hm : X.mg "sorted" = none) (hd : PE X o td) (hbase : attributeBase o "values" X.env (eval o X.env) = eval o X.env := by rfl) (hline : (apos.endLine == mpos.line) = true := by rfl)
    (hse : starEach [Expr.Call (.Attribute o "values" apos) [] [] mpos] X.env = [(false, eval (Expr.Call (.Attribute o "values" apos) [] [] mpos) X.env)] := by rfl) :
    PE X (.Call (.Name "sorted" p) [.Call (.Attribute o "values" apos) [] [] mpos] [] pos) (tSortVals X.K td) := by
  refine ⟨fun pins s σ H Q I h => wpAny_Call_Name_kw (ld_blt I hg hm (u := .builtin "sorted") (by first | rfl | decide +kernel) ?_ (by first | decide +kernel | decide) (by first | decide +kernel | decide))⟩
  rw [hse]
  refine PySem.callWith_builtin1 (wpAny_Call_method0_late hbase hline (thn (hd.run pins s σ H _ I h) fun v s1 ⟨x, H1, I1, r1, a, kvs, bs, ex, ha, ev, dd, al, so, dp, few, q⟩ => ?_))
  subst ex
  obtain rfl : v = Value.ref a := r1
  obtain ⟨_, hsys, vs, rel, dof⟩ := dk_of I1.hok ha
  obtain ⟨ep, dat⟩ := dof.dictAt
  have dat2 := dat
  obtain ⟨ob, es, ho, ex, hdat, hko, hpr, hnd⟩ := dat2
  refine ⟨"dict", "dict.values", PySem.F.plainAttrs_dict, PySem.F.slot_dict_values, PySem.F.type_dict_values, ⟨ob, ho, ex.1⟩, fun b e => ?_, Calls.callWith_builtin rfl (PySem.evalArgs_none ?_)⟩
  · cases e
    exact ⟨ob, ho, ex.2.1⟩
  refine call_meetsIn PySem.F.slot_dict_values ⟨ob, ho, ex.1⟩ PySem.F.entry_dict_values (PySem.F.args_dict_values_1 _) (meets_dict_values (mixKind X.prog X.w) a hsys) ⟨⟨vs, dof⟩, ?_⟩
  have k1 : ∀ b u, s1.heap.get? b = some u → (s1.heap.push { cls := .type "dict_values", data := .fields #[.ref a] }).get? b = some u := fun b u e => Heap.get?_push_of_some _ e
  have dat1 : (s1.heap.push { cls := .type "dict_values", data := .fields #[.ref a] }).DictAt (mixKind X.prog X.w) a vs ep := dat.keep k1
  have lv : vs.length = bs.length := by
    have e1 := congrArg List.length ev
    rw [List.length_map, List.length_map] at e1
    rw [← e1]
    exact (KV.length rel).symm
  have I2 : Inv X pins σ H1 { s1 with heap := s1.heap.push { cls := .type "dict_values", data := .fields #[.ref a] } } := I1.kept (t' := s1.toks) k1
  refine sorted_col (bs := bs) (s := { s1 with heap := s1.heap.push { cls := .type "dict_values", data := .fields #[.ref a] } }) hu (fun Z hZ => ?_) (plain_reads I2 dd) al so dp (Nat.le_trans few (by decide)) fun h2 tk p out c k hp hg hv => ?_
  · refine kdu_collect (kdl_values (knd := mixKind X.prog X.w) (r := s1.heap.objs.size) (d := a) (kvs := vs) (ep := ep)) (I1.ok.hd calm) ⟨⟨_, Heap.get?_push_size _ rfl, rfl, rfl⟩, dat1⟩ (by rw [lv]; exact Nat.le_trans few (by decide)) fun h2 tk acc k2 it => hZ h2 tk acc.toList k2 ?_
    have ev2 : acc.toList = vs.map Prod.snd := by
      refine kdl_vals_eq acc.toList (by rw [Array.length_toList]; exact it.1) fun j v hv => it.2 j v (by rw [← Array.getElem?_toList]; exact hv)
    rw [ev2]
    refine each_vals ?_
    rw [← ev]
    exact kv_vals rel
  · exact ⟨.ref p, _, col_done I2 (by rw [List.length_map, List.length_mergeSort]; exact Nat.le_trans few (by decide)) k hp hg hv, rfl, q p (free_H I2 hp)⟩
end
end WT

set_option Elab.async false
set_option linter.all false
set_option maxRecDepth 100000
set_option maxHeartbeats 1000000
/-! o.m(e, .., k=v): a method's call with keywords; sorted of a tuple of gateways. -/
namespace WT
open PySem PySem.Spec PyProof.Rows L2 PySem.W
/-- o.m(e, .., k=v, ..); ord: in which order the parameters take what is handed -/
def tMethK (C : Addr) (m : Str) (n k : Nat) (ord : List V → List V → List V) (sp : Sp) (E : XK) (ta : TE) (t tk : TA) : TE := fun σ H Q => ta σ H fun x H1 => ∃ a dx fs, x = .ref a ∧ H1 a = some (.ins C dx fs) ∧ fs.lookup m = none ∧
  t σ H1 fun vs H2 => tk σ H2 fun zs H3 => vs.length = n ∧ zs.length = k ∧ sp (.ref a :: ord vs zs) H3 Q E
section
variable {X : Cx} {cx : CXT} {k n m : Nat} {f C : Addr} {fd : FuncData} {ps ks : List Str} {sp : Sp} {E : XK} {nm : Str} {apos pos : Pos} {o e : Expr} {es : List Expr} {kws : List Keyword} {ta : TE} {t tk : TA}
theorem pe_methK {pl : Sem Bool} (ord : List V → List V → List V) (ordv : List Value → List Value → List Value) (hord : ∀ {vs zs : List V} {us ws : List Value}, Vals vs us → Vals zs ws → us.length = n → ws.length = m → Vals (ord vs zs) (ordv us ws))
    (he : PE X o ta) (c : Cls X.K C) (hm : Meth X.K C nm f) (F : FnOk X.prog X.w X.K X.mg X.base cx k f fd ps sp) (hr : Room k X.A)
    (hb : ∀ (s1 : Shared) (u : Value) (us ws : List Value), X.K.In s1.heap → us.length = n → ws.length = m → BindsTo s1 fd ⟨u :: us, ks.zip ws⟩ (ps.zip (u :: ordv us ws))) (hx : Passes cx X E) (ha : PA X (e :: es) t) (hkw : PK X kws tk)
    (hall : (backToKw pos (keywordEach kws X.env)).all (·.1.isSome) = true := by rfl) (hks : (backToKw pos (keywordEach kws X.env)).filterMap (·.1) = ks := by rfl)
    (hst : starEach (e :: es) X.env = (false, eval e X.env) :: starEach es X.env := by rfl) (hpl : ((backTo pos (starEach (e :: es) X.env)).any (·.1) || (backToKw pos (keywordEach kws X.env)).any (·.1.isNone)) = false := by rfl)
    (ht : eval (.Call (.Attribute o nm apos) (e :: es) kws pos) X.env = (do
      let ov ← eval o X.env
      standAt apos.atName
      let (f, first) ← holding [ov] (getMethod ov nm pl)
      callWith pos f first (backTo pos (starEach (e :: es) X.env)) (backToKw pos (keywordEach kws X.env))) := by rfl) :
    PE X (.Call (.Attribute o nm apos) (e :: es) kws pos) (tMethK C nm n m ord sp E ta t tk) := by
  refine ⟨fun pins s σ H Q I h => ?_⟩
  refine PySem.W.methodCall_KW (pl := pl) (thn (he.run pins s σ H _ I h) fun u s1 ⟨x, H1, I1, rx, a, dx, fs, ex, ea, l, q⟩ => ?_) ht
  subst ex
  obtain rfl : u = Value.ref a := rx
  refine getmeth_ok I1 ea c hm l ?_
  refine PySem.W.callWith_KW (first := [.ref a]) (h₀ := X.base) I.ok.mod.kin hm.kp hall (thn (ha.run pos pins s1 σ H1 _ I1 q) fun us s2 ⟨vs, H2, I2, r, q2⟩ => ?_) hpl hst
  refine thn (hkw.run pos pins s2 σ H2 _ I2 q2) fun ws s3 ⟨zs, H3, I3, rz, l1, l2, q3⟩ => ⟨I3.kIn, ?_⟩
  rw [hks]
  have lu := (Vals.length r).symm.trans l1
  have lw := (Vals.length rz).symm.trans l2
  exact run_fnO (us := .ref a :: us) (vs := .ref a :: ord vs zs) (bs := .ref a :: ordv us ws) F hr hx I3 (hb s3 (.ref a) us ws I3.kIn lu lw) (.cons rfl (hord r rz lu lw)) q3
/-- sorted(t), a tuple of gateways of different names -/
def rSortedTG (K : PySem.W.Frag) : List V → Hp → VK → Prop := fun vs H Q => ∃ (a : Addr) (as : List Addr) (gs : List Gt), vs = [.ref a] ∧ SqT K H a (as.map V.ref) ∧ Paired (GateAt H) as gs ∧ gs.length ≤ 100 ∧ (gs.map (·.1)).Nodup ∧
  ∀ (bs : List Addr) (hs : List Gt) (p : Addr), hs.Perm gs → AscS (hs.map (·.1)) → Paired (GateAt H) bs hs → H p = none → Q (.ref p) (upd H p (.lst (bs.map V.ref)))
theorem gate_nk (g : Gt) : ∃ k : NestedKey, gateD g = k.data := ⟨.tup [.text g.1, keyT g.2.1, .text g.2.2], by
  rw [NestedKey.data, NestedKey.datas, NestedKey.datas, NestedKey.datas, NestedKey.datas, keyT_data, NestedKey.data, NestedKey.data]
  rfl⟩
theorem zip_l {α β : Type} : ∀ {as : List α} {bs : List β}, as.length = bs.length → (as.zip bs).map (·.1) = as
  | [], [], _ => rfl
  | _ :: _, _ :: _, h => by rw [List.zip_cons_cons, List.map_cons, zip_l (Nat.succ.inj h)]
theorem zip_r {α β : Type} : ∀ {as : List α} {bs : List β}, as.length = bs.length → (as.zip bs).map (·.2) = bs
  | [], [], _ => rfl
  | _ :: _, _ :: _, h => by rw [List.zip_cons_cons, List.map_cons, zip_r (Nat.succ.inj h)]
theorem pair_zipG {R : Addr → Gt → Prop} : ∀ {as : List Addr} {gs : List Gt}, Paired R as gs → ∀ p ∈ as.zip gs, R p.1 p.2
  | _, _, .nil, p, h => by cases h
  | _, _, .cons h t, p, hp => by
    rw [List.zip_cons_cons] at hp
    rcases List.mem_cons.mp hp with rfl | hp
    · exact h
    · exact pair_zipG t p hp
theorem pair_of {R : Addr → Gt → Prop} : ∀ {ks : List (Addr × Gt)}, (∀ p ∈ ks, R p.1 p.2) → Paired R (ks.map (·.1)) (ks.map (·.2))
  | [], _ => .nil
  | k :: ks, h => .cons (h k List.mem_cons_self) (pair_of fun p hp => h p (List.mem_cons_of_mem _ hp))
theorem cr_sortedTG (hu : X.A.units + 64 < cLine) : CallR X (.builtin "sorted") (rSortedTG X.K) := by
  intro pins s σ H vs us Q I r h
  obtain ⟨a, as, gs, rfl, hs, pg, few, nd, q⟩ := h
  obtain ⟨its, rv, ⟨o, ho, hc, n, hd⟩, hz⟩ := I.tuple hs
  rw [Vals.ref1 r]
  have lg := Paired.length pg
  generalize hbs : (as.zip gs).map (fun p : Addr × Gt => ((V.ref p.1, gateD p.2) : VD)) = bs
  have lb : bs.length = gs.length := by rw [← hbs, List.length_map, List.length_zip, lg, Nat.min_self]
  have e1 : bs.map (·.1) = as.map V.ref := by
    rw [← hbs, List.map_map]
    conv => rhs; rw [← zip_l lg, List.map_map]
    rfl
  have dps : ∀ b ∈ bs, ∃ k : NestedKey, b.2 = k.data ∧ Dp X.K H b.1 b.2 := fun b hb => by
    rw [← hbs] at hb
    obtain ⟨p, hp, rfl⟩ := List.mem_map.mp hb
    obtain ⟨k, e⟩ := gate_nk p.2
    exact ⟨k, e, dp_gate (pair_zipG pg p hp)⟩
  have e := each_vals (bs := bs) (us := its) (by rw [e1]; exact rv)
  have li : its.length = gs.length := by rw [← rv.length, List.length_map, lg]
  have few2 : gs.length ≤ sizeLine := Nat.le_trans few (by decide)
  refine sorted_col (bs := bs) hu (fun Z hZ => ?_) (plain_reads I dps) ?_ ?_ (fun b hb => ?_) (by rw [lb]; exact few2) fun h2 tk p out c k hp hg hv => ?_
  · refine wpAny_collect_seq a (.inr rfl) ho hc hd (fun h2 k2 => ?_) (by rw [List.size_toArray, li]; exact few2)
    exact hZ h2 s.toks its k2 e
  · rw [← hbs, List.map_map]
    exact PySem.W.AllAlike.of fun b b' => alike_gate _ _
  · rw [← hbs, List.map_map]
    exact PySem.W.Sortable.tuples fun b => ⟨_, _, rfl⟩
  · rw [← hbs] at hb
    obtain ⟨p, hp', rfl⟩ := List.mem_map.mp hb
    exact Nat.le_trans (depth_gate _) (by decide)
  · obtain ⟨ks, hks, eks⟩ := perm_map_inv (f := fun p : Addr × Gt => ((V.ref p.1, gateD p.2) : VD)) (List.mergeSort_perm bs (dataLe false Prod.snd)) hbs.symm
    have pk : (ks.map (·.2)).Perm gs := by
      have := hks.map (·.2)
      rw [zip_r lg] at this
      exact this
    have ga : AscS ((ks.map (·.2)).map (·.1)) := by
      rw [List.map_map]
      refine gates_asc (l := bs) eks ?_
      have := (pk.map (·.1)).nodup_iff.mpr nd
      rw [List.map_map] at this
      exact this
    have pr : Paired (GateAt H) (ks.map (·.1)) (ks.map (·.2)) := pair_of fun p hp => pair_zipG pg p (hks.mem_iff.mp hp)
    rw [eks, List.map_map] at hv
    have ev : ks.map (Prod.fst ∘ fun p : Addr × Gt => ((V.ref p.1, gateD p.2) : VD)) = (ks.map (·.1)).map V.ref := by
      rw [List.map_map]
      rfl
    rw [ev] at hv
    have lk : (ks.map (·.1)).length = gs.length := by rw [List.length_map, ← pk.length_eq, List.length_map]
    exact ⟨.ref p, _, col_done I (ys := (ks.map (·.1)).map V.ref) (by rw [List.length_map, lk]; exact few2) k hp hg hv, rfl, q _ _ p pk ga pr (free_H I hp)⟩
end
end WT

set_option Elab.async false
set_option linter.all false
set_option maxRecDepth 100000
set_option maxHeartbeats 40000000
namespace K13
open PySem PySem.Spec PyProof.Rows L2 WT
abbrev st_tree_right : Stmt := top 29
theorem sc_tree_right : FnScope ["_law_hand_here", "_law_regions", "_law_names_here", "_law_tree_here", "_law_world", "_law_one", "_law_other", "_law_last", "_law_more", "_law_path", "_law_around", "_law_wrapping_here", "_law_due", "_law_others", "_law_cycle", "_law_name", "_law_pair"] ["_law_hand_here"] (defScope st_tree_right) := ⟨rfl, rfl, rfl, by decide +kernel, rfl, by decide +kernel, by decide +kernel⟩
def refs (ss : List (Addr × Gt)) : List V := ss.map fun p => V.ref p.1
theorem refs_zip : ∀ {as : List Addr} {gs : List Gt}, as.length = gs.length → refs (as.zip gs) = as.map V.ref
  | [], [], _ => rfl
  | a :: as, g :: gs, h => by
    have := refs_zip (as := as) (gs := gs) (Nat.succ.inj h)
    unfold refs at this ⊢
    rw [List.zip_cons_cons, List.map_cons, this]
    rfl
theorem gts_pair {H : Hp} : ∀ {ss : List (Addr × Gt)}, (∀ p ∈ ss, GateAt H p.1 p.2) → Paired (GateAt H) (ss.map (·.1)) (ss.map (·.2))
  | [], _ => .nil
  | p :: ss, h => .cons (h p List.mem_cons_self) (gts_pair fun q hq => h q (List.mem_cons_of_mem _ hq))
theorem refs_as (ss : List (Addr × Gt)) : refs ss = (ss.map (·.1)).map V.ref := by
  rw [List.map_map]
  rfl
theorem tnil_use {σ : L2.St} {H : Hp} {Q : List V → Hp → Prop} (h : Q [] H) : tNil σ H Q := h
/-- sorted(gateways) -/
theorem srt_use {K : PySem.W.Frag} {H : Hp} {Q : VK} {a : Addr} {ss : List (Addr × Gt)} (ha : SqL K H a (refs ss)) (G : ∀ p ∈ ss, GateAt H p.1 p.2) (nd : ((ss.map (·.2)).map (·.1)).Nodup)
    (q : ∀ (p : Addr) (ts : List (Addr × Gt)), H p = none → (∀ x ∈ ts, x ∈ ss) → ts.map (·.2) = sortG (ss.map (·.2)) → Q (.ref p) (upd H p (.lst (refs ts)))) : rSortedD K [.ref a] H Q := by
  have e0 : (ss.map fun p : Addr × Gt => ((V.ref p.1, gateD p.2) : V × PyData)).map (·.1) = refs ss := by
    rw [List.map_map]
    rfl
  have al : PySem.W.AllAlike ((ss.map fun p : Addr × Gt => ((V.ref p.1, gateD p.2) : V × PyData)).map (·.2)) := by
    rw [List.map_map]
    exact PySem.W.AllAlike.of fun b b' => alike_gate _ _
  have so : PySem.W.Sortable ((ss.map fun p : Addr × Gt => ((V.ref p.1, gateD p.2) : V × PyData)).map (·.2)) := by
    rw [List.map_map]
    exact PySem.W.Sortable.tuples fun b => ⟨_, _, rfl⟩
  refine ⟨a, ss.map fun p => (V.ref p.1, gateD p.2), rfl, by rw [e0]; exact ha, fun b hb => ?_, al, so, fun b hb => ?_, fun p np => ?_⟩
  · obtain ⟨x, hx, rfl⟩ := List.mem_map.mp hb
    exact dp_gate (G x hx)
  · obtain ⟨x, hx, rfl⟩ := List.mem_map.mp hb
    exact Nat.le_trans (depth_gate _) (by decide)
  · obtain ⟨ks, hks, eks⟩ := perm_map_inv (f := fun p : Addr × Gt => ((V.ref p.1, gateD p.2) : V × PyData)) (List.mergeSort_perm (ss.map fun p : Addr × Gt => ((V.ref p.1, gateD p.2) : V × PyData)) (PySem.W.dataLe false fun b => b.2)) rfl
    have pk : (ks.map (·.2)).Perm (ss.map (·.2)) := hks.map (·.2)
    have ga : AscS ((ks.map (·.2)).map (·.1)) := by
      rw [List.map_map]
      refine gates_asc eks ?_
      have := (pk.map (·.1)).nodup_iff.mpr nd
      rw [List.map_map] at this
      exact this
    have ev : ((ss.map fun p : Addr × Gt => ((V.ref p.1, gateD p.2) : V × PyData)).mergeSort (PySem.W.dataLe false fun b => b.2)).map (·.1) = refs ks := by
      rw [eks, List.map_map]
      rfl
    rw [ev]
    exact q p ks np (fun x hx => hks.mem_iff.mp hx) (sort_only pk ga)
/-- what an assignment's value is, said once -/
theorem nx_asgP {te : TE} {g : TG} {u : L2.TS} {D : Ends} {σ : L2.St} {H : Hp} {r b c} (G : V → Hp → Prop) (h : ∀ Q0 : VK, (∀ v' H', G v' H' → Q0 v' H') → te σ H Q0) (k : ∀ v' H', G v' H' → g v' σ H' (u D)) : Ends.nx { nx := tSeq (tAsg te g) u D, rt := r, bk := b, ct := c } σ H := h _ k
theorem filt_not (A : List Str) (n : Str) : [n].filter (fun n => decide (n ∉ A)) = if n ∈ A then [] else [n] := by
  by_cases c : n ∈ A <;> simp [c]
theorem st_is {f : L2.St → Hp → Prop} {σ σ' : L2.St} {H : Hp} (e : σ = σ') (h : f σ' H) : f σ H := e ▸ h
theorem small_all : ((List.range 101).all fun n => (PyData.int (n : Nat)).showable && (PyData.int (n : Nat)).leavesShort 40 && decide ((PyData.int (n : Nat)).weight ≤ 20)) = true := by decide +kernel
theorem wf_small {n : Nat} (h : n ≤ 100) : Wf 20 0 (.int (n : Nat)) := by
  have a := List.all_eq_true.mp small_all n (List.mem_range.mpr (by omega))
  rw [Bool.and_eq_true, Bool.and_eq_true, decide_eq_true_iff] at a
  exact ⟨a.1.1, a.1.2, a.2, by rw [PyData.depth]; exact Nat.le_refl _⟩
/-- how long a cycle is, or nothing -/
def dueV : Option Nat → V
  | none => .non
  | some n => .int n
def dueD : Option Nat → PyData
  | none => .none
  | some n => .int n
theorem due_dt {K : PySem.W.Frag} {H : Hp} : ∀ o : Option Nat, Dt K H (dueV o) (dueD o)
  | none => .non
  | some n => .int n
theorem due_wf : ∀ {o : Option Nat}, (∀ n, o = some n → n ≤ 100) → Wf 20 0 (dueD o)
  | none, _ => wf_none.mono (by decide) (Nat.le_refl _)
  | some n, h => wf_small (h n rfl)
theorem due_fit {o : Option Nat} (h : ∀ n, o = some n → n ≤ 100) : (dueD o).showable = true ∧ (dueD o).depth ≤ 60 ∧ (dueD o).shown.length ≤ sizeLine := by
  have f := (due_wf h).fit
  exact ⟨f.sh, Nat.le_trans f.de (by decide), Nat.le_trans f.ln (by decide)⟩
section
variable {P : Program} {w : World} {K : PySem.W.Frag} {mg : Str → Option Value} {base : Heap} {f fN fM fT fQ fG fS fO fP fW fC fI : Addr} {fd fdN fdM fdT fdQ fdG fdS fdO fdP fdW fdC fdI : FuncData}
/-- tree_right(hand) -/
def spTreeR : Sp := fun vs H Q _ => ∃ (a : Addr) (b : Nat), vs = [.ref a] ∧ PotAt H a b ∧ b ≤ 70000 ∧ ∀ H', But a H H' → PotAt H' a (b + 90) → Q (.bl true) H'
theorem ok_tree_right (F : Fun K "_law_tree_right" "_law_tree_right" st_tree_right f fd) (B : Blt mg) (hany : mg "any" = none) (F_names : Df P w K mg base "_law_names" 3 fN fdN ["_law_hand_here", "_law_count"] spNames) (F_mixed : Df P w K mg base "_law_mixed" 2 fM fdM ["_law_hand_here", "_law_some"] (spMixed K))
    (F_tree : Df P w K mg base "_law_tree" 3 fT fdT ["_law_hand_here", "_law_regions", "_law_names_here"] spTree) (F_quiet : Df P w K mg base "quiet" 4 fQ fdQ ["world"] spQuiet) (F_girth : Df P w K mg base "girth" 5 fG fdG ["world"] spGirth)
    (F_shortest_cycle : Df P w K mg base "shortest_cycle" 4 fS fdS ["world"] spScyc) (F_of : Df P w K mg base "_law_of" 2 fO fdO ["_law_hand_here", "_law_some"] (spOf K)) (F_paths : Df P w K mg base "_law_paths" 1 fP fdP ["_law_world", "_law_one", "_law_other", "_law_barred"] (spPaths K))
    (F_wrapping : Df P w K mg base "_law_wrapping" 1 fW fdW ["_law_world"] spWrapping) (F_noticed : Df P w K mg base "noticed" 4 fC fdC ["world"] spNoticed) (F_is_cycle : Df P w K mg base "_law_is_cycle" 1 fI fdI ["_law_world", "_law_value"] spOwnCyc) :
    FnG P w K mg base CX0 6 f fd ["_law_hand_here"] spTreeR := by
  refine okG F sc_tree_right (fun vs H Q E h => ?_) (fun cdv A outer s H vs Q E hgd hr h => ?_)
  · obtain ⟨_, _, rfl, _⟩ := h
    rfl
  · obtain ⟨a, b, rfl, ha, hb, q⟩ := h
    refine ⟨_, (pss_cons (ps_par (by rfl) sc_tree_right.nd (i := 1) (j := 2) rfl rfl (by decide) rfl rfl (pa_cons (pe_callG hgd F_names.G (hr.mono (by decide)) (by rfl) F_names.g F_names.kp F_names.bd pass0 (pa_cons (pv 0) (pa_cons pe_int pa_nil))) (pa_cons (pe_callG hgd F_mixed.G (hr.mono (by decide)) (by rfl) F_mixed.g F_mixed.kp F_mixed.bd pass0 (pa_cons (pv 0) (pa_cons (pe_callG hgd F_names.G (hr.mono (by decide)) (by rfl) F_names.g F_names.kp F_names.bd pass0 (pa_cons (pv 0) (pa_cons pe_int pa_nil))) pa_nil))) pa_nil)) (by rfl))
      (pss_cons (ps_set (i := 3) sc_tree_right.nd rfl (.inl rfl) (pe_callG hgd F_tree.G (hr.mono (by decide)) (by rfl) F_tree.g F_tree.kp F_tree.bd pass0 (pa_cons (pv 0) (pa_cons (pv 1) (pa_cons (pv 2) pa_nil)))))
      (pss_cons (ps_set (i := 4) sc_tree_right.nd rfl (.inl rfl) (pe_tup (pa_cons (pv 1) (pa_cons (pe_callTy call_tuple_of (by rfl) B.tuple (by decide +kernel) (pa_cons (pe_callB (cr_sortedD hr.units) (by rfl) B.sorted (by decide +kernel) (pa_cons (pv 3) pa_nil)) pa_nil)) pa_nil))))
      (pss_cons (ps_if (PW.pt (pw_or (pt_cmpR (op_neD hr.units) (pe_callG hgd F_quiet.G (hr.mono (by decide)) (by rfl) F_quiet.g F_quiet.kp F_quiet.bd pass0 (pa_cons (pv 4) pa_nil)) (pe_callTy call_tuple_of (by rfl) B.tuple (by decide +kernel) (pa_cons (pe_callB cr_sortedS (by rfl) B.sorted (by decide +kernel) (pa_cons (pe_slice sl_list (pv 2) po_none (po_some pe_int)) pa_nil)) pa_nil)) (nomark _)) (pw_or (pt_cmpR op_notN (pe_callG hgd F_girth.G (hr.mono (by decide)) (by rfl) F_girth.g F_girth.kp F_girth.bd pass0 (pa_cons (pv 4) pa_nil)) pe_non (nomark _)) (pw_or1 (pt_cmpR op_notN (pe_callG hgd F_shortest_cycle.G (hr.mono (by decide)) (by rfl) F_shortest_cycle.g F_shortest_cycle.kp F_shortest_cycle.bd pass0 (pa_cons (pv 4) pa_nil)) pe_non (nomark _))))))
       (pss_one (ps_ret pe_bl))
       pss_nil)
      (pss_cons (ps_asg (pe_callB cr_sortedS (by rfl) B.sorted (by decide +kernel) (pa_cons (pe_slice sl_list (pe_callG hgd F_mixed.G (hr.mono (by decide)) (by rfl) F_mixed.g F_mixed.kp F_mixed.bd pass0 (pa_cons (pv 0) (pa_cons (pv 1) pa_nil))) po_none (po_some pe_int)) pa_nil)) (pg_lst rfl (pgs_cons (pg_name (i := 5) sc_tree_right.nd rfl (.inl rfl)) (pgs_cons (pg_name (i := 6) sc_tree_right.nd rfl (.inl rfl)) pgs_nil))))
      (pss_cons (ps_set (i := 7) sc_tree_right.nd rfl (.inl rfl) (pe_tup (pa_cons (pe_ix ix_list (pv 2) pe_int (fun _ _ => rfl)) (pa_cons (pe_tup (pa_cons (pv 5) (pa_cons (pv 6) pa_nil))) (pa_cons (pe_callG hgd F_of.G (hr.mono (by decide)) (by rfl) F_of.g F_of.kp F_of.bd pass0 (pa_cons (pv 0) (pa_cons (pe_lst (pa_cons pe_str (pa_cons pe_str pa_nil))) pa_nil))) pa_nil)))))
      (pss_cons (ps_set (i := 8) sc_tree_right.nd rfl (.inl rfl) (pe_tup (pa_cons (pv 1) (pa_cons (pe_callTy call_tuple_of (by rfl) B.tuple (by decide +kernel) (pa_cons (pe_callB (cr_sortedD hr.units) (by rfl) B.sorted (by decide +kernel) (pa_cons (pe_op op_cat (pv 3) (pe_lst (pa_cons (pv 7) pa_nil))) pa_nil)) pa_nil)) pa_nil))))
      (pss_cons (ps_set (i := 9) sc_tree_right.nd rfl (.inl rfl) (pe_ix ix_list (pe_callG hgd F_paths.G (hr.mono (by decide)) (by rfl) F_paths.g F_paths.kp F_paths.bd pass0 (pa_cons (pv 4) (pa_cons (pv 5) (pa_cons (pv 6) (pa_cons (pe_tup pa_nil) pa_nil))))) pe_int (fun _ _ => rfl)))
      (pss_cons (ps_asg (pe_tup (pa_cons (pe_op (op_catTK (K := K)) (pe_slice3 2 (by decide) (by decide) (pv 9) (po_some pe_int) po_none pe_int) (pe_tup (pa_cons (pe_ix ix_list (pv 2) pe_int (fun _ _ => rfl)) pa_nil))) (pa_cons (pe_callG hgd F_wrapping.G (hr.mono (by decide)) (by rfl) F_wrapping.g F_wrapping.kp F_wrapping.bd pass0 (pa_cons (pv 8) pa_nil)) pa_nil))) (pg_tup rfl (pgs_cons (pg_name (i := 10) sc_tree_right.nd rfl (.inr rfl)) (pgs_cons (pg_name (i := 11) sc_tree_right.nd rfl (.inr rfl)) pgs_nil))))
      (pss_cons (ps_set (i := 12) sc_tree_right.nd rfl (.inl rfl) (pe_ifExp (pt_val (pe_callB (cr_any rfl) (by rfl) hany (by decide +kernel) (pa_cons (pe_lc (own := [("_law_name", 15)]) (by rfl) sc_tree_right.nd (pi_tup (pv 10)) (blkOk_by (own := [("_law_name", 15)]) (N := ["_law_hand_here", "_law_regions", "_law_names_here", "_law_tree_here", "_law_world", "_law_one", "_law_other", "_law_last", "_law_more", "_law_path", "_law_around", "_law_wrapping_here", "_law_due", "_law_others", "_law_cycle", "_law_name", "_law_pair"]) (sc := defScope st_tree_right) (by decide +kernel)) (fun _ _ _ _ _ => (pg_name (i := 15) sc_tree_right.nd rfl (.inl rfl))) (fun _ _ _ _ _ => pts_nil) (fun _ _ _ _ _ => (pe_cmpR (op_inK (K := K)) (pv 15) (pv 11) (by rfl)))) pa_nil))) (pe_callB call_len (by rfl) B.len (by decide +kernel) (pa_cons (pv 10) pa_nil)) pe_non))
      (pss_cons (ps_set (i := 13) sc_tree_right.nd rfl (.inl rfl) (pe_callB cr_sortedS (by rfl) B.sorted (by decide +kernel) (pa_cons (pe_lc (own := [("_law_name", 15)]) (by rfl) sc_tree_right.nd (pi_list (pv 2)) (blkOk_by (own := [("_law_name", 15)]) (N := ["_law_hand_here", "_law_regions", "_law_names_here", "_law_tree_here", "_law_world", "_law_one", "_law_other", "_law_last", "_law_more", "_law_path", "_law_around", "_law_wrapping_here", "_law_due", "_law_others", "_law_cycle", "_law_name", "_law_pair"]) (sc := defScope st_tree_right) (by decide +kernel)) (fun _ _ _ _ _ => (pg_name (i := 15) sc_tree_right.nd rfl (.inl rfl))) (fun _ _ _ _ _ => (pts_one (pt_cmpR (op_notInK (K := K)) (pv 15) (pv 10) (by rfl)))) (fun _ _ _ _ _ => (pv 15))) pa_nil)))
      (pss_cons (ps_if (PW.pt (pw_or (pt_cmpR op_ne (pe_callB (call_repr hgd hr.units) (by rfl) B.repr (by decide +kernel) (pa_cons (pe_callG hgd F_girth.G (hr.mono (by decide)) (by rfl) F_girth.g F_girth.kp F_girth.bd pass0 (pa_cons (pv 8) pa_nil)) pa_nil)) (pe_callB (call_repr hgd hr.units) (by rfl) B.repr (by decide +kernel) (pa_cons (pv 12) pa_nil)) (nomark _)) (pw_or1 (pt_cmpR (op_neD hr.units) (pe_callTy call_list_of (by rfl) B.list (by decide +kernel) (pa_cons (pe_callG hgd F_quiet.G (hr.mono (by decide)) (by rfl) F_quiet.g F_quiet.kp F_quiet.bd pass0 (pa_cons (pv 8) pa_nil)) pa_nil)) (pv 13) (nomark _)))))
       (pss_one (ps_ret pe_bl))
       pss_nil)
      (pss_cons (ps_set (i := 14) sc_tree_right.nd rfl (.inl rfl) (pe_callG hgd F_shortest_cycle.G (hr.mono (by decide)) (by rfl) F_shortest_cycle.g F_shortest_cycle.kp F_shortest_cycle.bd pass0 (pa_cons (pv 8) pa_nil)))
      (pss_cons (ps_if (PW.pt (pw_or (pt_cmpR op_isN (pv 12) pe_non (nomark _)) (pw_or1 (pt_cmpR op_isN (pv 14) pe_non (nomark _)))))
       (pss_one (ps_ret (pe_and (pe_cmpR op_isN (pv 12) pe_non (nomark _)) (pe_and (pe_cmpR op_isN (pv 14) pe_non (nomark _)) (pe_one (pe_cmpR (op_eqD hr.units) (pe_callG hgd F_noticed.G (hr.mono (by decide)) (by rfl) F_noticed.g F_noticed.kp F_noticed.bd pass0 (pa_cons (pv 8) pa_nil)) (pe_tup pa_nil) (nomark _)))))))
       pss_nil)
      (pss_one (ps_ret (pe_and (pe_callG hgd F_is_cycle.G (hr.mono (by decide)) (by rfl) F_is_cycle.g F_is_cycle.kp F_is_cycle.bd pass0 (pa_cons (pv 8) (pa_cons (pv 14) pa_nil))) (pe_one (pe_cmpR (op_eqD hr.units) (pe_callB cr_sortedS (by rfl) B.sorted (by decide +kernel) (pa_cons (pe_lc (own := [("_law_pair", 16)]) (by rfl) sc_tree_right.nd (pi_tup (pv 14)) (blkOk_by (own := [("_law_pair", 16)]) (N := ["_law_hand_here", "_law_regions", "_law_names_here", "_law_tree_here", "_law_world", "_law_one", "_law_other", "_law_last", "_law_more", "_law_path", "_law_around", "_law_wrapping_here", "_law_due", "_law_others", "_law_cycle", "_law_name", "_law_pair"]) (sc := defScope st_tree_right) (by decide +kernel)) (fun _ _ _ _ _ => (pg_name (i := 16) sc_tree_right.nd rfl (.inl rfl))) (fun _ _ _ _ _ => pts_nil) (fun _ _ _ _ _ => (pe_ix (ix_tupK (K := K)) (pv 16) pe_int (fun _ _ => rfl)))) pa_nil)) (pe_callB (cr_sortedTS hr.units) (by rfl) B.sorted (by decide +kernel) (pa_cons (pv 10) pa_nil)) (nomark _)))))))))))))))))))), ?_⟩
    refine ⟨_, rfl, a, b, 10, rfl, ha, by omega, by omega, fun H1 r rs b1 p1 hr1 nms1 => ?_⟩
    refine ⟨_, rfl, _, rfl, a, b + 9, 10, rfl, p1, by omega, by omega, fun H2 nr ns0 b2 p2 hn2 nms2 => ?_⟩
    have lrs := nms1.length
    have lns0 := nms2.length
    refine ⟨a, nr, b + 9 + 9, ns0, rfl, p2, by omega, .inr (SqT.of hn2), by omega, fun s hs => (nms2.nm s hs).ok, fun H3 nl ns b3 p3 nnl hnl pmn => ⟨_, _, rfl, ?_⟩⟩
    have lns := pmn.length_eq
    have ndr := names_nodup nms1
    have ndn := pmn.nodup_iff.mpr (names_nodup nms2)
    have rok : ∀ s ∈ rs, PyData.strOk s = true := fun s hs => (nms1.nm s hs).ok
    have nok : ∀ s ∈ ns, NmOk s := fun s hs => nms2.nm s (pmn.mem_iff.mp hs)
    have nla : nl ≠ a := fun z => by
      obtain ⟨_, _, _, e, _⟩ := p2
      rw [z, e] at nnl
      cases nnl
    have hr2 := b2 _ _ (p1.ne_tup hr1) hr1
    have hr3 := b3 _ _ (p2.ne_tup hr2) hr2
    replace p3 : PotAt H3 a (b + 28) := p3.more (by omega)
    have bt3 := (b1.trans b2).trans b3
    clear hr1 hr2 hn2 p1 p2 b1 b2 b3 nnl
    -- tree_here
    refine ⟨_, rfl, _, rfl, _, rfl, a, r, nl, b + 28, rs, ns, rfl, p3, by omega, hr3, hnl, nla, lrs, by omega, ndr, ndn, rok, nok, fun H4 tl as gs b4 p4 ntl tla htl pg T nms two => ?_⟩
    have hr4 := b4 _ _ (p3.ne_tup hr3) hr3
    have hnl4 := b4 _ _ nla hnl
    have bt4 := bt3.trans b4
    have lg := Paired.length pg
    have ndg : (gs.map (·.1)).Nodup := T.nd
    have lg9 : gs.length = 9 := by
      have := congrArg List.length nms
      rw [List.length_map, List.length_take] at this
      omega
    have snd : (as.zip gs).map (·.2) = gs := WT.zip_r lg
    have T1 : TreeG rs (sortG gs) := T.perm (sort_perm gs) fun _ => Iff.rfl
    have two1 : ∀ g ∈ sortG gs, TwoG rs g := fun g hg => two g ((sort_perm gs).mem_iff.mp hg)
    have each1 : ∀ g ∈ sortG gs, g.2.1.length ≤ 100 ∧ ∀ y ∈ g.2.1, y ∈ rs := fun g hg => ⟨by have := (two1 g hg).two; omega, (two1 g hg).sub⟩
    have ls1 : (sortG gs).length = 9 := by rw [sort_len]; exact lg9
    -- world
    refine ⟨_, rfl, _, rfl, ?_⟩
    refine tnil_use ?_
    refine srt_use (K := K) (ss := as.zip gs) (by rw [refs_zip lg]; exact SqL.of htl) (pair_zipG pg) (by rw [snd]; exact ndg) fun l5 ts n5 tin ets => ?_
    rw [snd] at ets
    have z5 := same_new n5 (o := .lst (refs ts))
    refine ⟨l5, _, rfl, .inl ⟨SqL.of upd_same, fun g1 ng1 => ?_⟩⟩
    have z6 := same_new ng1 (o := .tup (refs ts))
    have hg6 : upd (upd H4 l5 (.lst (refs ts))) g1 (.tup (refs ts)) g1 = some (.tup (refs ts)) := upd_same
    have s6 := z5.trans z6
    generalize upd (upd H4 l5 (.lst (refs ts))) g1 (.tup (refs ts)) = H6 at z6 hg6 s6 ⊢
    refine ⟨(by show 2 ≤ sizeLine; decide), fun w1 nw1 => ?_⟩
    have z7 := same_new nw1 (o := .tup [.ref r, .ref g1])
    have hw7 : WorldAt (upd H6 w1 (.tup [.ref r, .ref g1])) w1 r g1 (ts.map (·.1)) rs (sortG gs) := ⟨upd_same, z7 _ _ (s6 _ _ hr4), by rw [← refs_as]; exact z7 _ _ hg6, by
      rw [← ets]
      exact gts_pair fun x hx => (pair_zipG pg x (tin x hx)).same (s6.trans z7)⟩
    have s7 := s6.trans z7
    clear z5 z6 z7 hg6
    generalize upd H6 w1 (.tup [.ref r, .ref g1]) = H7 at hw7 s7 ⊢
    have WH7 : WHere H7 w1 r g1 (ts.map (·.1)) rs (sortG gs) := ⟨hw7, T1.nd, by omega, by omega, each1⟩
    clear s6
    -- the tests of the tree
    refine ⟨_, rfl, w1, r, g1, _, rs, sortG gs, rfl, hw7, T1.nd, by omega, by omega, each1, fun H8 qp s8 hq => ?_⟩
    rw [T1.pick] at hq
    have hnl8 := (s7.trans s8) _ _ hnl4
    refine ⟨_, rfl, 9, rfl, nl, _, rfl, SqL.of hnl8, fun c9 n9 => ?_⟩
    have z9 := same_new n9 (o := .lst (cutV (ns.map V.str) none (some (9 : Int))))
    refine ⟨c9, ns.take 9, rfl, SqL.of (by rw [upd_same, show (9 : Int) = ((9 : Nat) : Int) from rfl, cut_to]), by rw [List.length_take]; omega, fun ws c10 pm10 st10 n10 => ?_⟩
    have z10 := same_new n10 (o := .lst (ws.map V.str))
    refine ⟨c10, _, rfl, .inl ⟨SqL.of upd_same, fun t11 n11 => ?_⟩⟩
    have z11 := same_new n11 (o := .tup (ws.map V.str))
    have ews : ws = (sortG gs).map (·.1) := srt_ext st10 (pm10.nodup_iff.mpr (ndn.sublist (List.take_sublist _ _))) (sort_asc ndg) fun y => by
      rw [pm10.mem_iff, ← nms]
      exact (((sort_perm gs).map (·.1)).mem_iff).symm
    have sok : ∀ s ∈ (sortG gs).map (·.1), PyData.strOk s = true := fun s hs => by
      obtain ⟨g, hg, rfl⟩ := List.mem_map.mp hs
      exact (two1 g hg).nm.ok
    have s811 := z9.trans (z10.trans z11)
    refine ⟨tupS ((sortG gs).map (·.1)), tupS ws, .tup (SqT.of (s811 _ _ hq)) (dp_strs _), .tup (SqT.of upd_same) (dp_strs _), shaped_strsT _ sok, by rw [ews]; exact shaped_strsT _ sok, _, rfl, ifF ?_ ?_⟩
    · show (!PyData.eqv (.tuple (((sortG gs).map (·.1)).map PyData.str)) (.tuple (ws.map PyData.str))) = false
      rw [eqv_strsT, decide_eq_true ews.symm]
      rfl
    have s11 := s8.trans s811
    clear s811 z9 z10 hq hnl8 pm10 st10 s8
    generalize upd _ t11 (.tup (ws.map V.str)) = H11 at s11 ⊢
    refine ⟨_, rfl, w1, r, g1, _, rs, sortG gs, rfl, WH7.same s11, fun H12 s12 => ?_⟩
    rw [T1.girth]
    refine ⟨rfl, _, rfl, ifF rfl ?_⟩
    refine ⟨_, rfl, w1, r, g1, _, rs, sortG gs, rfl, WH7.same (s11.trans s12), fun H13 v13 s13 hv13 => ?_⟩
    rw [T1.girth] at hv13
    have hv13 : v13 = .non := hv13
    subst hv13
    refine ⟨rfl, _, rfl, ifF rfl ?_⟩
    have s713 := s11.trans (s12.trans s13)
    have p13 : PotAt H13 a (b + 68) := (p4.same (s7.trans s713))
    have bt13 := bt4.trans (.of (s7.trans s713))
    have WH13 := WH7.same s713
    have hr13 := WH13.at_.reg
    have hnl13 := (s7.trans s713) _ _ hnl4
    have htl13 := (s7.trans s713) _ _ htl
    have pg13 : Paired (GateAt H13) as gs := Paired.mapP pg fun _ _ z => z.same (s7.trans s713)
    clear s713 s13 s12 s11 WH7 hw7 s7 p3 p4 hr3 hr4 hnl hnl4 htl pg bt4 bt3 b4
    -- one, other
    refine ⟨_, rfl, _, rfl, a, r, b + 68, rs, rfl, p13, by omega, .inr (SqT.of hr13), by omega, rok, fun H14 ml ys b14 p14 nml hml pmy => ?_⟩
    refine ⟨2, rfl, ml, _, rfl, SqL.of hml, fun c15 n15 => ?_⟩
    have z15 := same_new n15 (o := .lst (cutV (ys.map V.str) none (some (2 : Int))))
    have lys := pmy.length_eq
    have lt2 : (ys.take 2).length = 2 := by rw [List.length_take]; omega
    refine ⟨c15, ys.take 2, rfl, SqL.of (by rw [upd_same, show (2 : Int) = ((2 : Nat) : Int) from rfl, cut_to]), by omega, fun os l16 pm16 st16 n16 => ?_⟩
    have z16 := same_new n16 (o := .lst (os.map V.str))
    obtain ⟨one, other, rfl⟩ : ∃ x y, os = [x, y] := by
      have := pm16.length_eq
      rw [lt2] at this
      match os, this with
      | [x, y], _ => exact ⟨x, y, rfl⟩
    refine ⟨l16, _, rfl, SqL.of upd_same, rfl, .str one, [.str other], rfl, .str other, [], rfl, rfl, ?_⟩
    have nd2 : [one, other].Nodup := pm16.nodup_iff.mpr ((pmy.nodup_iff.mpr ndr).sublist (List.take_sublist _ _))
    have ne : other ≠ one := fun z => by
      rw [z] at nd2
      simp at nd2
    have inr : ∀ x ∈ [one, other], x ∈ rs := fun x hx => pmy.mem_iff.mp (List.mem_of_mem_take (pm16.mem_iff.mp hx))
    have o1 := inr one (by simp)
    have o2 := inr other (by simp)
    have s16 := z15.trans z16
    have b16 := b14.trans (But.of s16)
    have p16 : PotAt _ a (b + 78) := (p14.same s16).more (by omega)
    have hnl16 := b16 _ _ nla hnl13
    have bt16 := bt13.trans b16
    have htl16 := b16 _ _ tla htl13
    have pg16 : Paired (GateAt _) as gs := Paired.mapP pg13 fun _ _ z => z.but p13 b16
    have w16 := WH13.at_.but p13 b16
    clear z15 z16 hml
    generalize upd _ l16 (.lst ([one, other].map V.str)) = H16 at b16 p16 hnl16 bt16 htl16 pg16 w16 ⊢
    -- last
    have ln9 : 9 < ns.length := by omega
    have i9 : atI (ns.map V.str) 9 = some (.str ns[9]) := atI_nat (j := 9) (by rw [List.getElem?_map, List.getElem?_eq_getElem ln9]; rfl)
    refine ⟨_, rfl, nl, _, 9, .str ns[9], rfl, rfl, SqL.of hnl16, i9, _, rfl, _, rfl, (by show 2 ≤ sizeLine; decide), fun t17 n17 => ?_⟩
    have z17 := same_new n17 (o := .tup [.str one, .str other])
    have ht17 : upd H16 t17 (.tup [.str one, .str other]) t17 = some (.tup [.str one, .str other]) := upd_same
    refine ⟨_, rfl, (by show 2 ≤ sizeLine; decide), fun L18 n18 => ?_⟩
    have z18 := same_new n18 (o := .lst [.str "wrap", .str "open"])
    have p18 := (p16.same z17).same z18
    refine ⟨a, L18, b + 78, _, rfl, p18, by omega, Ne.symm ((p16.same z17).ne_new n18), .inl (SqL.of upd_same), by show 0 < 2; decide, by show 2 ≤ 1000; decide, fun H19 y19 b19 p19 hy19 => ?_⟩
    obtain ⟨kd, rfl, hkd⟩ : ∃ kd : Str, y19 = .str kd ∧ (kd = "wrap" ∨ kd = "open") := by
      simp only [List.mem_cons, List.not_mem_nil, or_false] at hy19
      rcases hy19 with rfl | rfl
      · exact ⟨_, rfl, .inl rfl⟩
      · exact ⟨_, rfl, .inr rfl⟩
    have ht19 : H19 t17 = some (.tup [.str one, .str other]) := b19 _ _ ((p16.same z17).ne_tup ht17) (z18 _ _ ht17)
    have b1619 := (But.of (z17.trans z18)).trans b19
    refine ⟨(by show 3 ≤ sizeLine; decide), fun t20 n20 => ?_⟩
    have z20 := same_new n20 (o := .tup [.str ns[9], .ref t17, .str kd])
    have h20 : upd H19 t20 (.tup [.str ns[9], .ref t17, .str kd]) t20 = some (.tup [.str ns[9], .ref t17, .str kd]) := upd_same
    have b20 := b1619.trans (But.of z20)
    have p20 := p19.same z20
    have ht20 := z20 _ _ ht19
    clear z17 z18 ht17 p18 ht19 b1619 z20
    generalize upd H19 t20 (.tup [.str ns[9], .ref t17, .str kd]) = H20 at h20 b20 p20 ht20 ⊢
    have bt20 := bt16.trans b20
    have hnl20 := b20 _ _ nla hnl16
    have htl20 := b20 _ _ tla htl16
    have w20 := w16.but p16 b20
    have pg20 : Paired (GateAt H20) as gs := Paired.mapP pg16 fun _ _ z => z.but p16 b20
    obtain ⟨e, he⟩ : ∃ e : Gt, e = (ns[9], [one, other], kd) := ⟨_, rfl⟩
    have ge20 : GateAt H20 t20 e := by rw [he]; exact ⟨t17, h20, ht20⟩
    have efresh : e.1 ∉ gs.map (·.1) := fun h => by
      rw [nms, he] at h
      have nd3 := ndn
      rw [← List.take_append_drop 9 ns] at nd3
      have hd : ns[9] ∈ ns.drop 9 := by
        rw [List.drop_eq_getElem_cons ln9]
        exact List.mem_cons_self
      exact (List.nodup_append.mp nd3).2.2 _ h _ hd rfl
    have ndg2 : ((gs ++ [e]).map (·.1)).Nodup := by
      rw [List.map_append]
      exact List.nodup_append.mpr ⟨ndg, by simp, fun x hx y hy z => efresh (by
        have hy : y = e.1 := by simpa using hy
        rw [← hy, ← z]
        exact hx)⟩
    have two2 : ∀ g ∈ sortG (gs ++ [e]), TwoG rs g := fun g hg => by
      rcases List.mem_append.mp ((sort_perm _).mem_iff.mp hg) with hg | hg
      · exact two g hg
      · rw [List.mem_singleton.mp hg, he]
        exact ⟨nok _ (List.getElem_mem ln9), rfl, inr, hkd⟩
    have ls2 : (sortG (gs ++ [e])).length = 10 := by rw [sort_len, List.length_append, List.length_singleton]; omega
    have each2 : ∀ g ∈ sortG (gs ++ [e]), g.2.1.length ≤ 100 ∧ ∀ y ∈ g.2.1, y ∈ rs := fun g hg => ⟨by have := (two2 g hg).two; omega, (two2 g hg).sub⟩
    have asc2 : AscS ((sortG (gs ++ [e])).map (·.1)) := sort_asc ndg2
    have pns : (ns.take 9 ++ [ns[9]]).Perm ns := by
      have : ns.take 9 ++ [ns[9]] = ns := by
        conv => rhs; rw [← List.take_append_drop 9 ns, List.drop_eq_getElem_cons ln9, List.drop_of_length_le (show ns.length ≤ 9 + 1 by omega)]
      rw [this]
    have nms2' : ∀ n, n ∈ (sortG (gs ++ [e])).map (·.1) ↔ n ∈ ns := fun n => by
      rw [((sort_perm _).map (·.1)).mem_iff, List.map_append, nms, ← pns.mem_iff, he]
      rfl
    -- more
    refine ⟨_, rfl, _, rfl, _, rfl, (by show 1 ≤ sizeLine; decide), fun L21 n21 => ?_⟩
    have z21 := same_new n21 (o := .lst [.ref t20])
    refine ⟨tl, L21, as.map V.ref, [.ref t20], rfl, rfl, z21 _ _ htl20, upd_same, ?_, fun L22 n22 => ?_⟩
    · rw [List.length_map]
      exact Nat.le_trans (show as.length + 1 ≤ 10 by omega) (by decide)
    have z22 := same_new n22 (o := .lst (as.map V.ref ++ [.ref t20]))
    have s22 := z21.trans z22
    have hl22 : upd (upd H20 L21 (.lst [.ref t20])) L22 (.lst (as.map V.ref ++ [.ref t20])) L22 = some (.lst (refs (as.zip gs ++ [(t20, e)]))) := by
      have e0 := refs_zip lg
      unfold refs at e0 ⊢
      rw [upd_same, List.map_append, e0]
      rfl
    have G22 : ∀ x ∈ as.zip gs ++ [(t20, e)], GateAt (upd (upd H20 L21 (.lst [.ref t20])) L22 (.lst (as.map V.ref ++ [.ref t20]))) x.1 x.2 := fun x hx => by
      rcases List.mem_append.mp hx with hx | hx
      · exact (pair_zipG pg20 x hx).same s22
      · rw [List.mem_singleton.mp hx]
        exact ge20.same s22
    have snd2 : (as.zip gs ++ [(t20, e)]).map (·.2) = gs ++ [e] := by
      rw [List.map_append, snd]
      rfl
    generalize upd (upd H20 L21 (.lst [.ref t20])) L22 (.lst (as.map V.ref ++ [.ref t20])) = H22 at s22 hl22 G22 ⊢
    refine tnil_use ?_
    refine srt_use (K := K) (SqL.of hl22) G22 (by rw [snd2]; exact ndg2) fun l23 us n23 uin eus => ?_
    rw [snd2] at eus
    have z23 := same_new n23 (o := .lst (refs us))
    refine ⟨l23, _, rfl, .inl ⟨SqL.of upd_same, fun g2 ng2 => ?_⟩⟩
    have z24 := same_new ng2 (o := .tup (refs us))
    have hg24 : upd (upd H22 l23 (.lst (refs us))) g2 (.tup (refs us)) g2 = some (.tup (refs us)) := upd_same
    have s24 := z23.trans z24
    generalize upd (upd H22 l23 (.lst (refs us))) g2 (.tup (refs us)) = H24 at z24 hg24 s24 ⊢
    refine ⟨(by show 2 ≤ sizeLine; decide), fun w2 nw2 => ?_⟩
    have z25 := same_new nw2 (o := .tup [.ref r, .ref g2])
    have s2025 := s22.trans (s24.trans z25)
    have hw25 : WorldAt (upd H24 w2 (.tup [.ref r, .ref g2])) w2 r g2 (us.map (·.1)) rs (sortG (gs ++ [e])) := ⟨upd_same, s2025 _ _ w20.reg, by rw [← refs_as]; exact z25 _ _ hg24, by
      rw [← eus]
      exact gts_pair fun x hx => (G22 x (uin x hx)).same (s24.trans z25)⟩
    clear z21 z22 z23 z24 hg24 hl22 G22
    generalize upd H24 w2 (.tup [.ref r, .ref g2]) = H25 at hw25 s2025 ⊢
    have WH25 : WHere H25 w2 r g2 (us.map (·.1)) rs (sortG (gs ++ [e])) := ⟨hw25, ((sort_perm _).map (·.1)).nodup_iff.mpr ndg2, by omega, by omega, each2⟩
    have w25 := w20.same s2025
    have hnl25 := s2025 _ _ hnl20
    have bt25 := bt20.trans (.of s2025)
    have p25 := p20.same s2025
    -- path
    refine ⟨_, rfl, _, rfl, _, rfl, (by show 0 ≤ sizeLine; decide), fun ba nba => ?_⟩
    have z26 := same_new nba (o := .tup [])
    have gs1ok : ∀ g ∈ sortG gs, PyData.strOk g.1 = true ∧ g.2.1.length ≤ 100 ∧ ∀ y ∈ g.2.1, y ∈ rs := fun g hg => ⟨(two1 g hg).nm.ok, each1 g hg⟩
    refine ⟨w1, r, g1, ba, _, rs, sortG gs, one, other, [], fan1, 9, rfl, w25.same z26, SqT.of upd_same, o1, rok, gs1ok, by omega, fan1_pos, fun l hl => ?_, by decide, fun H27 pl ps fs s27 npl hpl pfs all cnt => ?_⟩
    · have := weigh_fan1 T1.nd T1.sub (fun g hg => Nat.le_of_eq (two1 g hg).two) hl
      rwa [ls1] at this
    obtain ⟨l0, hl0, el0⟩ := T1.way o1 o2
    have hl0 := all.all l0 hl0 el0
    obtain ⟨l, fs', rfl⟩ : ∃ l fs', fs = l :: fs' := by
      match fs, hl0 with
      | l :: fs', _ => exact ⟨l, fs', rfl⟩
    obtain ⟨pa, ps', rfl⟩ : ∃ pa ps', ps = pa :: ps' := by
      have := Paired.length pfs
      match ps, this with
      | pa :: ps', _ => exact ⟨pa, ps', rfl⟩
    have hpa : H27 pa = some (.tup (pathV one l)) := by
      cases pfs with
      | cons h _ => exact h
    obtain ⟨G, en⟩ := all.good l List.mem_cons_self
    have U : Uni rs (sortG gs) l one other e (sortG (gs ++ [e])) := ⟨T1, G, en, ne, o1, o2, fun y => by rw [he]; simp, fun h => efresh (((sort_perm gs).map (·.1)).mem_iff.mp h), (sort_perm _).trans ((sort_perm gs).symm.append_right _)⟩
    have llen : l.length ≤ 9 := by
      have := (kids_fan1 T1.nd (fun g hg => Nat.le_of_eq (two1 g hg).two) G).2
      omega
    refine ⟨pl, _, 0, .ref pa, rfl, rfl, SqL.of hpl, atI_nat (j := 0) rfl, ?_⟩
    have s2527 := z26.trans s27
    have WH27 := WH25.same s2527
    have hnl27 := s2527 _ _ hnl25
    have bt27 := bt25.trans (.of s2527)
    have p27 := p25.same s2527
    clear z26 s27 hpl pfs all hnl25 bt25 WH25 hw25 w25
    -- around, wrapping_here
    refine ⟨_, rfl, 1, rfl, pa, _, rfl, rfl, SqT.of hpa, ?_, fun p28 n28 => ?_⟩
    · rw [step_odd, List.length_map, List.length_map]
      exact Nat.le_trans (show l.length ≤ 100 by omega) (by decide)
    have z28 := same_new n28 (o := .tup (stepL (pathV one l) (some 1) none 2))
    refine ⟨_, rfl, nl, _, 9, .str ns[9], rfl, rfl, SqL.of (z28 _ _ hnl27), i9, (by show 1 ≤ sizeLine; decide), fun p29 n29 => ?_⟩
    have z29 := same_new n29 (o := .tup [.str ns[9]])
    have h28 := z29 _ _ (show upd H27 p28 (.tup (stepL (pathV one l) (some 1) none 2)) p28 = some (.tup ((l.map (·.1)).map V.str)) by rw [upd_same, step_odd])
    refine ⟨p28, p29, _, [.str ns[9]], rfl, rfl, SqT.of h28, SqT.of upd_same, ?_, ?_, (fun z => nomatch z), fun _ ar nar => ?_⟩
    · have := U.pos
      simpa using this
    · rw [List.length_map, List.length_map]
      exact Nat.le_trans (show l.length + 1 ≤ 100 by omega) (by decide)
    have z30 := same_new nar (o := .tup ((l.map (·.1)).map V.str ++ [.str ns[9]]))
    have har0 : upd (upd (upd H27 p28 (.tup (stepL (pathV one l) (some 1) none 2))) p29 (.tup [.str ns[9]])) ar (.tup ((l.map (·.1)).map V.str ++ [.str ns[9]])) ar = some (.tup ((around l e).map V.str)) := by
      rw [upd_same, List.map_append, he]
      rfl
    have s30 := z28.trans (z29.trans z30)
    clear z28 z29 z30 h28
    generalize upd (upd (upd H27 p28 (.tup (stepL (pathV one l) (some 1) none 2))) p29 (.tup [.str ns[9]])) ar (.tup ((l.map (·.1)).map V.str ++ [.str ns[9]])) = H30 at har0 s30 ⊢
    refine ⟨_, rfl, w2, r, g2, _, rs, sortG (gs ++ [e]), rfl, WH27.at_.same s30, by omega, fun H31 wl s31 nwl hwl => ?_⟩
    refine ⟨(by show 2 ≤ sizeLine; decide), fun pt npt => ?_⟩
    have z32 := same_new npt (o := .tup [.ref ar, .ref wl])
    refine ⟨pt, _, rfl, SqT.of upd_same, rfl, .ref ar, _, rfl, .ref wl, [], rfl, rfl, ?_⟩
    have har32 := z32 _ _ (s31 _ _ har0)
    have hwl32 := z32 _ _ hwl
    have s2732 := s30.trans (s31.trans z32)
    clear hwl
    generalize upd H31 pt (.tup [.ref ar, .ref wl]) = H32 at z32 har32 hwl32 s2732 ⊢
    have lar : (around l e).length = l.length + 1 := by
      unfold around
      rw [List.length_append, List.length_map, List.length_singleton]
    obtain ⟨due, hdue⟩ : ∃ due : Option Nat, ((∃ g ∈ sortG (gs ++ [e]), g.2.2 = ("wrap" : Str) ∧ g.1 ∈ around l e) ∧ due = some (l.length + 1)) ∨ ((∀ g ∈ sortG (gs ++ [e]), g.2.2 = ("wrap" : Str) → g.1 ∉ around l e) ∧ due = none) := by
      by_cases c : ∃ g ∈ sortG (gs ++ [e]), g.2.2 = ("wrap" : Str) ∧ g.1 ∈ around l e
      · exact ⟨_, .inl ⟨c, rfl⟩⟩
      · exact ⟨_, .inr ⟨fun g hg h1 h2 => c ⟨g, hg, h1, h2⟩, rfl⟩⟩
    have wmem : ∀ n, n ∈ wrapsW (sortG (gs ++ [e])) ↔ ∃ g ∈ sortG (gs ++ [e]), g.2.2 = ("wrap" : Str) ∧ g.1 = n := fun n => by
      unfold wrapsW
      rw [List.mem_map]
      constructor
      · rintro ⟨g, hg, q⟩
        obtain ⟨h1, h2⟩ := List.mem_filter.mp hg
        exact ⟨g, h1, of_decide_eq_true h2, q⟩
      · rintro ⟨g, hg, h2, q⟩
        exact ⟨g, List.mem_filter.mpr ⟨hg, decide_eq_true h2⟩, q⟩
    have girD : girV (scyc (sortG (gs ++ [e])) rs) = dueV due := by
      rcases hdue with ⟨h, rfl⟩ | ⟨h, rfl⟩
      · obtain ⟨c, ec, lc, _⟩ := U.girth_some h
        rw [ec]
        show V.int _ = V.int _
        rw [lc, Nat.add_comm]
      · rw [U.girth_none h]
        rfl
    have duelt : ∀ n, due = some n → n ≤ 100 := fun n hn => by
      rcases hdue with ⟨_, z⟩ | ⟨_, z⟩
      · rw [z] at hn
        cases hn
        omega
      · rw [z] at hn
        cases hn
    refine st_is (σ' := [some (.ref a), some (.ref r), some (.ref nl), some (.ref tl), some (.ref w1), some (.str one), some (.str other), some (.ref t20), some (.ref w2), some (.ref pa), some (.ref ar), some (.ref wl), none, none, none, none, none]) rfl ?_
    refine nx_asgP (fun v H' => v = dueV due ∧ Same H32 H') (fun Q0 hq => ?_) fun v33 H33 hG => ?_
    · refine ⟨_, rfl, ar, rfl, ⟨_, SqT.of har32⟩, fun N nN => lc_tup (K := K) (a := ar) (xs := (around l e).map V.str) (fun m H' => Same H32 H' ∧ H' N = some (.lst ((((around l e).take m).map fun n => decide (n ∈ wrapsW (sortG (gs ++ [e])))).map V.bl)))
        ⟨same_new nN, upd_same⟩ (fun m H' _ ⟨s', _⟩ => SqT.of (s' _ _ har32)) (fun m v H2 hm hP => ?_) fun H2 hP => ?_⟩
      · obtain ⟨s2, hN⟩ := hP
        rw [List.getElem?_map] at hm
        obtain ⟨n, hn, rfl⟩ := Option.map_eq_some_iff.mp hm
        refine ⟨rfl, _, rfl, _, rfl, wl, _, rfl, .inl (SqL.of (s2 _ _ hwl32)), rfl, WT.flat_strs _, ?_⟩
        rw [inV_str]
        refine ⟨_, hN, ?_, fun d o ed => ?_, ?_⟩
        · rw [List.length_map, List.length_map, List.length_take]
          exact Nat.lt_of_le_of_lt (show min m (around l e).length ≤ 10 by omega) (by decide)
        · rw [upd_ne (ne_of_none ed nN)]
          exact s2 _ _ ed
        · rw [upd_same, List.take_add_one, hn, List.map_append, List.map_append]
          rfl
      · obtain ⟨s2, hN⟩ := hP
        rw [List.length_map, List.take_length] at hN
        refine ⟨N, _, rfl, SqL.of hN, _, rfl, ?_⟩
        rcases hdue with ⟨⟨g, hg, h1, h2⟩, rfl⟩ | ⟨h, rfl⟩
        · refine ifT ?_ ⟨_, rfl, _, (around l e).length, rfl, .inr ⟨_, SqT.of (s2 _ _ har32), (List.length_map ..).symm⟩, hq _ _ ⟨?_, s2⟩⟩
          · rw [List.any_map, List.any_eq_true]
            exact ⟨g.1, h2, decide_eq_true ((wmem _).mpr ⟨g, hg, h1, rfl⟩)⟩
          · rw [lar]
            rfl
        · refine ifF ?_ (hq _ _ ⟨rfl, s2⟩)
          rw [List.any_map, List.any_eq_false]
          intro n hn z
          obtain ⟨g, hg, h1, q⟩ := (wmem n).mp (of_decide_eq_true z)
          exact h g hg h1 (by rw [q]; exact hn)
    obtain ⟨rfl, s33⟩ := hG
    have s2733 := s2732.trans s33
    have har33 := s33 _ _ har32
    have hnl33 := s2733 _ _ hnl27
    have WH33 := WH27.same s2733
    -- others
    refine ⟨_, rfl, nl, rfl, ⟨_, SqL.of hnl33⟩, fun N nN => lc_list (K := K) (a := nl) (xs := ns.map V.str) (fun m H' => Same H33 H' ∧ H' N = some (.lst (((ns.take m).filter fun n => decide (n ∉ around l e)).map V.str)))
      ⟨same_new nN, upd_same⟩ (fun m H' _ ⟨s', _⟩ => SqL.of (s' _ _ hnl33)) (fun m v H2 hm hP => ?_) fun H2 hP => ?_⟩
    · obtain ⟨s2, hN⟩ := hP
      rw [List.getElem?_map] at hm
      obtain ⟨n, hn, rfl⟩ := Option.map_eq_some_iff.mp hm
      have stp : (ns.take (m + 1)).filter (fun n => decide (n ∉ around l e)) = (ns.take m).filter (fun n => decide (n ∉ around l e)) ++ (if n ∈ around l e then [] else [n]) := by
        rw [List.take_add_one, hn, List.filter_append]
        exact congrArg (List.filter _ (ns.take m) ++ ·) (filt_not (around l e) n)
      refine ⟨rfl, _, rfl, _, rfl, ar, _, rfl, .inr (SqT.of (s2 _ _ har33)), rfl, WT.flat_strs _, _, rfl, ?_⟩
      rw [inV_str]
      by_cases c : n ∈ around l e
      · refine ifF (by rw [decide_eq_true c]; rfl) ⟨s2, ?_⟩
        rw [stp, if_pos c, List.append_nil]
        exact hN
      · refine ifT (by rw [decide_eq_false c]; rfl) ⟨_, rfl, _, hN, ?_, fun d o ed => ?_, ?_⟩
        · have l1 : ((ns.take m).filter fun n => decide (n ∉ around l e)).length ≤ 10 := by
            refine Nat.le_trans (List.length_filter_le _ _) ?_
            rw [List.length_take]
            omega
          rw [List.length_map]
          exact Nat.lt_of_le_of_lt l1 (by decide)
        · rw [upd_ne (ne_of_none ed nN)]
          exact s2 _ _ ed
        · rw [upd_same, stp, if_neg c, List.map_append]
          rfl
    obtain ⟨s34, hN⟩ := hP
    rw [List.length_map, List.take_length] at hN
    refine ⟨N, _, rfl, SqL.of hN, Nat.lt_of_le_of_lt (Nat.le_trans (List.length_filter_le _ _) (show ns.length ≤ 10 by omega)) (by decide), fun zs l35 pm35 st35 n35 => ?_⟩
    have z35 := same_new n35 (o := .lst (zs.map V.str))
    have h35 : upd H2 l35 (.lst (zs.map V.str)) l35 = some (.lst (zs.map V.str)) := upd_same
    have s3335 := s34.trans z35
    have ezs : pickG (sortG (gs ++ [e])) rs false (sortG (gs ++ [e])) = zs := U.quiet asc2 nms2' (pm35.nodup_iff.mpr (ndn.sublist List.filter_sublist)) st35 fun n => by
      rw [pm35.mem_iff, List.mem_filter, decide_eq_true_iff]
    have zok : ∀ s ∈ zs, PyData.strOk s = true := fun s hs => (nok s (List.mem_filter.mp (pm35.mem_iff.mp hs)).1).ok
    clear z35 hN
    generalize upd H2 l35 (.lst (zs.map V.str)) = H35 at h35 s3335 ⊢
    have WH35 := WH33.same s3335
    have har35 := s3335 _ _ har33
    -- the tests of the tree with a gateway more
    refine ⟨_, rfl, w2, r, g2, _, rs, sortG (gs ++ [e]), rfl, WH35, fun H36 s36 => ?_⟩
    rw [girD]
    have fit := due_fit duelt
    refine ⟨dueV due, dueD due, rfl, due_dt due, fit.1, fit.2.1, fit.2.2, _, rfl, dueV due, dueD due, rfl, due_dt due, fit.1, fit.2.1, fit.2.2, ?_⟩
    refine ⟨rfl, _, rfl, ifF (by simp) ?_⟩
    refine ⟨_, rfl, w2, r, g2, _, rs, sortG (gs ++ [e]), rfl, (WH35.same s36).at_, WH35.nd, WH35.rl, WH35.gl, each2, fun H37 qp2 s37 hq2 => ?_⟩
    rw [ezs] at hq2
    refine ⟨qp2, _, rfl, .inr (SqT.of hq2), fun l38 n38 => ?_⟩
    have z38 := same_new n38 (o := .lst (zs.map V.str))
    have s3538 := s36.trans (s37.trans z38)
    refine ⟨_, rfl, .list (zs.map PyData.str), .list (zs.map PyData.str), .lst (SqL.of upd_same) (dp_strs _), .lst (SqL.of (s3538 _ _ h35)) (dp_strs _), shaped_strs _ zok, shaped_strs _ zok, _, rfl, ifF ?_ ?_⟩
    · rw [eqv_strs, decide_eq_true rfl]
      rfl
    clear z38 hq2
    generalize upd H37 l38 (.lst (zs.map V.str)) = H38 at s3538 ⊢
    have WH38 := WH35.same s3538
    have har38 := s3538 _ _ har35
    refine ⟨_, rfl, w2, r, g2, _, rs, sortG (gs ++ [e]), rfl, WH38, fun H39 v39 s39 hv39 => ?_⟩
    have WH39 := WH38.same s39
    have har39 := s39 _ _ har38
    have s2739 := s2733.trans (s3335.trans (s3538.trans s39))
    rcases hdue with ⟨hw_, rfl⟩ | ⟨hno, rfl⟩
    · refine ⟨_, rfl, rfl, _, rfl, ifF (decide_eq_false fun z => (by cases z)) ?_⟩
      obtain ⟨c, ec, lc, pc, C⟩ := U.girth_some hw_
      rw [ec] at hv39
      obtain ⟨p, us, rfl, hp, hus⟩ := hv39
      refine ⟨_, rfl, rfl, _, rfl, ifF (decide_eq_false fun z => (by cases z)) ?_⟩
      refine ⟨_, rfl, _, rfl, w2, r, g2, _, rs, sortG (gs ++ [e]), .ref p, c, rfl, WH39, ⟨p, us, rfl, hp, hus⟩, C, by omega, fun H40 s40 => ?_⟩
      refine ⟨_, rfl, ifT rfl ?_⟩
      have hp40 := s40 _ _ hp
      have hus40 : PairsAt H40 us c := Paired.mapP hus fun _ _ z => s40 _ _ z
      have lus := Paired.length hus
      have ncs : ∀ n ∈ c.map (·.2), NmOk n := fun n hn => nok n (by
        have hn := pc.mem_iff.mp hn
        obtain ⟨k, hk, rfl⟩ := U.named hn
        exact (nms2' _).mp (List.mem_map.mpr ⟨k, hk, rfl⟩))
      refine ⟨_, rfl, p, rfl, ⟨_, SqT.of hp40⟩, fun M nM => lc_tup (K := K) (a := p) (xs := us.map V.ref) (fun m H' => Same H40 H' ∧ H' M = some (.lst (((c.map (·.2)).take m).map V.str)))
        ⟨same_new nM, upd_same⟩ (fun m H' _ ⟨s', _⟩ => SqT.of (s' _ _ hp40)) (fun m v H5 hm hP => ?_) fun H5 hP => ?_⟩
      · obtain ⟨s5, hM⟩ := hP
        rw [List.getElem?_map] at hm
        obtain ⟨u, hu, rfl⟩ := Option.map_eq_some_iff.mp hm
        obtain ⟨pr, hpr, hat⟩ := pair_at hus40 hu
        refine ⟨rfl, _, rfl, u, _, 1, .str pr.2, rfl, rfl, SqT.of (s5 _ _ hat), atI_nat (j := 1) rfl, _, hM, ?_, fun d o ed => ?_, ?_⟩
        · rw [List.length_map, List.length_take, List.length_map]
          exact Nat.lt_of_le_of_lt (show min m c.length ≤ 10 by omega) (by decide)
        · rw [upd_ne (ne_of_none ed nM)]
          exact s5 _ _ ed
        · rw [upd_same, List.take_add_one, List.getElem?_map, hpr, List.map_append]
          rfl
      · obtain ⟨s41, hM⟩ := hP
        rw [List.length_map, List.take_of_length_le (by rw [List.length_map]; omega)] at hM
        refine ⟨M, c.map (·.2), rfl, SqL.of hM, by rw [List.length_map]; omega, fun ys1 l42 pm42 st42 n42 => ?_⟩
        have z42 := same_new n42 (o := .lst (ys1.map V.str))
        refine ⟨_, rfl, ar, around l e, rfl, SqT.of (z42 _ _ (s41 _ _ (s40 _ _ har39))), by omega, fun ys2 l43 pm43 pw43 n43 => ?_⟩
        have z43 := same_new n43 (o := .lst (ys2.map V.str))
        have eq12 : ys1 = ys2 := srt_ext st42 (pm42.nodup_iff.mpr (pc.nodup_iff.mpr U.nda)) (nb_asc pw43 (pm43.nodup_iff.mpr U.nda)) fun y => by rw [pm42.mem_iff, pc.mem_iff, pm43.mem_iff]
        have yok : ∀ s ∈ ys1, PyData.strOk s = true := fun s hs => (ncs s (pm42.mem_iff.mp hs)).ok
        refine ⟨.list (ys1.map PyData.str), .list (ys2.map PyData.str), .lst (SqL.of (z43 _ _ upd_same)) (dp_strs _), .lst (SqL.of upd_same) (dp_strs _), shaped_strs _ yok, shaped_strs _ (eq12 ▸ yok), ?_⟩
        rw [eqv_strs, decide_eq_true eq12]
        have sf := s2739.trans (s40.trans (s41.trans (z42.trans z43)))
        exact q _ (bt27.trans (.of sf)) ((p27.same sf).more (by omega))
    · rw [U.girth_none hno] at hv39
      have hv39 : v39 = .non := hv39
      subst hv39
      refine ⟨_, rfl, rfl, _, rfl, ifT rfl ?_⟩
      refine ⟨_, rfl, rfl, _, rfl, ifT rfl ⟨_, rfl, rfl, _, rfl, ifT rfl ?_⟩⟩
      refine ⟨_, rfl, w2, r, g2, _, rs, sortG (gs ++ [e]), rfl, WH39.at_, WH39.nd, WH39.rl, WH39.gl, each2, fun H40 np s40 hnp => ?_⟩
      rw [U.noticed hno] at hnp
      refine ⟨(by show 0 ≤ sizeLine; decide), fun t nt => ?_⟩
      have zt := same_new nt (o := .tup [])
      refine ⟨.tuple [], .tuple [], .tup (SqT.of (zt _ _ hnp)) .nil, .tup (SqT.of upd_same) .nil, shaped_nilT, shaped_nilT, ?_⟩
      have sf := s2739.trans (s40.trans zt)
      exact q _ (bt27.trans (.of sf)) ((p27.same sf).more (by omega))
end
end K13

set_option Elab.async false
set_option linter.all false
set_option maxRecDepth 100000
set_option maxHeartbeats 4000000
namespace K13
open PySem PySem.Spec PyProof.Rows L2 WT
abbrev st_law : Stmt := top 30
theorem sc_law : FnScope ["_law_script", "_law_k", "_law_hand_here", "_law_regions", "_law_turn", "_law_world"] ["_law_script"] (defScope st_law) := ⟨rfl, rfl, rfl, by decide +kernel, rfl, by decide +kernel, by decide +kernel⟩
section
variable {P : Program} {w : World} {K : PySem.W.Frag} {mg : Str → Option Value} {base : Heap} {f fS fR fT fN fG fH : Addr} {fd fdS fdR fdT fdN fdG fdH : FuncData}
def spLaw (K : PySem.W.Frag) : Sp := fun vs H Q _ => ∃ (a : Addr) (ns : List Int), vs = [.ref a] ∧ SqL K H a (ns.map V.int) ∧ ns.length ≤ 63 ∧ ∀ H', Q (.bl true) H'
theorem ok_law (F : Fun K "law" "law" st_law f fd) (B : Blt mg) (F_sides_right : Df P w K mg base "_law_sides_right" 5 fS fdS ["_law_world"] spSides) (F_tree_right : Df P w K mg base "_law_tree_right" 6 fR fdR ["_law_hand_here"] spTreeR)
    (F_take : Df P w K mg base "_law_take" 1 fT fdT ["_law_hand_here", "_law_many"] spTake) (F_names : Df P w K mg base "_law_names" 3 fN fdN ["_law_hand_here", "_law_count"] spNames)
    (F_gateways : Df P w K mg base "_law_gateways" 4 fG fdG ["_law_hand_here", "_law_regions", "_law_count"] spGates) (F_hand : Df P w K mg base "_law_hand" 1 fH fdH ["_law_script", "_law_k"] (spHand K)) :
    FnG P w K mg base CX0 7 f fd ["_law_script"] (spLaw K) := by
  refine okG F sc_law (fun vs H Q E h => ?_) (fun cdv A outer s H vs Q E hgd hr h => ?_)
  · obtain ⟨_, _, rfl, _⟩ := h
    rfl
  · obtain ⟨a, ns, rfl, hs, hl, q⟩ := h
    refine ⟨_, (pss_cons (ps_for PassesOwn.never rfl (pi_range1 (by rfl) B.range (pa_cons (pe_callB (call_max2 rfl) (by rfl) B.max (by decide +kernel) (pa_cons pe_int (pa_cons (pe_callB (call_min2 rfl) (by rfl) B.min (by decide +kernel) (pa_cons pe_int (pa_cons (pe_callB call_len (by rfl) B.len (by decide +kernel) (pa_cons (pv 0) pa_nil)) pa_nil))) pa_nil))) pa_nil)) (pg_name (i := 1) sc_law.nd rfl (.inl rfl))
       (pss_cons (ps_set (i := 2) sc_law.nd rfl (.inl rfl) (pe_callG hgd F_hand.G (hr.mono (by decide)) (by rfl) F_hand.g F_hand.kp F_hand.bd pass0 (pa_cons (pv 0) (pa_cons (pv 1) pa_nil))))
       (pss_cons (ps_set (i := 3) sc_law.nd rfl (.inl rfl) (pe_callG hgd F_names.G (hr.mono (by decide)) (by rfl) F_names.g F_names.kp F_names.bd pass0 (pa_cons (pv 2) (pa_cons pe_int pa_nil))))
       (pss_one (ps_for PassesOwn.never rfl (pi_range1 (by rfl) B.range (pa_cons pe_int pa_nil)) (pg_name (i := 4) sc_law.nd rfl (.inl rfl))
        (pss_cons (ps_set (i := 5) sc_law.nd rfl (.inl rfl) (pe_tup (pa_cons (pv 3) (pa_cons (pe_callG hgd F_gateways.G (hr.mono (by decide)) (by rfl) F_gateways.g F_gateways.kp F_gateways.bd pass0 (pa_cons (pv 2) (pa_cons (pv 3) (pa_cons (pe_op op_add pe_int (pe_callG hgd F_take.G (hr.mono (by decide)) (by rfl) F_take.g F_take.kp F_take.bd pass0 (pa_cons (pv 2) (pa_cons pe_int pa_nil)))) pa_nil)))) pa_nil))))
        (pss_one (ps_if (PW.pt (pw_or (pt_not (pt_val (pe_callG hgd F_sides_right.G (hr.mono (by decide)) (by rfl) F_sides_right.g F_sides_right.kp F_sides_right.bd pass0 (pa_cons (pv 5) pa_nil)))) (pw_or1 (pt_not (pt_val (pe_callG hgd F_tree_right.G (hr.mono (by decide)) (by rfl) F_tree_right.g F_tree_right.kp F_tree_right.bd pass0 (pa_cons (pv 2) pa_nil)))))))
         (pss_one (ps_ret pe_bl))
         pss_nil))))))))
      (pss_one (ps_ret pe_bl))), ?_⟩
    refine ⟨_, rfl, _, ns.length, rfl, .inl ⟨_, hs, (List.length_map ..).symm⟩, 3, (ns.length : Int), rfl, 1, _, rfl, ?_⟩
    obtain ⟨n, hn, hn1, hn2⟩ : ∃ n : Int, (if (if (ns.length : Int) < 3 then (ns.length : Int) else 3) > 1 then (if (ns.length : Int) < 3 then (ns.length : Int) else 3) else 1) = n ∧ 1 ≤ n ∧ n ≤ 3 := by
      refine ⟨_, rfl, ?_, ?_⟩ <;> (split <;> split <;> omega)
    rw [hn]
    refine ⟨n, rfl, by omega, by omega, for_it (walk_range (lo := 0) (n := n.toNat)) (fun j σ H' => ∃ v1 v2 v3 v4 v5 : Option V, σ = [some (.ref a), v1, v2, v3, v4, v5] ∧ Same H H') ⟨none, none, none, none, none, rfl, fun _ _ e => e⟩ (fun _ _ _ _ _ => trivial) (fun j v σ H2 H3 hj hP hY => ?_) (fun σ H2 hP => ?_)⟩
    · obtain ⟨v1, v2, v3, v4, v5, rfl, sj⟩ := hP
      obtain ⟨rfl, rfl⟩ := hY
      refine ⟨_, rfl, _, rfl, a, ns, j, by simp, sj.seq hs, hl, by omega, fun H4 p s4 np hp => ?_⟩
      refine ⟨_, rfl, p, 0, 10, rfl, hp, by omega, by omega, fun H5 rg rs b5 p5 hrg nms => ?_⟩
      have lrs := nms.length
      have rok : ∀ s ∈ rs, PyData.strOk s = true := fun s hs => (nms.nm s hs).ok
      refine ⟨3, rfl, by omega, by omega, for_it (walk_range (lo := 0) (n := 3)) (fun i σ H' => ∃ v4 v5 : Option V, σ = [some (.ref a), some (.int (0 + (j : Int))), some (.ref p), some (.ref rg), v4, v5] ∧ But p H5 H' ∧ PotAt H' p (9 + 300 * i)) ⟨v4, v5, rfl, fun _ _ _ e => e, p5⟩ (fun _ _ _ _ _ => trivial) (fun i v σ H6 H7 hi hP hY => ?_) (fun σ H6 hP => ?_)⟩
      · obtain ⟨v4, v5, rfl, b6, p6⟩ := hP
        obtain ⟨rfl, rfl⟩ := hY
        have hrg6 := b6 _ _ (p5.ne_tup hrg) hrg
        refine ⟨_, rfl, _, rfl, _, rfl, _, rfl, p, 9 + 300 * i, 4, rfl, p6, by omega, by omega, by omega, fun H8 x b8 p8 x0 x1 => ?_⟩
        obtain ⟨k, rfl⟩ := Int.eq_ofNat_of_zero_le x0
        have hrg8 := b8 _ _ (p6.ne_tup hrg6) hrg6
        refine ⟨7, (k : Int), rfl, rfl, p, rg, 9 + 300 * i + 1, 7 + k, rs, by simp, p8, by omega, hrg8, by omega, rok, by omega, fun _ => by omega, fun H9 g as gs b9 p9 hg9 pg9 ng9 gok => ?_⟩
        have hrg9 := b9 _ _ (p8.ne_tup hrg8) hrg8
        refine ⟨(by show 2 ≤ sizeLine; decide), fun wp nw => ?_⟩
        have z10 := same_new nw (o := .tup [.ref rg, .ref g])
        have hw10 : WorldAt (upd H9 wp (.tup [.ref rg, .ref g])) wp rg g as rs gs := ⟨upd_same, z10 _ _ hrg9, z10 _ _ hg9, Paired.mapP pg9 fun _ _ z => z.same z10⟩
        have W : SiW rs gs := ⟨by omega, names_nodup nms, gok, names_nodup ng9, by have := ng9.length; rw [List.length_map] at this; omega⟩
        have p10 := p9.same z10
        refine ⟨_, rfl, wp, rg, g, as, rs, gs, rfl, hw10, W, fun H11 s11 => ?_⟩
        refine ⟨_, rfl, ifF rfl ?_⟩
        refine ⟨_, rfl, p, 9 + 300 * i + 1 + 200, rfl, p10.same s11, by omega, fun H12 b12 p12 => ?_⟩
        refine ⟨_, rfl, ifF rfl ⟨_, _, rfl, ?_, p12.more (by omega)⟩⟩
        exact b6.trans (b8.trans (b9.trans ((But.of (z10.trans s11)).trans b12)))
      · obtain ⟨v4, v5, rfl, b6, p6⟩ := hP
        refine ⟨_, _, _, _, _, rfl, fun c o ec => ?_⟩
        have ncp : c ≠ p := ne_of_none (sj _ _ ec) np
        exact b6 _ _ ncp (b5 _ _ ncp (s4 _ _ (sj _ _ ec)))
    · exact q _
end
end K13

set_option Elab.async false
set_option linter.all false
set_option maxRecDepth 100000
set_option maxHeartbeats 4000000
/-! The law's own call, from a promise that holds where no repr is under way. -/
namespace WT
open PySem PySem.Spec PyProof.Rows L2
section
variable {P : Program} {w : World} {K : PySem.W.Frag} {mg mb : Str → Option Value} {k : Nat} {fa a : Addr} {fd : FuncData} {x : Str} {sp : Sp} {s1 : Shared} {us : List Value} {ns : List Int}
/-- from an abstract heap that tracks the script alone, or nothing -/
theorem lawG_core {H : Hp} (kin : K.In s1.heap) (hg : s1.heap.Ns mainGlobals mg) (hb : s1.heap.Ns builtinsNs mb) (hbb : ∀ y : Str, y ≠ "__name__" → mb y = bootBuiltins y) (hlim : s1.heap.NoLimit) (hgn : s1.gens = #[])
    (ha : s1.heap.get? a = some { cls := .type "list", data := .seq us.toArray }) (hr : Room k callerA) (F : ∀ base : Heap, K.In base → base.Ns mainGlobals mg → FnG P w K mg base CX0 k fa fd [x] sp)
    (hbind : ∀ (s : Shared) (u : Value), BindsTo s fd ⟨[u], []⟩ [(x, u)]) (hO : Only H) (hok : HOk P w H s1.heap) (hA : ∀ b, H b ≠ none → b = a) (hK : H a ≠ none → K.lookup a = none)
    (hsp : sp [.ref a] H (fun v _ => v = .bl true) fun _ _ _ => False) :
    codeAny (model P w) callerA (.call (.ref fa) ⟨[.ref a], []⟩) (fun r s' => r = .ok (.ret (.bool true)) ∧ OldK s1.heap s'.heap ∧ s'.os = s1.os ∧ AllBare s'.gens) s1 := by
  have nodict : ∀ {b : Addr} {o : Obj} {es : Array DictEntry} {ep : Nat}, s1.heap.get? b = some o → o.data = .dict es ep → H b = none := by
    intro b o es ep e d
    cases q : H b with
    | none => rfl
    | some u =>
      obtain rfl := hA b (by rw [q]; exact fun z => nomatch z)
      rw [ha] at e
      cases e
      cases d
  have ns : ∀ {b : Addr} {m : Str → Option Value}, s1.heap.Ns b m → (hidT s1.heap H).Ns b m := by
    intro b m hn
    obtain ⟨o, es, ep, e, d, r⟩ := hn
    exact ⟨o, es, ep, hidT_get e (nodict e d), d, r⟩
  have kin' : K.In (hidT s1.heap H) := by
    intro b o e
    refine hidT_get (kin b o e) ?_
    cases q : H b with
    | none => rfl
    | some u =>
      have eb := hA b (by rw [q]; exact fun z => nomatch z)
      rw [eb] at e q
      rw [hK (by rw [q]; exact fun z => nomatch z)] at e
      cases e
  obtain ⟨mc, l1, l2⟩ := hlim
  have md : Mod K mg (hidT s1.heap H) := ⟨kin', ns hg, ⟨mb, ns hb, hbb⟩, ⟨mc, ns l1, l2⟩⟩
  have e0 : Env0 P w K mg (hidT s1.heap H) callerA [] s1 H :=
    { frames := rfl, mod := md, bs := fun b o e => of_hidT e, bsz := Nat.le_of_eq (hidT_size _ _), funs := trivial, frf := fun b z => absurd (show b ∈ ([] : List Addr) from z) (by simp), hok := hok, bare := .of_eq hgn }
  refine codeAny_mono ((F _ kin' (ns hg)).run callerA [] s1 H ⟨[.ref a], []⟩ [.ref a] [.ref a] _ _ rfl hr e0 (hbind s1 (.ref a)) (.cons rfl .nil) hsp) fun r s' h => ?_
  match r, h with
  | .error e, h => exact h.elim
  | .ok .next, h => exact h.elim
  | .ok .brk, h => exact h.elim
  | .ok .cont, h => exact h.elim
  | .ok (.ret u), h =>
    obtain ⟨v, H', os, bare, un, hok', rv, q⟩ := h
    have q' : v = .bl true := q
    subst q'
    obtain rfl : u = Value.bool true := rv
    refine ⟨rfl, OldK.of_keep fun b o e => ?_, os, bare⟩
    rcases hO b with z | ⟨ob, xs, z⟩
    · exact un.keep b o e z (fun y => absurd (show b ∈ ([] : List Addr) from y) (by simp)) (by simp)
    · have e1 := (hok b _ z).1
      have e2 := (hok' b _ (un.frzs b ob _ z)).1
      rw [e] at e1
      cases e1
      exact e2
theorem lawG_call (kin : K.In s1.heap) (hg : s1.heap.Ns mainGlobals mg) (hb : s1.heap.Ns builtinsNs mb) (hbb : ∀ y : Str, y ≠ "__name__" → mb y = bootBuiltins y) (hlim : s1.heap.NoLimit) (hgn : s1.gens = #[])
    (ha : s1.heap.get? a = some { cls := .type "list", data := .seq us.toArray }) (hi : IntsAre us ns) (hl : ns.length ≤ sizeLine) (hr : Room k callerA)
    (F : ∀ base : Heap, K.In base → base.Ns mainGlobals mg → FnG P w K mg base CX0 k fa fd [x] sp) (hbind : ∀ (s : Shared) (u : Value), BindsTo s fd ⟨[u], []⟩ [(x, u)])
    (hsp : ∀ H : Hp, Only H → SqL K H a (ns.map V.int) → sp [.ref a] H (fun v _ => v = .bl true) fun _ _ _ => False) :
    codeAny (model P w) callerA (.call (.ref fa) ⟨[.ref a], []⟩) (fun r s' => r = .ok (.ret (.bool true)) ∧ OldK s1.heap s'.heap ∧ s'.os = s1.os ∧ AllBare s'.gens) s1 := by
  have rv := vals_ints hi
  cases hk : K.lookup a with
  | some o =>
    have e := kin a o hk
    rw [ha] at e
    cases e
    have no : ∀ b : Addr, (fun _ : Addr => (none : Option HO)) b = none := fun _ => rfl
    refine lawG_core (H := fun _ => none) kin hg hb hbb hlim hgn ha hr F hbind (fun b => .inl rfl) (fun b u z => nomatch z) (fun b z => absurd (no b) z) (fun z => absurd (no a) z) (hsp _ (fun b => .inl rfl) ?_)
    exact .inr ⟨_, us.toArray, _, hk, rfl, rfl, rfl, by rw [List.size_toArray, hi.length]; exact hl, by simpa using rv⟩
  | none =>
    obtain ⟨H, hH⟩ : ∃ H : Hp, ∀ b, H b = if b = a then some (.frz { cls := .type "list", data := .seq us.toArray } (.lst (ns.map V.int))) else none := ⟨_, fun _ => rfl⟩
    have at_ : H a = some (.frz { cls := .type "list", data := .seq us.toArray } (.lst (ns.map V.int))) := by rw [hH a, if_pos rfl]
    have off : ∀ b, b ≠ a → H b = none := fun b z => by rw [hH b, if_neg z]
    have only : Only H := fun b => by
      by_cases z : b = a
      · rw [z]
        exact .inr ⟨_, _, at_⟩
      · exact .inl (off b z)
    refine lawG_core (H := H) kin hg hb hbb hlim hgn ha hr F hbind only (fun b u z => ?_) (fun b z => ?_) (fun _ => hk) (hsp H only (.inl (.inr ⟨_, at_⟩)))
    · by_cases e : b = a
      · subst e
        rw [at_] at z
        cases z
        exact ⟨ha, by rw [List.length_map]; exact hl, us, _, rv, ha⟩
      · rw [off b e] at z
        cases z
    · by_cases e : b = a
      · exact e
      · exact absurd (off b e) z
end
/-- the goal that the head leaves, from the law's promise -/
theorem walkG {l : PySem.W.OpenLaw} {n k : Nat} {q : Program} {loose : List Str} {XP : (Str → Option Value) → Heap → Prop} {YP : World → Heap → Prop} {d : DefRec} {K : Params → PySem.W.Frag} {sp : World → Sp} {x : Str}
    (hn : l.most = some n) (hn2 : n ≤ sizeLine) (hdf : d.params.defaults = []) (hr : Room k callerA) (hY : ∀ (w : World) (h : Heap), YP w h → (K w.params).In h)
    (F : ∀ (w : World) (mg : Str → Option Value) (fa : Addr) (h : Heap), (K w.params).In h → h.Ns mainGlobals mg → mg d.name = some (.ref fa) →
      ∃ fd : FuncData, (∀ (s : Shared) (u : Value), BindsTo s fd ⟨[u], []⟩ [(x, u)]) ∧ ∀ base : Heap, (K w.params).In base → base.Ns mainGlobals mg → FnG l.prog w (K w.params) mg base CX0 k fa fd [x] (sp w))
    (hsp : ∀ (w : World) (H : Hp) (a : Addr) (ns : List Int), ns.length ≤ n → Only H → SqL (K w.params) H a (ns.map V.int) → sp w [.ref a] H (fun v _ => v = .bl true) fun _ _ _ => False) :
    PySem.W.WalkO q loose XP YP l.row.toRowW d [] (fun f vs => PySem.call f vs) := by
  refine Att.attach_call hn hdf fun w s0 s1 mg mb fa o pm cd doc a vs ns G Y ho hd hcd hmg hobj hints hlen hgn => ?_
  have kin := hY w _ Y
  obtain ⟨fd, hb, hF⟩ := F w mg fa _ kin G.T.g hmg
  exact lawG_call kin G.T.g G.T.b G.T.builtins G.T.nolimit hgn hobj hints (Nat.le_trans hlen hn2) hr hF hb fun H hO hS => hsp w H a ns hlen hO hS
end WT

set_option Elab.async false
set_option linter.all false
set_option maxRecDepth 100000
set_option maxHeartbeats 4000000
namespace K13
open PySem PySem.Spec PyProof.Rows L2 WT
theorem all_mk {l : PySem.W.OpenLaw} {w : World} {K : PySem.W.Frag} {h : Heap} {mg : Str → Option Value} {fa : Addr} {f_gateway_names f_wrapping_names f_members f_exits f_shortest_path f_cycle_through f_quiet f_noticed f_shortest_cycle f_girth f_hand f_take f_of f_mixed f_names f_gateways f_paths f_wrapping f_groups f_is_cycle f_on_cycle f_sides_right f_tree f_tree_right f_law : Addr} (X : K.In h) (G : h.Ns mainGlobals mg) (hfa : mg "law" = some (.ref fa))
    {od_gateway_names an_gateway_names : Option Addr} {sl_gateway_names : Array (Option Value)} {oc_gateway_names kV_gateway_names dc_gateway_names pm_gateway_names cd_gateway_names ct_gateway_names : Value}
    {od_wrapping_names an_wrapping_names : Option Addr} {sl_wrapping_names : Array (Option Value)} {oc_wrapping_names kV_wrapping_names dc_wrapping_names pm_wrapping_names cd_wrapping_names ct_wrapping_names : Value}
    {od_members an_members : Option Addr} {sl_members : Array (Option Value)} {oc_members kV_members dc_members pm_members cd_members ct_members : Value}
    {od_exits an_exits : Option Addr} {sl_exits : Array (Option Value)} {oc_exits kV_exits dc_exits pm_exits cd_exits ct_exits : Value}
    {od_shortest_path an_shortest_path : Option Addr} {sl_shortest_path : Array (Option Value)} {oc_shortest_path kV_shortest_path dc_shortest_path pm_shortest_path cd_shortest_path ct_shortest_path : Value}
    {od_cycle_through an_cycle_through : Option Addr} {sl_cycle_through : Array (Option Value)} {oc_cycle_through kV_cycle_through dc_cycle_through pm_cycle_through cd_cycle_through ct_cycle_through : Value}
    {od_quiet an_quiet : Option Addr} {sl_quiet : Array (Option Value)} {oc_quiet kV_quiet dc_quiet pm_quiet cd_quiet ct_quiet : Value}
    {od_noticed an_noticed : Option Addr} {sl_noticed : Array (Option Value)} {oc_noticed kV_noticed dc_noticed pm_noticed cd_noticed ct_noticed : Value}
    {od_shortest_cycle an_shortest_cycle : Option Addr} {sl_shortest_cycle : Array (Option Value)} {oc_shortest_cycle kV_shortest_cycle dc_shortest_cycle pm_shortest_cycle cd_shortest_cycle ct_shortest_cycle : Value}
    {od_girth an_girth : Option Addr} {sl_girth : Array (Option Value)} {oc_girth kV_girth dc_girth pm_girth cd_girth ct_girth : Value}
    {od_hand an_hand : Option Addr} {sl_hand : Array (Option Value)} {oc_hand kV_hand dc_hand pm_hand cd_hand ct_hand : Value}
    {od_take an_take : Option Addr} {sl_take : Array (Option Value)} {oc_take kV_take dc_take pm_take cd_take ct_take : Value}
    {od_of an_of : Option Addr} {sl_of : Array (Option Value)} {oc_of kV_of dc_of pm_of cd_of ct_of : Value}
    {od_mixed an_mixed : Option Addr} {sl_mixed : Array (Option Value)} {oc_mixed kV_mixed dc_mixed pm_mixed cd_mixed ct_mixed : Value}
    {od_names an_names : Option Addr} {sl_names : Array (Option Value)} {oc_names kV_names dc_names pm_names cd_names ct_names : Value}
    {od_gateways an_gateways : Option Addr} {sl_gateways : Array (Option Value)} {oc_gateways kV_gateways dc_gateways pm_gateways cd_gateways ct_gateways : Value}
    {od_paths an_paths : Option Addr} {sl_paths : Array (Option Value)} {oc_paths kV_paths dc_paths pm_paths cd_paths ct_paths : Value}
    {od_wrapping an_wrapping : Option Addr} {sl_wrapping : Array (Option Value)} {oc_wrapping kV_wrapping dc_wrapping pm_wrapping cd_wrapping ct_wrapping : Value}
    {od_groups an_groups : Option Addr} {sl_groups : Array (Option Value)} {oc_groups kV_groups dc_groups pm_groups cd_groups ct_groups : Value}
    {od_is_cycle an_is_cycle : Option Addr} {sl_is_cycle : Array (Option Value)} {oc_is_cycle kV_is_cycle dc_is_cycle pm_is_cycle cd_is_cycle ct_is_cycle : Value}
    {od_on_cycle an_on_cycle : Option Addr} {sl_on_cycle : Array (Option Value)} {oc_on_cycle kV_on_cycle dc_on_cycle pm_on_cycle cd_on_cycle ct_on_cycle : Value}
    {od_sides_right an_sides_right : Option Addr} {sl_sides_right : Array (Option Value)} {oc_sides_right kV_sides_right dc_sides_right pm_sides_right cd_sides_right ct_sides_right : Value}
    {od_tree an_tree : Option Addr} {sl_tree : Array (Option Value)} {oc_tree kV_tree dc_tree pm_tree cd_tree ct_tree : Value}
    {od_tree_right an_tree_right : Option Addr} {sl_tree_right : Array (Option Value)} {oc_tree_right kV_tree_right dc_tree_right pm_tree_right cd_tree_right ct_tree_right : Value}
    {od_law an_law : Option Addr} {sl_law : Array (Option Value)} {oc_law kV_law dc_law pm_law cd_law ct_law : Value}
    (a_gateway_names : PySem.W.nsIn K mainGlobals "gateway_names" = some (some (.ref f_gateway_names)))
    (l_gateway_names : K.lookup f_gateway_names = some ⟨oc_gateway_names, od_gateway_names, .func (PySem.W.fnOf "gateway_names" "gateway_names" (defArgs st_gateway_names) (defBody st_gateway_names) (defScope st_gateway_names) .none kV_gateway_names dc_gateway_names pm_gateway_names an_gateway_names cd_gateway_names ct_gateway_names), sl_gateway_names⟩)
    (c_gateway_names : PySem.W.codeIn K cd_gateway_names "gateway_names" = true)
    (k_gateway_names : PySem.W.keepIn K (.ref f_gateway_names) = true)
    (a_wrapping_names : PySem.W.nsIn K mainGlobals "wrapping_names" = some (some (.ref f_wrapping_names)))
    (l_wrapping_names : K.lookup f_wrapping_names = some ⟨oc_wrapping_names, od_wrapping_names, .func (PySem.W.fnOf "wrapping_names" "wrapping_names" (defArgs st_wrapping_names) (defBody st_wrapping_names) (defScope st_wrapping_names) .none kV_wrapping_names dc_wrapping_names pm_wrapping_names an_wrapping_names cd_wrapping_names ct_wrapping_names), sl_wrapping_names⟩)
    (c_wrapping_names : PySem.W.codeIn K cd_wrapping_names "wrapping_names" = true)
    (k_wrapping_names : PySem.W.keepIn K (.ref f_wrapping_names) = true)
    (a_members : PySem.W.nsIn K mainGlobals "members" = some (some (.ref f_members)))
    (l_members : K.lookup f_members = some ⟨oc_members, od_members, .func (PySem.W.fnOf "members" "members" (defArgs st_members) (defBody st_members) (defScope st_members) .none kV_members dc_members pm_members an_members cd_members ct_members), sl_members⟩)
    (c_members : PySem.W.codeIn K cd_members "members" = true)
    (k_members : PySem.W.keepIn K (.ref f_members) = true)
    (a_exits : PySem.W.nsIn K mainGlobals "exits" = some (some (.ref f_exits)))
    (l_exits : K.lookup f_exits = some ⟨oc_exits, od_exits, .func (PySem.W.fnOf "exits" "exits" (defArgs st_exits) (defBody st_exits) (defScope st_exits) .none kV_exits dc_exits pm_exits an_exits cd_exits ct_exits), sl_exits⟩)
    (c_exits : PySem.W.codeIn K cd_exits "exits" = true)
    (k_exits : PySem.W.keepIn K (.ref f_exits) = true)
    (a_shortest_path : PySem.W.nsIn K mainGlobals "shortest_path" = some (some (.ref f_shortest_path)))
    (l_shortest_path : K.lookup f_shortest_path = some ⟨oc_shortest_path, od_shortest_path, .func (PySem.W.fnOf "shortest_path" "shortest_path" (defArgs st_shortest_path) (defBody st_shortest_path) (defScope st_shortest_path) .none kV_shortest_path dc_shortest_path pm_shortest_path an_shortest_path cd_shortest_path ct_shortest_path), sl_shortest_path⟩)
    (c_shortest_path : PySem.W.codeIn K cd_shortest_path "shortest_path" = true)
    (k_shortest_path : PySem.W.keepIn K (.ref f_shortest_path) = true)
    (a_cycle_through : PySem.W.nsIn K mainGlobals "cycle_through" = some (some (.ref f_cycle_through)))
    (l_cycle_through : K.lookup f_cycle_through = some ⟨oc_cycle_through, od_cycle_through, .func (PySem.W.fnOf "cycle_through" "cycle_through" (defArgs st_cycle_through) (defBody st_cycle_through) (defScope st_cycle_through) .none kV_cycle_through dc_cycle_through pm_cycle_through an_cycle_through cd_cycle_through ct_cycle_through), sl_cycle_through⟩)
    (c_cycle_through : PySem.W.codeIn K cd_cycle_through "cycle_through" = true)
    (k_cycle_through : PySem.W.keepIn K (.ref f_cycle_through) = true)
    (a_quiet : PySem.W.nsIn K mainGlobals "quiet" = some (some (.ref f_quiet)))
    (l_quiet : K.lookup f_quiet = some ⟨oc_quiet, od_quiet, .func (PySem.W.fnOf "quiet" "quiet" (defArgs st_quiet) (defBody st_quiet) (defScope st_quiet) .none kV_quiet dc_quiet pm_quiet an_quiet cd_quiet ct_quiet), sl_quiet⟩)
    (c_quiet : PySem.W.codeIn K cd_quiet "quiet" = true)
    (k_quiet : PySem.W.keepIn K (.ref f_quiet) = true)
    (a_noticed : PySem.W.nsIn K mainGlobals "noticed" = some (some (.ref f_noticed)))
    (l_noticed : K.lookup f_noticed = some ⟨oc_noticed, od_noticed, .func (PySem.W.fnOf "noticed" "noticed" (defArgs st_noticed) (defBody st_noticed) (defScope st_noticed) .none kV_noticed dc_noticed pm_noticed an_noticed cd_noticed ct_noticed), sl_noticed⟩)
    (c_noticed : PySem.W.codeIn K cd_noticed "noticed" = true)
    (k_noticed : PySem.W.keepIn K (.ref f_noticed) = true)
    (a_shortest_cycle : PySem.W.nsIn K mainGlobals "shortest_cycle" = some (some (.ref f_shortest_cycle)))
    (l_shortest_cycle : K.lookup f_shortest_cycle = some ⟨oc_shortest_cycle, od_shortest_cycle, .func (PySem.W.fnOf "shortest_cycle" "shortest_cycle" (defArgs st_shortest_cycle) (defBody st_shortest_cycle) (defScope st_shortest_cycle) .none kV_shortest_cycle dc_shortest_cycle pm_shortest_cycle an_shortest_cycle cd_shortest_cycle ct_shortest_cycle), sl_shortest_cycle⟩)
    (c_shortest_cycle : PySem.W.codeIn K cd_shortest_cycle "shortest_cycle" = true)
    (k_shortest_cycle : PySem.W.keepIn K (.ref f_shortest_cycle) = true)
    (a_girth : PySem.W.nsIn K mainGlobals "girth" = some (some (.ref f_girth)))
    (l_girth : K.lookup f_girth = some ⟨oc_girth, od_girth, .func (PySem.W.fnOf "girth" "girth" (defArgs st_girth) (defBody st_girth) (defScope st_girth) .none kV_girth dc_girth pm_girth an_girth cd_girth ct_girth), sl_girth⟩)
    (c_girth : PySem.W.codeIn K cd_girth "girth" = true)
    (k_girth : PySem.W.keepIn K (.ref f_girth) = true)
    (a_hand : PySem.W.nsIn K mainGlobals "_law_hand" = some (some (.ref f_hand)))
    (l_hand : K.lookup f_hand = some ⟨oc_hand, od_hand, .func (PySem.W.fnOf "_law_hand" "_law_hand" (defArgs st_hand) (defBody st_hand) (defScope st_hand) .none kV_hand dc_hand pm_hand an_hand cd_hand ct_hand), sl_hand⟩)
    (c_hand : PySem.W.codeIn K cd_hand "_law_hand" = true)
    (k_hand : PySem.W.keepIn K (.ref f_hand) = true)
    (a_take : PySem.W.nsIn K mainGlobals "_law_take" = some (some (.ref f_take)))
    (l_take : K.lookup f_take = some ⟨oc_take, od_take, .func (PySem.W.fnOf "_law_take" "_law_take" (defArgs st_take) (defBody st_take) (defScope st_take) .none kV_take dc_take pm_take an_take cd_take ct_take), sl_take⟩)
    (c_take : PySem.W.codeIn K cd_take "_law_take" = true)
    (k_take : PySem.W.keepIn K (.ref f_take) = true)
    (a_of : PySem.W.nsIn K mainGlobals "_law_of" = some (some (.ref f_of)))
    (l_of : K.lookup f_of = some ⟨oc_of, od_of, .func (PySem.W.fnOf "_law_of" "_law_of" (defArgs st_of) (defBody st_of) (defScope st_of) .none kV_of dc_of pm_of an_of cd_of ct_of), sl_of⟩)
    (c_of : PySem.W.codeIn K cd_of "_law_of" = true)
    (k_of : PySem.W.keepIn K (.ref f_of) = true)
    (a_mixed : PySem.W.nsIn K mainGlobals "_law_mixed" = some (some (.ref f_mixed)))
    (l_mixed : K.lookup f_mixed = some ⟨oc_mixed, od_mixed, .func (PySem.W.fnOf "_law_mixed" "_law_mixed" (defArgs st_mixed) (defBody st_mixed) (defScope st_mixed) .none kV_mixed dc_mixed pm_mixed an_mixed cd_mixed ct_mixed), sl_mixed⟩)
    (c_mixed : PySem.W.codeIn K cd_mixed "_law_mixed" = true)
    (k_mixed : PySem.W.keepIn K (.ref f_mixed) = true)
    (a_names : PySem.W.nsIn K mainGlobals "_law_names" = some (some (.ref f_names)))
    (l_names : K.lookup f_names = some ⟨oc_names, od_names, .func (PySem.W.fnOf "_law_names" "_law_names" (defArgs st_names) (defBody st_names) (defScope st_names) .none kV_names dc_names pm_names an_names cd_names ct_names), sl_names⟩)
    (c_names : PySem.W.codeIn K cd_names "_law_names" = true)
    (k_names : PySem.W.keepIn K (.ref f_names) = true)
    (a_gateways : PySem.W.nsIn K mainGlobals "_law_gateways" = some (some (.ref f_gateways)))
    (l_gateways : K.lookup f_gateways = some ⟨oc_gateways, od_gateways, .func (PySem.W.fnOf "_law_gateways" "_law_gateways" (defArgs st_gateways) (defBody st_gateways) (defScope st_gateways) .none kV_gateways dc_gateways pm_gateways an_gateways cd_gateways ct_gateways), sl_gateways⟩)
    (c_gateways : PySem.W.codeIn K cd_gateways "_law_gateways" = true)
    (k_gateways : PySem.W.keepIn K (.ref f_gateways) = true)
    (a_paths : PySem.W.nsIn K mainGlobals "_law_paths" = some (some (.ref f_paths)))
    (l_paths : K.lookup f_paths = some ⟨oc_paths, od_paths, .func (PySem.W.fnOf "_law_paths" "_law_paths" (defArgs st_paths) (defBody st_paths) (defScope st_paths) .none kV_paths dc_paths pm_paths an_paths cd_paths ct_paths), sl_paths⟩)
    (c_paths : PySem.W.codeIn K cd_paths "_law_paths" = true)
    (k_paths : PySem.W.keepIn K (.ref f_paths) = true)
    (a_wrapping : PySem.W.nsIn K mainGlobals "_law_wrapping" = some (some (.ref f_wrapping)))
    (l_wrapping : K.lookup f_wrapping = some ⟨oc_wrapping, od_wrapping, .func (PySem.W.fnOf "_law_wrapping" "_law_wrapping" (defArgs st_wrapping) (defBody st_wrapping) (defScope st_wrapping) .none kV_wrapping dc_wrapping pm_wrapping an_wrapping cd_wrapping ct_wrapping), sl_wrapping⟩)
    (c_wrapping : PySem.W.codeIn K cd_wrapping "_law_wrapping" = true)
    (k_wrapping : PySem.W.keepIn K (.ref f_wrapping) = true)
    (a_groups : PySem.W.nsIn K mainGlobals "_law_groups" = some (some (.ref f_groups)))
    (l_groups : K.lookup f_groups = some ⟨oc_groups, od_groups, .func (PySem.W.fnOf "_law_groups" "_law_groups" (defArgs st_groups) (defBody st_groups) (defScope st_groups) .none kV_groups dc_groups pm_groups an_groups cd_groups ct_groups), sl_groups⟩)
    (c_groups : PySem.W.codeIn K cd_groups "_law_groups" = true)
    (k_groups : PySem.W.keepIn K (.ref f_groups) = true)
    (a_is_cycle : PySem.W.nsIn K mainGlobals "_law_is_cycle" = some (some (.ref f_is_cycle)))
    (l_is_cycle : K.lookup f_is_cycle = some ⟨oc_is_cycle, od_is_cycle, .func (PySem.W.fnOf "_law_is_cycle" "_law_is_cycle" (defArgs st_is_cycle) (defBody st_is_cycle) (defScope st_is_cycle) .none kV_is_cycle dc_is_cycle pm_is_cycle an_is_cycle cd_is_cycle ct_is_cycle), sl_is_cycle⟩)
    (c_is_cycle : PySem.W.codeIn K cd_is_cycle "_law_is_cycle" = true)
    (k_is_cycle : PySem.W.keepIn K (.ref f_is_cycle) = true)
    (a_on_cycle : PySem.W.nsIn K mainGlobals "_law_on_cycle" = some (some (.ref f_on_cycle)))
    (l_on_cycle : K.lookup f_on_cycle = some ⟨oc_on_cycle, od_on_cycle, .func (PySem.W.fnOf "_law_on_cycle" "_law_on_cycle" (defArgs st_on_cycle) (defBody st_on_cycle) (defScope st_on_cycle) .none kV_on_cycle dc_on_cycle pm_on_cycle an_on_cycle cd_on_cycle ct_on_cycle), sl_on_cycle⟩)
    (c_on_cycle : PySem.W.codeIn K cd_on_cycle "_law_on_cycle" = true)
    (k_on_cycle : PySem.W.keepIn K (.ref f_on_cycle) = true)
    (a_sides_right : PySem.W.nsIn K mainGlobals "_law_sides_right" = some (some (.ref f_sides_right)))
    (l_sides_right : K.lookup f_sides_right = some ⟨oc_sides_right, od_sides_right, .func (PySem.W.fnOf "_law_sides_right" "_law_sides_right" (defArgs st_sides_right) (defBody st_sides_right) (defScope st_sides_right) .none kV_sides_right dc_sides_right pm_sides_right an_sides_right cd_sides_right ct_sides_right), sl_sides_right⟩)
    (c_sides_right : PySem.W.codeIn K cd_sides_right "_law_sides_right" = true)
    (k_sides_right : PySem.W.keepIn K (.ref f_sides_right) = true)
    (a_tree : PySem.W.nsIn K mainGlobals "_law_tree" = some (some (.ref f_tree)))
    (l_tree : K.lookup f_tree = some ⟨oc_tree, od_tree, .func (PySem.W.fnOf "_law_tree" "_law_tree" (defArgs st_tree) (defBody st_tree) (defScope st_tree) .none kV_tree dc_tree pm_tree an_tree cd_tree ct_tree), sl_tree⟩)
    (c_tree : PySem.W.codeIn K cd_tree "_law_tree" = true)
    (k_tree : PySem.W.keepIn K (.ref f_tree) = true)
    (a_tree_right : PySem.W.nsIn K mainGlobals "_law_tree_right" = some (some (.ref f_tree_right)))
    (l_tree_right : K.lookup f_tree_right = some ⟨oc_tree_right, od_tree_right, .func (PySem.W.fnOf "_law_tree_right" "_law_tree_right" (defArgs st_tree_right) (defBody st_tree_right) (defScope st_tree_right) .none kV_tree_right dc_tree_right pm_tree_right an_tree_right cd_tree_right ct_tree_right), sl_tree_right⟩)
    (c_tree_right : PySem.W.codeIn K cd_tree_right "_law_tree_right" = true)
    (k_tree_right : PySem.W.keepIn K (.ref f_tree_right) = true)
    (a_law : PySem.W.nsIn K mainGlobals "law" = some (some (.ref f_law)))
    (l_law : K.lookup f_law = some ⟨oc_law, od_law, .func (PySem.W.fnOf "law" "law" (defArgs st_law) (defBody st_law) (defScope st_law) .none kV_law dc_law pm_law an_law cd_law ct_law), sl_law⟩)
    (c_law : PySem.W.codeIn K cd_law "law" = true)
    (k_law : PySem.W.keepIn K (.ref f_law) = true)
    (z_len : PySem.W.nsIn K mainGlobals "len" = some none)
    (z_abs : PySem.W.nsIn K mainGlobals "abs" = some none)
    (z_int : PySem.W.nsIn K mainGlobals "int" = some none)
    (z_range : PySem.W.nsIn K mainGlobals "range" = some none)
    (z_list : PySem.W.nsIn K mainGlobals "list" = some none)
    (z_tuple : PySem.W.nsIn K mainGlobals "tuple" = some none)
    (z_sorted : PySem.W.nsIn K mainGlobals "sorted" = some none)
    (z_min : PySem.W.nsIn K mainGlobals "min" = some none)
    (z_max : PySem.W.nsIn K mainGlobals "max" = some none)
    (z_all : PySem.W.nsIn K mainGlobals "all" = some none)
    (z_repr : PySem.W.nsIn K mainGlobals "repr" = some none)
    (z_dict : PySem.W.nsIn K mainGlobals "dict" = some none)
    (z_enumerate : PySem.W.nsIn K mainGlobals "enumerate" = some none)
    (z_zip : PySem.W.nsIn K mainGlobals "zip" = some none)
    (z_set : PySem.W.nsIn K mainGlobals "set" = some none)
    (z_any : PySem.W.nsIn K mainGlobals "any" = some none) :
    ∃ fd : FuncData, (∀ (s : Shared) (v : Value), BindsTo s fd ⟨[v], []⟩ [("_law_script", v)]) ∧ ∀ base : Heap, K.In base → base.Ns mainGlobals mg → FnG l.prog w K mg base CX0 7 fa fd ["_law_script"] (spLaw K) := by
  have e := hfa.symm.trans (PySem.W.mg_of X G a_law)
  cases e
  have Fgateway_names := fun_mk (x := "gateway_names") (st := st_gateway_names) l_gateway_names c_gateway_names k_gateway_names
  have bgateway_names := Fgateway_names.binds (ps := ["world"]) fun _ _ _ _ _ _ us hl => match us, hl with | [_], _ => rfl
  have Fwrapping_names := fun_mk (x := "wrapping_names") (st := st_wrapping_names) l_wrapping_names c_wrapping_names k_wrapping_names
  have bwrapping_names := Fwrapping_names.binds (ps := ["world"]) fun _ _ _ _ _ _ us hl => match us, hl with | [_], _ => rfl
  have Fmembers := fun_mk (x := "members") (st := st_members) l_members c_members k_members
  have bmembers := Fmembers.binds (ps := ["world", "name"]) fun _ _ _ _ _ _ us hl => match us, hl with | [_, _], _ => rfl
  have Fexits := fun_mk (x := "exits") (st := st_exits) l_exits c_exits k_exits
  have bexits := Fexits.binds (ps := ["world", "region", "without"]) fun _ _ _ _ _ _ us hl => match us, hl with | [_, _, _], _ => rfl
  have Fshortest_path := fun_mk (x := "shortest_path") (st := st_shortest_path) l_shortest_path c_shortest_path k_shortest_path
  have bshortest_path := Fshortest_path.binds (ps := ["world", "one", "other", "without"]) fun _ _ _ _ _ _ us hl => match us, hl with | [_, _, _, _], _ => rfl
  have Fcycle_through := fun_mk (x := "cycle_through") (st := st_cycle_through) l_cycle_through c_cycle_through k_cycle_through
  have bcycle_through := Fcycle_through.binds (ps := ["world", "name"]) fun _ _ _ _ _ _ us hl => match us, hl with | [_, _], _ => rfl
  have Fquiet := fun_mk (x := "quiet") (st := st_quiet) l_quiet c_quiet k_quiet
  have bquiet := Fquiet.binds (ps := ["world"]) fun _ _ _ _ _ _ us hl => match us, hl with | [_], _ => rfl
  have Fnoticed := fun_mk (x := "noticed") (st := st_noticed) l_noticed c_noticed k_noticed
  have bnoticed := Fnoticed.binds (ps := ["world"]) fun _ _ _ _ _ _ us hl => match us, hl with | [_], _ => rfl
  have Fshortest_cycle := fun_mk (x := "shortest_cycle") (st := st_shortest_cycle) l_shortest_cycle c_shortest_cycle k_shortest_cycle
  have bshortest_cycle := Fshortest_cycle.binds (ps := ["world"]) fun _ _ _ _ _ _ us hl => match us, hl with | [_], _ => rfl
  have Fgirth := fun_mk (x := "girth") (st := st_girth) l_girth c_girth k_girth
  have bgirth := Fgirth.binds (ps := ["world"]) fun _ _ _ _ _ _ us hl => match us, hl with | [_], _ => rfl
  have Fhand := fun_mk (x := "_law_hand") (st := st_hand) l_hand c_hand k_hand
  have bhand := Fhand.binds (ps := ["_law_script", "_law_k"]) fun _ _ _ _ _ _ us hl => match us, hl with | [_, _], _ => rfl
  have Ftake := fun_mk (x := "_law_take") (st := st_take) l_take c_take k_take
  have btake := Ftake.binds (ps := ["_law_hand_here", "_law_many"]) fun _ _ _ _ _ _ us hl => match us, hl with | [_, _], _ => rfl
  have Fof := fun_mk (x := "_law_of") (st := st_of) l_of c_of k_of
  have bof := Fof.binds (ps := ["_law_hand_here", "_law_some"]) fun _ _ _ _ _ _ us hl => match us, hl with | [_, _], _ => rfl
  have Fmixed := fun_mk (x := "_law_mixed") (st := st_mixed) l_mixed c_mixed k_mixed
  have bmixed := Fmixed.binds (ps := ["_law_hand_here", "_law_some"]) fun _ _ _ _ _ _ us hl => match us, hl with | [_, _], _ => rfl
  have Fnames := fun_mk (x := "_law_names") (st := st_names) l_names c_names k_names
  have bnames := Fnames.binds (ps := ["_law_hand_here", "_law_count"]) fun _ _ _ _ _ _ us hl => match us, hl with | [_, _], _ => rfl
  have Fgateways := fun_mk (x := "_law_gateways") (st := st_gateways) l_gateways c_gateways k_gateways
  have bgateways := Fgateways.binds (ps := ["_law_hand_here", "_law_regions", "_law_count"]) fun _ _ _ _ _ _ us hl => match us, hl with | [_, _, _], _ => rfl
  have Fpaths := fun_mk (x := "_law_paths") (st := st_paths) l_paths c_paths k_paths
  have bpaths := Fpaths.binds (ps := ["_law_world", "_law_one", "_law_other", "_law_barred"]) fun _ _ _ _ _ _ us hl => match us, hl with | [_, _, _, _], _ => rfl
  have Fwrapping := fun_mk (x := "_law_wrapping") (st := st_wrapping) l_wrapping c_wrapping k_wrapping
  have bwrapping := Fwrapping.binds (ps := ["_law_world"]) fun _ _ _ _ _ _ us hl => match us, hl with | [_], _ => rfl
  have Fgroups := fun_mk (x := "_law_groups") (st := st_groups) l_groups c_groups k_groups
  have bgroups := Fgroups.binds (ps := ["_law_world", "_law_barred"]) fun _ _ _ _ _ _ us hl => match us, hl with | [_, _], _ => rfl
  have Fis_cycle := fun_mk (x := "_law_is_cycle") (st := st_is_cycle) l_is_cycle c_is_cycle k_is_cycle
  have bis_cycle := Fis_cycle.binds (ps := ["_law_world", "_law_value"]) fun _ _ _ _ _ _ us hl => match us, hl with | [_, _], _ => rfl
  have Fon_cycle := fun_mk (x := "_law_on_cycle") (st := st_on_cycle) l_on_cycle c_on_cycle k_on_cycle
  have bon_cycle := Fon_cycle.binds (ps := ["_law_world"]) fun _ _ _ _ _ _ us hl => match us, hl with | [_], _ => rfl
  have Fsides_right := fun_mk (x := "_law_sides_right") (st := st_sides_right) l_sides_right c_sides_right k_sides_right
  have bsides_right := Fsides_right.binds (ps := ["_law_world"]) fun _ _ _ _ _ _ us hl => match us, hl with | [_], _ => rfl
  have Ftree := fun_mk (x := "_law_tree") (st := st_tree) l_tree c_tree k_tree
  have btree := Ftree.binds (ps := ["_law_hand_here", "_law_regions", "_law_names_here"]) fun _ _ _ _ _ _ us hl => match us, hl with | [_, _, _], _ => rfl
  have Ftree_right := fun_mk (x := "_law_tree_right") (st := st_tree_right) l_tree_right c_tree_right k_tree_right
  have btree_right := Ftree_right.binds (ps := ["_law_hand_here"]) fun _ _ _ _ _ _ us hl => match us, hl with | [_], _ => rfl
  have Flaw := fun_mk (x := "law") (st := st_law) l_law c_law k_law
  have blaw := Flaw.binds (ps := ["_law_script"]) fun _ _ _ _ _ _ us hl => match us, hl with | [_], _ => rfl
  have B : Blt mg := ⟨PySem.W.mg_none_of X G z_len, PySem.W.mg_none_of X G z_abs, PySem.W.mg_none_of X G z_int, PySem.W.mg_none_of X G z_range, PySem.W.mg_none_of X G z_list, PySem.W.mg_none_of X G z_tuple, PySem.W.mg_none_of X G z_sorted, PySem.W.mg_none_of X G z_min, PySem.W.mg_none_of X G z_max, PySem.W.mg_none_of X G z_all, PySem.W.mg_none_of X G z_repr, PySem.W.mg_none_of X G z_dict, PySem.W.mg_none_of X G z_enumerate⟩
  have hzip : mg "zip" = none := PySem.W.mg_none_of X G z_zip
  have hset : mg "set" = none := PySem.W.mg_none_of X G z_set
  have hany : mg "any" = none := PySem.W.mg_none_of X G z_any
  have hint : mg "int" = none := PySem.W.mg_none_of X G z_int
  refine ⟨PySem.W.fnOf "law" "law" (defArgs st_law) (defBody st_law) (defScope st_law) .none kV_law dc_law pm_law an_law cd_law ct_law, fun s v => .of_eq rfl, fun base _ _ => ?_⟩
  · have Dexits : DfO l.prog w K mg base "exits" 1 f_exits _ _ _ := ⟨PySem.W.mg_of X G a_exits, k_exits, bexits, ok_exits Fexits⟩
    have Dshortest_path : DfO l.prog w K mg base "shortest_path" 2 f_shortest_path _ _ _ := ⟨PySem.W.mg_of X G a_shortest_path, k_shortest_path, bshortest_path, ok_shortest_path Fshortest_path Dexits⟩
    have Dwrapping_names : DfO l.prog w K mg base "wrapping_names" 1 f_wrapping_names _ _ _ := ⟨PySem.W.mg_of X G a_wrapping_names, k_wrapping_names, bwrapping_names, ok_wrapping_names Fwrapping_names B⟩
    have Dgateway_names : DfO l.prog w K mg base "gateway_names" 1 f_gateway_names _ _ _ := ⟨PySem.W.mg_of X G a_gateway_names, k_gateway_names, bgateway_names, ok_gateway_names Fgateway_names B⟩
    have Dmembers : DfO l.prog w K mg base "members" 1 f_members _ _ _ := ⟨PySem.W.mg_of X G a_members, k_members, bmembers, ok_members Fmembers⟩
    have Dcycle_through : DfO l.prog w K mg base "cycle_through" 3 f_cycle_through _ _ _ := ⟨PySem.W.mg_of X G a_cycle_through, k_cycle_through, bcycle_through, ok_cycle_through Fcycle_through B hzip Dmembers Dshortest_path⟩
    have Dquiet : DfO l.prog w K mg base "quiet" 4 f_quiet _ _ _ := ⟨PySem.W.mg_of X G a_quiet, k_quiet, bquiet, ok_quiet Fquiet B Dgateway_names Dcycle_through⟩
    have Dnoticed : DfO l.prog w K mg base "noticed" 4 f_noticed _ _ _ := ⟨PySem.W.mg_of X G a_noticed, k_noticed, bnoticed, ok_noticed Fnoticed B Dwrapping_names Dcycle_through⟩
    have Dshortest_cycle : DfO l.prog w K mg base "shortest_cycle" 4 f_shortest_cycle _ _ _ := ⟨PySem.W.mg_of X G a_shortest_cycle, k_shortest_cycle, bshortest_cycle, ok_shortest_cycle Fshortest_cycle B Dwrapping_names Dcycle_through⟩
    have Dgirth : DfO l.prog w K mg base "girth" 5 f_girth _ _ _ := ⟨PySem.W.mg_of X G a_girth, k_girth, bgirth, ok_girth Fgirth B Dshortest_cycle⟩
    have Dtake : Df l.prog w K mg base "_law_take" 1 f_take _ _ _ := ⟨PySem.W.mg_of X G a_take, k_take, btake, ok_take Ftake⟩
    have Dhand : Df l.prog w K mg base "_law_hand" 1 f_hand _ _ _ := ⟨PySem.W.mg_of X G a_hand, k_hand, bhand, ok_hand Fhand B⟩
    have Dof : Df l.prog w K mg base "_law_of" 2 f_of _ _ _ := ⟨PySem.W.mg_of X G a_of, k_of, bof, ok_of Fof B Dtake⟩
    have Dmixed : Df l.prog w K mg base "_law_mixed" 2 f_mixed _ _ _ := ⟨PySem.W.mg_of X G a_mixed, k_mixed, bmixed, ok_mixed Fmixed B Dtake⟩
    have Dnames : Df l.prog w K mg base "_law_names" 3 f_names _ _ _ := ⟨PySem.W.mg_of X G a_names, k_names, bnames, ok_names Fnames B Dtake Dof⟩
    have Dgateways : Df l.prog w K mg base "_law_gateways" 4 f_gateways _ _ _ := ⟨PySem.W.mg_of X G a_gateways, k_gateways, bgateways, ok_gateways Fgateways B Dof Dmixed Dnames⟩
    have Dpaths : Df l.prog w K mg base "_law_paths" 1 f_paths _ _ _ := ⟨PySem.W.mg_of X G a_paths, k_paths, bpaths, ok_paths Fpaths⟩
    have Dwrapping : Df l.prog w K mg base "_law_wrapping" 1 f_wrapping _ _ _ := ⟨PySem.W.mg_of X G a_wrapping, k_wrapping, bwrapping, ok_wrapping Fwrapping⟩
    have Dgroups : Df l.prog w K mg base "_law_groups" 1 f_groups _ _ _ := ⟨PySem.W.mg_of X G a_groups, k_groups, bgroups, ok_groups Fgroups B⟩
    have Dis_cycle : Df l.prog w K mg base "_law_is_cycle" 1 f_is_cycle _ _ _ := ⟨PySem.W.mg_of X G a_is_cycle, k_is_cycle, bis_cycle, ok_own_is_cycle Fis_cycle B hset⟩
    have Don_cycle : Df l.prog w K mg base "_law_on_cycle" 2 f_on_cycle _ _ _ := ⟨PySem.W.mg_of X G a_on_cycle, k_on_cycle, bon_cycle, ok_on_cycle Fon_cycle B hset Dgroups⟩
    have Dsides_right : Df l.prog w K mg base "_law_sides_right" 5 f_sides_right _ _ _ := ⟨PySem.W.mg_of X G a_sides_right, k_sides_right, bsides_right, ok_sides_right Fsides_right B Don_cycle Dwrapping Dquiet.df Dnoticed.df⟩
    have Dtree : Df l.prog w K mg base "_law_tree" 3 f_tree _ _ _ := ⟨PySem.W.mg_of X G a_tree, k_tree, btree, ok_tree Ftree B Dmixed Dof Dtake⟩
    have Dtree_right : Df l.prog w K mg base "_law_tree_right" 6 f_tree_right _ _ _ := ⟨PySem.W.mg_of X G a_tree_right, k_tree_right, btree_right, ok_tree_right Ftree_right B hany Dnames Dmixed Dtree Dquiet.df Dgirth.df Dshortest_cycle.df Dof Dpaths Dwrapping Dnoticed.df Dis_cycle⟩
    exact ok_law Flaw B Dsides_right Dtree_right Dtake Dnames Dgateways Dhand
end K13

set_option Elab.async false
set_option linter.all false
open PySem PySem.W PyProof.Rows
set_option maxRecDepth 100000 in
set_option maxHeartbeats 0 in
theorem PySem.Challenge.cw_wraptrails_k13_great_worlds_holds : PySem.Challenge.rw_wraptrails_k13_great_worlds.Holds := by
  w_on; o_law; k_head; (case hw => w_witness2)
  k_fill
  refine WT.walkG (l := PySem.Challenge.rw_wraptrails_k13_great_worlds) (n := 63) (k := 7) (x := "_law_script") (sp := fun w => K13.spLaw _) rfl (by decide) rfl ⟨rfl, by decide, by decide⟩ (fun w h Y => PySem.W.kIn_of Y) ?F (fun _ _ a ns hl _ hS => ⟨a, ns, rfl, hS, hl, fun _ => rfl⟩)
  case F =>
    intro w mg fa h KX G hmg
    refine' K13.all_mk KX G hmg ?a_gateway_names ?l_gateway_names ?c_gateway_names ?k_gateway_names ?a_wrapping_names ?l_wrapping_names ?c_wrapping_names ?k_wrapping_names ?a_members ?l_members ?c_members ?k_members ?a_exits ?l_exits ?c_exits ?k_exits ?a_shortest_path ?l_shortest_path ?c_shortest_path ?k_shortest_path ?a_cycle_through ?l_cycle_through ?c_cycle_through ?k_cycle_through ?a_quiet ?l_quiet ?c_quiet ?k_quiet ?a_noticed ?l_noticed ?c_noticed ?k_noticed ?a_shortest_cycle ?l_shortest_cycle ?c_shortest_cycle ?k_shortest_cycle ?a_girth ?l_girth ?c_girth ?k_girth ?a_hand ?l_hand ?c_hand ?k_hand ?a_take ?l_take ?c_take ?k_take ?a_of ?l_of ?c_of ?k_of ?a_mixed ?l_mixed ?c_mixed ?k_mixed ?a_names ?l_names ?c_names ?k_names ?a_gateways ?l_gateways ?c_gateways ?k_gateways ?a_paths ?l_paths ?c_paths ?k_paths ?a_wrapping ?l_wrapping ?c_wrapping ?k_wrapping ?a_groups ?l_groups ?c_groups ?k_groups ?a_is_cycle ?l_is_cycle ?c_is_cycle ?k_is_cycle ?a_on_cycle ?l_on_cycle ?c_on_cycle ?k_on_cycle ?a_sides_right ?l_sides_right ?c_sides_right ?k_sides_right ?a_tree ?l_tree ?c_tree ?k_tree ?a_tree_right ?l_tree_right ?c_tree_right ?k_tree_right ?a_law ?l_law ?c_law ?k_law ?z_len ?z_abs ?z_int ?z_range ?z_list ?z_tuple ?z_sorted ?z_min ?z_max ?z_all ?z_repr ?z_dict ?z_enumerate ?z_zip ?z_set ?z_any
    (case a_gateway_names => k_is)
    (case l_gateway_names => k_is)
    (case c_gateway_names => k_is)
    (case k_gateway_names => k_is)
    (case a_wrapping_names => k_is)
    (case l_wrapping_names => k_is)
    (case c_wrapping_names => k_is)
    (case k_wrapping_names => k_is)
    (case a_members => k_is)
    (case l_members => k_is)
    (case c_members => k_is)
    (case k_members => k_is)
    (case a_exits => k_is)
    (case l_exits => k_is)
    (case c_exits => k_is)
    (case k_exits => k_is)
    (case a_shortest_path => k_is)
    (case l_shortest_path => k_is)
    (case c_shortest_path => k_is)
    (case k_shortest_path => k_is)
    (case a_cycle_through => k_is)
    (case l_cycle_through => k_is)
    (case c_cycle_through => k_is)
    (case k_cycle_through => k_is)
    (case a_quiet => k_is)
    (case l_quiet => k_is)
    (case c_quiet => k_is)
    (case k_quiet => k_is)
    (case a_noticed => k_is)
    (case l_noticed => k_is)
    (case c_noticed => k_is)
    (case k_noticed => k_is)
    (case a_shortest_cycle => k_is)
    (case l_shortest_cycle => k_is)
    (case c_shortest_cycle => k_is)
    (case k_shortest_cycle => k_is)
    (case a_girth => k_is)
    (case l_girth => k_is)
    (case c_girth => k_is)
    (case k_girth => k_is)
    (case a_hand => k_is)
    (case l_hand => k_is)
    (case c_hand => k_is)
    (case k_hand => k_is)
    (case a_take => k_is)
    (case l_take => k_is)
    (case c_take => k_is)
    (case k_take => k_is)
    (case a_of => k_is)
    (case l_of => k_is)
    (case c_of => k_is)
    (case k_of => k_is)
    (case a_mixed => k_is)
    (case l_mixed => k_is)
    (case c_mixed => k_is)
    (case k_mixed => k_is)
    (case a_names => k_is)
    (case l_names => k_is)
    (case c_names => k_is)
    (case k_names => k_is)
    (case a_gateways => k_is)
    (case l_gateways => k_is)
    (case c_gateways => k_is)
    (case k_gateways => k_is)
    (case a_paths => k_is)
    (case l_paths => k_is)
    (case c_paths => k_is)
    (case k_paths => k_is)
    (case a_wrapping => k_is)
    (case l_wrapping => k_is)
    (case c_wrapping => k_is)
    (case k_wrapping => k_is)
    (case a_groups => k_is)
    (case l_groups => k_is)
    (case c_groups => k_is)
    (case k_groups => k_is)
    (case a_is_cycle => k_is)
    (case l_is_cycle => k_is)
    (case c_is_cycle => k_is)
    (case k_is_cycle => k_is)
    (case a_on_cycle => k_is)
    (case l_on_cycle => k_is)
    (case c_on_cycle => k_is)
    (case k_on_cycle => k_is)
    (case a_sides_right => k_is)
    (case l_sides_right => k_is)
    (case c_sides_right => k_is)
    (case k_sides_right => k_is)
    (case a_tree => k_is)
    (case l_tree => k_is)
    (case c_tree => k_is)
    (case k_tree => k_is)
    (case a_tree_right => k_is)
    (case l_tree_right => k_is)
    (case c_tree_right => k_is)
    (case k_tree_right => k_is)
    (case a_law => k_is)
    (case l_law => k_is)
    (case c_law => k_is)
    (case k_law => k_is)
    (case z_len => k_is)
    (case z_abs => k_is)
    (case z_int => k_is)
    (case z_range => k_is)
    (case z_list => k_is)
    (case z_tuple => k_is)
    (case z_sorted => k_is)
    (case z_min => k_is)
    (case z_max => k_is)
    (case z_all => k_is)
    (case z_repr => k_is)
    (case z_dict => k_is)
    (case z_enumerate => k_is)
    (case z_zip => k_is)
    (case z_set => k_is)
    (case z_any => k_is)
