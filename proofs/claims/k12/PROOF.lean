import PyProof.Rows.All
import Wide.All
import OpenK.AllK
import Wide.FinOn
import HandS.Base
import HandS.Call
import HandS.List
import HandS.Dict
import HandS.Words
import PyProof.Rows.ReprR
import HandS.Ends
import HandS.Exc
import HandS.ExcInit
import HandS.ExcIs
import KE.KExcIs
import HandS.ExcValue
import PyProof.ListStr
import HandS.ForMost
import HandS.Conv
import HandS.Walk
import HandS.Style
import KE.SortData
import PyProof.ReprLen
import HandS.Defaults
import KE.GoesEnum
import HandS.Iter
import KE.DataMinKey
import KE.DataMinMax
import KE.KDictZip
import KE.GoesMore
import HandS.Zip
import PyProof.CollectIter
import PyProof.TupleOfGen
import HandS.Keys
import HandS.TupAny
import HandS.Strs
import KE.GoesZip
import HandS.IsInst
import PyProof.Rows.RuleIs
import PySem.Challenge.RW_wraptrails_k12_girths_and_shortest_cycle
set_option Elab.async false
set_option linter.all false
set_option maxRecDepth 100000
set_option maxHeartbeats 4000000
/-! repr of data: lists, tuples and dicts within one another. -/
namespace WT
open PySem
mutual
/-- the value v of the heap h is the data d; no dict of it is the one of all modules -/
inductive Sh (h : Heap) : Value → PyData → Prop
  | none : Sh h .none .none
  | bool (b) : Sh h (.bool b) (.bool b)
  | int (i t) : Sh h (.int i t) (.int i)
  | str (x t) : Sh h (.str x t) (.str x)
  | list {a o vs n xs} : h.get? a = some o → o.cls = .type "list" → o.data = .seq vs n → ShAll h vs.toList xs → Sh h (.ref a) (.list xs)
  | tuple {a o vs n xs} : h.get? a = some o → o.cls = .type "tuple" → o.data = .seq vs n → ShAll h vs.toList xs → Sh h (.ref a) (.tuple xs)
  | dict {a o es n ks vs} : h.get? a = some o → o.cls = .type "dict" → o.data = .dict es n → (a == sysModules) = false → ks.length = vs.length → ShAll h (es.toList.map (·.key)) ks → ShAll h (es.toList.map (·.val)) vs → Sh h (.ref a) (.dict (ks.zip vs))
inductive ShAll (h : Heap) : List Value → List PyData → Prop
  | nil : ShAll h [] []
  | cons {v vs d ds} : Sh h v d → ShAll h vs ds → ShAll h (v :: vs) (d :: ds)
end
theorem zip1 {α β : Type} : ∀ (ks : List α) (vs : List β), ks.length = vs.length → (ks.zip vs).map (·.1) = ks
  | [], _, _ => rfl
  | k :: ks, [], h => by cases h
  | k :: ks, v :: vs, h => by
    show k :: (ks.zip vs).map (·.1) = k :: ks
    rw [zip1 ks vs (Nat.succ.inj h)]
theorem zip2 {α β : Type} : ∀ (ks : List α) (vs : List β), ks.length = vs.length → (ks.zip vs).map (·.2) = vs
  | [], [], _ => rfl
  | [], v :: vs, h => by cases h
  | k :: ks, [], h => by cases h
  | k :: ks, v :: vs, h => by
    show v :: (ks.zip vs).map (·.2) = v :: vs
    rw [zip2 ks vs (Nat.succ.inj h)]
mutual
theorem Sh.reads {h : Heap} : ∀ {v : Value} {d : PyData}, Sh h v d → ∃ as, Reads h v d as
  | _, _, .none => ⟨_, .none⟩
  | _, _, .bool b => ⟨_, .bool b⟩
  | _, _, .int i t => ⟨_, .int i t⟩
  | _, _, .str x t => ⟨_, .str x t⟩
  | _, _, .list h1 h2 h3 h4 => let ⟨_, q⟩ := ShAll.reads h4; ⟨_, .list h1 h2 h3 q⟩
  | _, _, .tuple h1 h2 h3 h4 => let ⟨_, q⟩ := ShAll.reads h4; ⟨_, .tuple h1 h2 h3 q⟩
  | _, _, .dict (ks := ks) (vs := vs) h1 h2 h3 _ hl h4 h5 => by
    obtain ⟨_, q4⟩ := ShAll.reads h4
    obtain ⟨_, q5⟩ := ShAll.reads h5
    exact ⟨_, .dict h1 h2 h3 (by rw [zip1 ks vs hl]; exact q4) (by rw [zip2 ks vs hl]; exact q5)⟩
theorem ShAll.reads {h : Heap} : ∀ {vs : List Value} {ds : List PyData}, ShAll h vs ds → ∃ as, ReadsAll h vs ds as
  | _, _, .nil => ⟨_, .nil⟩
  | _, _, .cons r rs => let ⟨_, q⟩ := Sh.reads r; let ⟨_, q2⟩ := ShAll.reads rs; ⟨_, .cons q q2⟩
end
section
variable {prog : Program} {w : World} {h₀ : Heap}
mutual
theorem Sh.rk : ∀ {v : Value} {d : PyData}, Sh h₀ v d → d.showable = true → d.shown.length ≤ sizeLine → ∃ bs, ReadAtMost h₀ d.depth bs ∧ ReprK prog w bs h₀ d.depth v d.shown
  | _, _, .none, _, _ => ⟨[], fun _ z => (nomatch z), by rw [PyData.shown]; exact .of_is ReprIs.none _ _ _⟩
  | _, _, .bool b, _, _ => ⟨[], fun _ z => (nomatch z), by rw [PyData.shown]; exact .of_is (ReprIs.bool b) _ _ _⟩
  | _, _, .int i t, hs, _ => ⟨[], fun _ z => (nomatch z), by rw [PyData.shown]; exact .of_is (ReprIs.int t (by simpa [PyData.showable] using hs)) _ _ _⟩
  | _, _, .str x t, _, hz => ⟨[], fun _ z => (nomatch z), by rw [PyData.shown] at hz ⊢; exact .of_is (ReprIs.str x t hz) _ _ _⟩
  | _, _, .list (a := a) (vs := vs) (xs := xs) h1 h2 h3 h4, hs, hz => by
    rw [PyData.shown] at hz
    rw [PyData.showable] at hs
    obtain ⟨as, q4⟩ := ShAll.reads h4
    obtain ⟨bs, hb, hk⟩ := ShAll.rk h4 hs fun t ht => Nat.le_trans (listText_mem_le ht) hz
    have r : Reads h₀ (.ref a) (.list xs) (a :: as) := .list h1 h2 h3 q4
    have hna : a ∉ bs := not_mem_of_deeper r (by rw [PyData.depth]; omega) hb
    refine ⟨a :: bs, ReadAtMost.cons r (by rw [PyData.depth]; omega) hb, ?_⟩
    rw [PyData.depth, PyData.shown]
    obtain ⟨l⟩ := vs
    match l, h4, hk, h3 with
    | [], h4, _, h3 =>
      have h4' : ShAll h₀ [] xs := h4
      cases h4'
      rw [PyData.shownAll, listText_nil]
      exact ReprK.listEmpty h1 h2 h3
    | x :: l, _, hk, h3 => exact ReprK.list h1 h2 h3 hna (by simpa using hk.length_eq) fun i y e => hk.item i y (by simpa using e)
  | _, _, .tuple (a := a) (xs := xs) h1 h2 h3 h4, hs, hz => by
    rw [PyData.shown] at hz
    rw [PyData.showable] at hs
    obtain ⟨as, q4⟩ := ShAll.reads h4
    obtain ⟨bs, hb, hk⟩ := ShAll.rk h4 hs fun t ht => Nat.le_trans (tupleText_mem_le ht) hz
    have r : Reads h₀ (.ref a) (.tuple xs) as := .tuple h1 h2 h3 q4
    have hna : a ∉ bs := not_mem_of_deeper r (by rw [PyData.depth]; omega) hb
    refine ⟨a :: bs, ReadAtMost.cons r (by rw [PyData.depth]; omega) hb, ?_⟩
    rw [PyData.depth, PyData.shown]
    exact ReprK.tuple h1 h2 h3 hna hk
  | _, _, .dict (a := a) (es := es) (ks := ks) (vs := vs) h1 h2 h3 hsys hl h4 h5, hs, hz => by
    rw [PyData.shown] at hz
    rw [PyData.showable] at hs
    obtain ⟨as, q4⟩ := ShAll.reads h4
    obtain ⟨cs, q5⟩ := ShAll.reads h5
    have e1 := zip1 ks vs hl
    have e2 := zip2 ks vs hl
    obtain ⟨hs1, hs2⟩ := PyData.showableKv_split (ks.zip vs) hs
    rw [e1] at hs1
    rw [e2] at hs2
    obtain ⟨b1, hb1, k1⟩ := ShAll.rk h4 hs1 fun t ht => by
      obtain ⟨p, hp, hle⟩ := PyData.shownKv_key_le (ks.zip vs) t (by rw [e1]; exact ht)
      exact Nat.le_trans hle (Nat.le_trans (dictText_mem_le hp) hz)
    obtain ⟨b2, hb2, k2⟩ := ShAll.rk h5 hs2 fun t ht => by
      obtain ⟨p, hp, hle⟩ := PyData.shownKv_val_le (ks.zip vs) t (by rw [e2]; exact ht)
      exact Nat.le_trans hle (Nat.le_trans (dictText_mem_le hp) hz)
    have d1 := PyData.depthAll_keys_le (ks.zip vs)
    have d2 := PyData.depthAll_vals_le (ks.zip vs)
    rw [e1] at d1
    rw [e2] at d2
    have r : Reads h₀ (.ref a) (.dict (ks.zip vs)) (a :: as ++ cs) := .dict h1 h2 h3 (by rw [e1]; exact q4) (by rw [e2]; exact q5)
    have hb : ReadAtMost h₀ (PyData.depthKv (ks.zip vs)) (b1 ++ b2) := (hb1.mono d1).append (hb2.mono d2)
    have hna : a ∉ b1 ++ b2 := not_mem_of_deeper r (by rw [PyData.depth]; omega) hb
    refine ⟨a :: (b1 ++ b2), ReadAtMost.cons r (by rw [PyData.depth]; omega) hb, ?_⟩
    rw [PyData.depth, PyData.shown, PyData.shownKv_eq, e1, e2]
    exact ReprK.dict h1 h2 h3 hsys hna (ReprEntriesK.of_two es.toList _ _
      (k1.more_le (fun b hb => List.mem_append_left _ hb) d1) (k2.more_le (fun b hb => List.mem_append_right _ hb) d2))
theorem ShAll.rk : ∀ {vs : List Value} {ds : List PyData}, ShAll h₀ vs ds → PyData.showableAll ds = true → (∀ t ∈ PyData.shownAll ds, t.length ≤ sizeLine) →
    ∃ bs, ReadAtMost h₀ (PyData.depthAll ds) bs ∧ ReprAllK prog w bs h₀ (PyData.depthAll ds) vs (PyData.shownAll ds)
  | _, _, .nil, _, _ => ⟨[], fun _ z => (nomatch z), by rw [PyData.shownAll]; exact .nil⟩
  | _, _, .cons (d := d) (ds := ds) r rs, hs, hz => by
    rw [PyData.showableAll, Bool.and_eq_true] at hs
    rw [PyData.shownAll] at hz
    obtain ⟨b1, hb1, k1⟩ := Sh.rk r hs.1 (hz _ List.mem_cons_self)
    obtain ⟨b2, hb2, k2⟩ := ShAll.rk rs hs.2 fun t ht => hz t (List.mem_cons_of_mem _ ht)
    rw [PyData.depthAll, PyData.shownAll]
    exact ⟨b1 ++ b2, (hb1.mono (Nat.le_max_left _ _)).append (hb2.mono (Nat.le_max_right _ _)),
      .cons ((k1.more fun b hb => List.mem_append_left _ hb).level_le (Nat.le_max_left _ _)) (k2.more_le (fun b hb => List.mem_append_right _ hb) (Nat.le_max_right _ _))⟩
end
variable {A : Around} {E : Value → Shared → Prop} {s : Shared} {Q : Value → Shared → Prop}
theorem Sh.repr {v : Value} {d : PyData} (r : Sh s.heap v d) (hs : d.showable = true) (hz : d.shown.length ≤ sizeLine) (hg : A.guards = some []) (hu : A.units + (d.depth + 1) < cLine)
    (hQ : ∀ h' u tk, (∀ b o, s.heap.get? b = some o → h'.get? b = some o) → Q (.str d.shown u) { s with heap := h', toks := tk }) : wpAny (model prog w) A (call (.builtin "repr") [v]) Q E s := by
  have hid : ∀ b o, s.heap.get? b = some o → s.heap.get? b = some o := fun _ _ z => z
  cases r with
  | none =>
    rw [PyData.shown] at hQ
    exact PySem.P.repr_of_none (hQ s.heap _ _ hid)
  | bool b =>
    rw [PyData.shown] at hQ
    exact PySem.P.repr_of_bool (hQ s.heap _ _ hid)
  | int i t =>
    rw [PyData.shown] at hQ
    exact PySem.P.repr_of_int (by simpa [PyData.showable] using hs) (hQ s.heap _ _ hid)
  | str x t =>
    rw [PyData.shown] at hQ hz
    exact PySem.P.repr_of_str (hQ s.heap _ _ hid) hz
  | list h1 h2 h3 h4 =>
    rename_i a o vs n xs
    rw [PyData.shown] at hz hQ
    rw [PyData.showable] at hs
    rw [PyData.depth] at hu
    obtain ⟨as, q4⟩ := ShAll.reads h4
    obtain ⟨bs, hb, hk⟩ := ShAll.rk (prog := prog) (w := w) h4 hs fun t ht => Nat.le_trans (listText_mem_le ht) hz
    have hna : a ∉ bs := not_mem_of_deeper (.list h1 h2 h3 q4) (by rw [PyData.depth]; omega) hb
    refine call_repr_slot (by omega) ⟨o, h1, h2⟩ F.slot_list_repr.toG ?_
    obtain ⟨l⟩ := vs
    match l, h4, hk, h3 with
    | [], h4, _, h3 =>
      have h4' : ShAll s.heap [] xs := h4
      cases h4'
      rw [PyData.shownAll, listText_nil] at hQ
      exact call_list_repr_empty ⟨o, h1, h2⟩ h1 h3 ⟨_, _, rfl, hQ s.heap _ _ hid⟩
    | x :: l, _, hk, h3 =>
      exact call_list_reprK h1 h2 h3 hna (by simpa using hk.length_eq) (fun i y e => hk.item i y (by simpa using e)) hg (fun b _ => Clear.nil b) (by show A.units + 1 + _ < cLine; omega) hid (fun h' u tk hk => ⟨_, _, rfl, hQ h' u tk hk⟩) hz
  | tuple h1 h2 h3 h4 =>
    rename_i a o vs n xs
    rw [PyData.shown] at hz hQ
    rw [PyData.showable] at hs
    rw [PyData.depth] at hu
    obtain ⟨as, q4⟩ := ShAll.reads h4
    obtain ⟨bs, hb, hk⟩ := ShAll.rk (prog := prog) (w := w) h4 hs fun t ht => Nat.le_trans (tupleText_mem_le ht) hz
    have hna : a ∉ bs := not_mem_of_deeper (.tuple h1 h2 h3 q4) (by rw [PyData.depth]; omega) hb
    refine call_repr_slot (by omega) ⟨o, h1, h2⟩ F.slot_tuple_repr ?_
    exact call_tuple_reprK h1 h2 h3 hna hk hg (fun b _ => Clear.nil b) (by show A.units + 1 + _ < cLine; omega) hid (fun h' u tk hk => ⟨_, _, rfl, hQ h' u tk hk⟩) hz
  | dict h1 h2 h3 hsys hl h4 h5 =>
    rename_i a o es n ks vs
    rw [PyData.shown] at hz hQ
    rw [PyData.showable] at hs
    rw [PyData.depth] at hu
    obtain ⟨as, q4⟩ := ShAll.reads h4
    obtain ⟨cs, q5⟩ := ShAll.reads h5
    have e1 := zip1 ks vs hl
    have e2 := zip2 ks vs hl
    obtain ⟨hs1, hs2⟩ := PyData.showableKv_split (ks.zip vs) hs
    rw [e1] at hs1
    rw [e2] at hs2
    obtain ⟨b1, hb1, k1⟩ := ShAll.rk (prog := prog) (w := w) h4 hs1 fun t ht => by
      obtain ⟨p, hp, hle⟩ := PyData.shownKv_key_le (ks.zip vs) t (by rw [e1]; exact ht)
      exact Nat.le_trans hle (Nat.le_trans (dictText_mem_le hp) hz)
    obtain ⟨b2, hb2, k2⟩ := ShAll.rk (prog := prog) (w := w) h5 hs2 fun t ht => by
      obtain ⟨p, hp, hle⟩ := PyData.shownKv_val_le (ks.zip vs) t (by rw [e2]; exact ht)
      exact Nat.le_trans hle (Nat.le_trans (dictText_mem_le hp) hz)
    have d1 := PyData.depthAll_keys_le (ks.zip vs)
    have d2 := PyData.depthAll_vals_le (ks.zip vs)
    rw [e1] at d1
    rw [e2] at d2
    have hb : ReadAtMost s.heap (PyData.depthKv (ks.zip vs)) (b1 ++ b2) := (hb1.mono d1).append (hb2.mono d2)
    have hna : a ∉ b1 ++ b2 := not_mem_of_deeper (.dict h1 h2 h3 (by rw [e1]; exact q4) (by rw [e2]; exact q5)) (by rw [PyData.depth]; omega) hb
    rw [PyData.shownKv_eq, e1, e2] at hQ hz
    refine call_repr_slot (by omega) ⟨o, h1, h2⟩ F.slot_dict_repr ?_
    exact call_dict_reprK h1 h2 h3 hsys hna (ReprEntriesK.of_two es.toList _ _ (k1.more_le (fun b hb => List.mem_append_left _ hb) d1) (k2.more_le (fun b hb => List.mem_append_right _ hb) d2)) hg (fun b _ => Clear.nil b)
      (by show A.units + 1 + _ < cLine; omega) hid (fun h' u tk hk => ⟨_, _, rfl, hQ h' u tk hk⟩) hz
end
end WT

set_option Elab.async false
set_option linter.all false
set_option maxRecDepth 100000
set_option maxHeartbeats 4000000
/-! Defs that may ask repr of lists: called where no repr is under way (the guards are told to be empty). -/
namespace WT
open PySem PySem.Spec PyProof.Rows L2
structure FnG (P : Program) (w : World) (K : PySem.W.Frag) (mg : Str → Option Value) (base : Heap) (cx : CXT) (k : Nat) (f : Addr) (fd : FuncData) (ps : List Str) (sp : Sp) : Prop where
  len : ∀ vs H Q E, sp vs H Q E → vs.length = ps.length
  run : ∀ (A : Around) (outer : List Env) (s : Shared) (H : Hp) (args : Args) (us : List Value) (vs : List V) (Q : VK) (E : XK), A.guards = some [] → Room k A → Env0 P w K mg base A outer s H →
    BindsTo s fd args (ps.zip us) → Vals vs us → sp vs H Q E → codeAny (model P w) A (.call (.ref f) args) (CR cx outer P w H s Q E) s
section
variable {P : Program} {w : World} {K : PySem.W.Frag} {mg : Str → Option Value} {base : Heap} {cx : CXT} {j k : Nat} {f : Addr} {fd : FuncData} {ps : List Str} {sp sp' : Sp}
theorem FnG.of (G : FnOk P w K mg base cx k f fd ps sp) : FnG P w K mg base cx k f fd ps sp := ⟨G.len, fun A o s H a us vs Q E _ => G.run A o s H a us vs Q E⟩
theorem FnG.mono (G : FnG P w K mg base cx j f fd ps sp) (h : j ≤ k) : FnG P w K mg base cx k f fd ps sp :=
  ⟨G.len, fun A o s H a us vs Q E g hr => G.run A o s H a us vs Q E g (hr.mono h)⟩
theorem FnG.imp (G : FnG P w K mg base cx k f fd ps sp) (h : ∀ vs H Q E, sp' vs H Q E → sp vs H Q E) : FnG P w K mg base cx k f fd ps sp' :=
  ⟨fun vs H Q E q => G.len vs H Q E (h _ _ _ _ q), fun A o s H a us vs Q E g hr e hb hv hs => G.run A o s H a us vs Q E g hr e hb hv (h _ _ _ _ hs)⟩
/-- a def by its body -/
theorem fnG_of {name qual : Str} {params : Arguments} {body : List Stmt} {scope : Scope} {dV kV doc pm cdv ct oc : Value} {an od : Option Addr} {osl : Array (Option Value)} {N : List Str}
    (lk : K.lookup f = some ⟨oc, od, .func (PySem.W.fnOf name qual params body scope dV kV doc pm an cdv ct), osl⟩) (hcd : PySem.W.codeIn K cdv qual = true) (S : FnScope N ps scope)
    (hlen : ∀ vs H Q E, sp vs H Q E → vs.length = ps.length)
    (hbody : ∀ (A : Around) (outer : List Env) (s : Shared) (H : Hp) (vs : List V) (Q : VK) (E : XK), A.guards = some [] → Room k (A.deeper (envOfC qual scope s.heap.objs.size f cdv)) → sp vs H Q E →
      ∃ t, PSs (cxOf cx P w K mg base N qual scope f cdv A outer s H E) body t ∧ t { nx := fun _ H' => Q .non H', rt := Q } (start N vs) H) :
    FnG P w K mg base cx (k + 1) f (PySem.W.fnOf name qual params body scope dV kV doc pm an cdv ct) ps sp := by
  refine ⟨hlen, fun A outer s H args us vs Q E hgd hr e0 hb r hsp => ?_⟩
  have up : ∀ b o, base.get? b = some o → s.heap.get? b = some o := fun b o z => (e0.bs b o z).1
  have kin : K.In s.heap := e0.mod.kin.keeps up
  have lim : s.heap.NoLimit := e0.mod.nolimit.keeps up
  have kinds : ∀ y ∈ ps.zip us, scope.names.lookup y.1 = some .local ∨ (scope.names.lookup y.1 = some .cell ∧ ((cellsFrom (s.heap.objs.size + 1) scope.names []).lookup y.1).isSome = true) := by
    intro y hy
    obtain ⟨n, v⟩ := y
    exact (S.par n (List.of_mem_zip hy).1).imp id fun q => ⟨q, PySem.W.cellsFrom_some _ _ _ (.inl q)⟩
  refine codeAny_call_function hr.depth (kin _ _ lk) rfl S.co S.gen rfl (PySem.W.codeRec_of kin hcd) (hb _ _ _ _ ?_)
  refine wpAny_newFunctionEnv_cells S.kind kinds fun env he s1 y => ?_
  subst he
  refine ⟨lim.keeps y.toInCall.keep, codeAny_func ?_⟩
  obtain ⟨t, ht, hq⟩ := hbody A outer s H vs Q E hgd (hr.deeper _) hsp
  have J : Inv (cxOf cx P w K mg base N qual scope f cdv A outer s H E) [] (start N vs) H s1 := inv_start S hr.hd e0 (hlen _ _ _ _ hsp) r y
  refine wpAny_mono (ht.run [] s1 (start N vs) H _ J hq) (fun fl s' hs => ?_) fun e s' hs => hs
  cases fl with
  | ret u =>
    obtain ⟨v, σ', H', J', rv, q⟩ := hs
    exact ⟨v, H', J'.os, J'.bare, J'.base, J'.hok, rv, q⟩
  | next =>
    obtain ⟨σ', H', J', q⟩ := hs
    exact ⟨V.non, H', J'.os, J'.bare, J'.base, J'.hok, rfl, q⟩
  | brk =>
    obtain ⟨_, _, _, q⟩ := hs
    exact q.elim
  | cont =>
    obtain ⟨_, _, _, q⟩ := hs
    exact q.elim
/-- the body's rule for a def that lets nothing out -/
theorem okG {x qual : Str} {st : Stmt} {N : List Str} (F : Fun K x qual st f fd) (S : FnScope N ps (defScope st)) (hlen : ∀ vs H Q E, sp vs H Q E → vs.length = ps.length)
    (hbody : ∀ (cdv : Value) (A : Around) (outer : List Env) (s : Shared) (H : Hp) (vs : List V) (Q : VK) (E : XK), A.guards = some [] → Room k (A.deeper (envOfC qual (defScope st) s.heap.objs.size f cdv)) → sp vs H Q E →
      ∃ t, PSs (cxOf CX0 P w K mg base N qual (defScope st) f cdv A outer s H E).nox (defBody st) t ∧ t { nx := fun _ H' => Q .non H', rt := Q } (start N vs) H) : FnG P w K mg base CX0 (k + 1) f fd ps sp := by
  obtain ⟨oc, od, kV, doc, pm, an, cdv, ct, osl, rfl, lk, hcd⟩ := F.ex
  refine fnG_of lk hcd S hlen fun A outer s H vs Q E hgd hr hsp => ?_
  obtain ⟨t, h, q⟩ := hbody cdv A outer s H vs Q E hgd hr hsp
  exact ⟨t, h.nox, q⟩
/-- .. for one that may raise -/
theorem okGX {x qual : Str} {st : Stmt} {N : List Str} (F : Fun K x qual st f fd) (S : FnScope N ps (defScope st)) (hlen : ∀ vs H Q E, sp vs H Q E → vs.length = ps.length)
    (hbody : ∀ (cdv : Value) (A : Around) (outer : List Env) (s : Shared) (H : Hp) (vs : List V) (Q : VK) (E : XK), A.guards = some [] → Room k (A.deeper (envOfC qual (defScope st) s.heap.objs.size f cdv)) → sp vs H Q E →
      ∃ t, PSs (cxOf (L2.CX P w) P w K mg base N qual (defScope st) f cdv A outer s H E) (defBody st) t ∧ t { nx := fun _ H' => Q .non H', rt := Q } (start N vs) H) : FnG P w K mg base (L2.CX P w) (k + 1) f fd ps sp := by
  obtain ⟨oc, od, kV, doc, pm, an, cdv, ct, osl, rfl, lk, hcd⟩ := F.ex
  exact fnG_of lk hcd S hlen fun A outer s H vs Q E hgd hr hsp => hbody cdv A outer s H vs Q E hgd hr hsp
end
section
variable {X : Cx} {cx : CXT} {k : Nat} {f : Addr} {fd : FuncData} {ps : List Str} {sp : Sp} {E : XK} {x : Str} {p pos : Pos} {e : Expr} {es : List Expr} {t : TA}
theorem run_fnG {pins : List (Addr × Obj)} {σ : L2.St} {H : Hp} {s : Shared} {Q : VK} {us : List Value} {vs : List V} (hgd : X.A.guards = some []) (G : FnG X.prog X.w X.K X.mg X.base cx k f fd ps sp) (hr : Room k X.A) (hb : Binds X.K fd ps [])
    (hx : Passes cx X E) (I : Inv X pins σ H s) (r : Vals vs us) (h : sp vs H Q E) : wpAny (model X.prog X.w) X.A (call (.ref f) us) (EP X pins σ Q) X.xe s := by
  have hl : us.length = ps.length := (Vals.length r).symm.trans (G.len _ _ _ _ h)
  have hb' := hb s us I.kIn (by rw [List.append_nil]; exact hl)
  rw [List.append_nil] at hb'
  refine wpAny_call (codeAny_mono (G.run X.A X.stack s H ⟨us, []⟩ us vs Q E hgd hr I.env0 hb' r h) fun r s' hq => ?_)
  cases r with
  | error e => exact hx pins σ H s e s' I hq
  | ok fl =>
    cases fl with
    | ret u => exact I.after hq
    | next => exact hq.elim
    | brk => exact hq.elim
    | cont => exact hq.elim
/-- f(e, ..) -/
def tCallG (sp : Sp) (E : XK) (t : TA) : TE := fun σ H Q => t σ H fun vs H1 => sp vs H1 Q E
theorem pe_callG (hgd : X.A.guards = some []) (G : FnG X.prog X.w X.K X.mg X.base cx k f fd ps sp) (hr : Room k X.A) (hg : Gl X x) (hm : X.mg x = some (.ref f)) (hk : PySem.W.keepIn X.K (.ref f) = true) (hb : Binds X.K fd ps [])
    (hx : Passes cx X E) (ha : PA X (e :: es) t) (hdb : (x == ("__debug__" : Str)) = false := by decide) (he : starEach (e :: es) X.env = (false, eval e X.env) :: starEach es X.env := by rfl)
    (hpl : (backTo pos (starEach es X.env)).any (·.1) = false := by rfl) : PE X (.Call (.Name x p) (e :: es) [] pos) (tCallG sp E t) := by
  refine ⟨fun pins s σ H Q I h => ?_⟩
  refine wpAny_Call_Name_kw (ld_glob I hg hm ?_ hdb)
  exact PySem.W.callWith_K (h₀ := X.base) I.ok.mod.kin hk (thn (ha.run pos pins s σ H _ I h) fun us s1 ⟨vs, H1, I1, r, q⟩ => ⟨I1.kIn, run_fnG hgd G hr hb hx I1 r q⟩) he hpl
end
end WT

set_option Elab.async false
set_option linter.all false
set_option maxRecDepth 100000
set_option maxHeartbeats 4000000
namespace WT
open PySem PySem.Spec PyProof.Rows L2
def kD : Key → PyData
  | .inl i => .int i
  | .inr x => .str x
mutual
/-- data over the abstract heap, dicts among it -/
inductive Dt (K : PySem.W.Frag) (H : Hp) : V → PyData → Prop
  | non : Dt K H .non .none
  | bl (b : Bool) : Dt K H (.bl b) (.bool b)
  | int (i : Int) : Dt K H (.int i) (.int i)
  | str (x : Str) : Dt K H (.str x) (.str x)
  | lst {a : Addr} {xs : List V} {ds : List PyData} : SqL K H a xs → DtAll K H xs ds → Dt K H (.ref a) (.list ds)
  | tup {a : Addr} {xs : List V} {ds : List PyData} : SqT K H a xs → DtAll K H xs ds → Dt K H (.ref a) (.tuple ds)
  | dic {a : Addr} {kvs : List (Key × V)} {ds : List PyData} : Rd H a (.dK kvs) → DtAll K H (kvs.map (·.2)) ds → Dt K H (.ref a) (.dict ((kvs.map fun p => kD p.1).zip ds))
inductive DtAll (K : PySem.W.Frag) (H : Hp) : List V → List PyData → Prop
  | nil : DtAll K H [] []
  | cons {v : V} {vs : List V} {d : PyData} {ds : List PyData} : Dt K H v d → DtAll K H vs ds → DtAll K H (v :: vs) (d :: ds)
end
theorem DtAll.length {K : PySem.W.Frag} {H : Hp} : ∀ {vs : List V} {ds : List PyData}, DtAll K H vs ds → vs.length = ds.length
  | _, _, .nil => rfl
  | _, _, .cons _ t => congrArg Nat.succ (DtAll.length t)
theorem sameT {K : PySem.W.Frag} {H H' : Hp} {a : Addr} {xs : List V} (e : Same H H') (h : SqT K H a xs) : SqT K H' a xs := by
  rcases h with (h | ⟨o, h⟩) | h
  · exact .inl (.inl (e _ _ h))
  · exact .inl (.inr ⟨o, e _ _ h⟩)
  · exact .inr h
theorem sameR {H H' : Hp} {a : Addr} {u : HO} (e : Same H H') (h : Rd H a u) : Rd H' a u := by
  rcases h with h | ⟨o, h⟩
  · exact .inl (e _ _ h)
  · exact .inr ⟨o, e _ _ h⟩
mutual
theorem Dt.same {K : PySem.W.Frag} {H H' : Hp} (s : Same H H') : ∀ {v : V} {d : PyData}, Dt K H v d → Dt K H' v d
  | _, _, .non => .non
  | _, _, .bl b => .bl b
  | _, _, .int i => .int i
  | _, _, .str x => .str x
  | _, _, .lst h t => .lst (s.seq h) (DtAll.same s t)
  | _, _, .tup h t => .tup (sameT s h) (DtAll.same s t)
  | _, _, .dic h t => .dic (sameR s h) (DtAll.same s t)
theorem DtAll.same {K : PySem.W.Frag} {H H' : Hp} (s : Same H H') : ∀ {vs : List V} {ds : List PyData}, DtAll K H vs ds → DtAll K H' vs ds
  | _, _, .nil => .nil
  | _, _, .cons h t => .cons (Dt.same s h) (DtAll.same s t)
end
section
variable {X : Cx} {pins : List (Addr × Obj)} {σ : L2.St} {H : Hp} {s : Shared}
theorem pairs_sh {P : Program} {w : World} {h : Heap} : ∀ {es : List DictEntry} {kvs : List (Key × V)} {us : List (Key × Value)}, KV kvs us → Pairs (mixKind P w) es us → ShAll h (es.map (·.key)) (kvs.map fun p => kD p.1)
  | _, _, _, .nil, .nil => .nil
  | _, _, _, .cons r rs, .cons h1 _ hs => by
    refine .cons ?_ (pairs_sh rs hs)
    rcases keyIs_shape h1 with ⟨i, t, e1, e2⟩ | ⟨x, t, e1, e2⟩
    · dsimp only
      rw [e2, r.1, e1]
      exact .int i t
    · dsimp only
      rw [e2, r.1, e1]
      exact .str x t
theorem pairs_vals {P : Program} {w : World} : ∀ {es : List DictEntry} {kvs : List (Key × V)} {us : List (Key × Value)}, KV kvs us → Pairs (mixKind P w) es us → Vals (kvs.map (·.2)) (es.map (·.val))
  | _, _, _, .nil, .nil => .nil
  | _, _, _, .cons r rs, .cons _ h2 hs => .cons (by dsimp only; rw [h2]; exact r.2) (pairs_vals rs hs)
mutual
theorem Dt.sh (I : Inv X pins σ H s) : ∀ {v : V} {d : PyData} {u : Value}, Dt X.K H v d → RelV v u → Sh s.heap u d
  | _, _, _, .non, r => by
    cases r
    exact .none
  | _, _, _, .bl b, r => by
    cases r
    exact .bool b
  | _, _, _, .int i, r => by
    obtain ⟨t, rfl⟩ := r
    exact .int i t
  | _, _, _, .str x, r => by
    obtain ⟨t, rfl⟩ := r
    exact .str x t
  | _, _, _, .lst h t, r => by
    cases r
    obtain ⟨its, rv, ⟨o, n, ho, hc, _, hd⟩, _⟩ := I.list h
    exact .list ho hc hd (DtAll.sh I t rv)
  | _, _, _, .tup h t, r => by
    cases r
    obtain ⟨its, rv, ⟨o, ho, hc, n, hd⟩, _⟩ := I.tuple h
    exact .tuple ho hc hd (DtAll.sh I t rv)
  | _, _, _, .dic (kvs := kvs) (ds := ds) h t, r => by
    cases r
    obtain ⟨_, hsys, us, rel, o, es, ep, ho, hx, hd, _, hp, _⟩ := dk_rd I.hok h
    refine .dict ho hx.1 hd hsys ?_ (pairs_sh rel hp) (DtAll.sh I t (pairs_vals rel hp))
    rw [List.length_map, ← DtAll.length t, List.length_map]
theorem DtAll.sh (I : Inv X pins σ H s) : ∀ {vs : List V} {ds : List PyData} {us : List Value}, DtAll X.K H vs ds → Vals vs us → ShAll s.heap us ds
  | _, _, _, .nil, r => by
    cases r
    exact .nil
  | _, _, _, .cons h t, .cons r rs => .cons (Dt.sh I h r) (DtAll.sh I t rs)
end
/-- repr(x) -/
def rRepr (K : PySem.W.Frag) : List V → Hp → VK → Prop := fun xs H Q => ∃ (x : V) (d : PyData), xs = [x] ∧ Dt K H x d ∧ d.showable = true ∧ d.depth ≤ 60 ∧ d.shown.length ≤ sizeLine ∧ Q (.str d.shown) H
theorem call_repr (hgd : X.A.guards = some []) (hu : X.A.units + 64 < cLine) : CallR X (.builtin "repr") (rRepr X.K) := by
  intro pins s σ H xs us Q I r h
  obtain ⟨x, d, rfl, hd, hs, hde, hz, q⟩ := h
  obtain ⟨u, rfl, ru⟩ := vals1 r
  refine Sh.repr (hd.sh I ru) hs hz hgd (by omega) fun h' t tk kp => ?_
  exact ⟨.str d.shown, H, I.kept (t' := tk) kp, ⟨t, rfl⟩, q⟩
end
end WT

set_option Elab.async false
set_option linter.all false
set_option maxRecDepth 100000
set_option maxHeartbeats 4000000
namespace WT
open PySem PySem.Spec PyProof.Rows L2
section
variable {X : Cx}
/-- a power of any size that fits -/
def CPowW (i j : Int) : Prop := 0 ≤ j ∧ (Builtin.Int.intBits i : Int) * j ≤ 2 ^ 27
theorem op_powW : OpR X (binaryOp .Pow) (rI CPowW fun i j => .int (i ^ j.toNat)) := opI fun _ _ _ _ _ _ _ hc q => pow_int hc.1 hc.2 q
theorem big_pow : CPowW ((10 : Int) ^ (60 : Int).toNat) 5 := ⟨by decide, by decide +kernel⟩
end
end WT

set_option Elab.async false
set_option linter.all false
set_option maxRecDepth 100000
set_option maxHeartbeats 4000000
/-! Errors of the program held as values: made (by place, by name), asked for their class, their fields read. -/
namespace WT
open PySem PySem.W PySem.Calls PyProof.Rows PySem.HandSPX
section
variable {prog : Program} {w : World} {A : Around} {E : Value → Shared → Prop} {R : Result → Shared → Prop} {hp : Heap} {gs : Array GenState} {dr : Drawn} {tn : Nat} {os : OsState}
variable {nm q : Str} {C N : Addr} {bs bm : List Value} {hdct : Bool} {sn : List Str} {sub : List Value} {ab : Bool} {col : Option Bool} {dd : Option Addr} {k0 k1 k2 k3 k5 : Option Value}
abbrev VEo (nm q : Str) (C N : Addr) (bs bm : List Value) (hdct : Bool) (sn : List Str) (sub : List Value) (ab : Bool) (col : Option Bool) (dd : Option Addr) (k0 k1 k2 k3 k5 : Option Value) : Obj :=
  excClassObj nm q C N bs bm hdct sn sub ab col dd k0 k1 k2 k3 k5 "ValueError.__new__"
theorem vt_has (hb : refsVE bm = true) (T : String) : (Value.ref C :: bm).contains (.type T) = veTail.contains (.type T) := by
  rw [List.contains_cons, refsVE_contains T bm hb]
  rfl
theorem ck_newK (hb : refsVE bm = true) {us : List Value} {kw : List (Str × Value)} {Q : Unit → Shared → Prop} (hC : hp.get? C = some (VEo nm q C N bs bm hdct sn sub ab col dd k0 k1 k2 k3 k5)) (hq : Q () ⟨hp, gs, dr, tn, os⟩) :
    wpAny (model prog w) A (checkBuiltinCall "ValueError.__new__" ⟨.ref C :: us, kw⟩) Q E ⟨hp, gs, dr, tn, os⟩ := by
  have F := F.excBase_ValueError
  have c1 : (Value.ref C :: bm).contains (.type "ValueError") = true := (vt_has hb _).trans (by decide +kernel)
  have c2 := F.noStar
  simp only [checkBuiltinCall, F.newKind, F.newSplit, F.newRow]
  repeat (first
    | refine wpAny_loadPart_at hC ?_
    | (refine wpAny_isSubtype_exc hC ?_; rw [c1])
    | refine wpAny_staticBase_exc hC ?_
    | refine wpAny_madeBy_exc hC ?_
    | simp only [bne_self_eq_false, Bool.false_eq_true, if_false]
    | wp_step)
  exact hq
theorem newK (hb : refsVE bm = true) {us : List Value} {kw : List (Str × Value)} (hC : hp.get? C = some (VEo nm q C N bs bm hdct sn sub ab col dd k0 k1 k2 k3 k5)) (hus : us.length ≤ sizeLine)
    (hq : R (.ok (.ret (.ref (hp.objs.size + 1)))) ⟨(hp.push (kdv_tup us)).push (excO C hp.objs.size), gs, dr, tn, os⟩) :
    codeAny (model prog w) A (.builtin "ValueError.__new__" ⟨.ref C :: us, kw⟩) R ⟨hp, gs, dr, tn, os⟩ := by
  have F := F.excBase_ValueError
  have c0 := F.ends
  have c1 : (Value.ref C :: bm).contains (.type "ValueError") = true := (vt_has hb _).trans (by decide +kernel)
  have c2 : (Value.ref C :: bm).contains (.type "AttributeError") = false := (vt_has hb _).trans (by decide +kernel)
  have c3 : (Value.ref C :: bm).contains (.type "NameError") = false := (vt_has hb _).trans (by decide +kernel)
  refine codeAny_builtinAt F.entry ?_
  unfold Builtin.«BaseException.__new__»
  refine PySem.wpAt_bind ?_
  show PySem.wpAt _ _ _ (stack >>= _) _ _ _
  refine PySem.wpAt_bind (PySem.wpAt_stack fun pp bl => PySem.wpAt_of_wpAny ?_)
  wp_walk
  refine PySem.wpAt_of_wpAny ?_
  rw [F.owner]
  repeat (first
    | with_reducible refine wpAny_madeHere_exc F.canon hC ?_
    | with_reducible refine wpAny_loadPart_at hC ?_
    | (with_reducible refine wpAny_isSubtype_exc hC ?_; first | rw [c1] | rw [c2] | rw [c3])
    | wp_step)
  show R _ _
  rw [Heap.size_push]
  exact hq
theorem tcallK (hb : refsVE bm = true) {us : List Value} {kw : List (Str × Value)} {fI : Addr} {Q : PySem.Fin → Shared → Prop} (hC : hp.get? C = some (VEo nm q C N bs bm hdct sn sub ab col dd k0 k1 k2 k3 k5))
    (hi : Looks (model prog w) hp (typeLookup (.ref C) "__init__") (some (.ref fI))) (hbd : ∀ z, Looks (model prog w) hp (bindSpecial (.ref fI) z) (.ref fI, [z])) (hus : us.length ≤ sizeLine)
    (hq : codeAny (model prog w) A (.call (.ref fI) ⟨.ref (hp.objs.size + 1) :: us, kw⟩)
      (fun r s' => match r with | .ok (.ret v) => v = .none ∧ Q (.done (.ret (.ref (hp.objs.size + 1)))) s' | .ok _ => False | .error e => E e s')
      ⟨(hp.push (kdv_tup us)).push (excO C hp.objs.size), gs, dr, tn, os⟩) :
    wpAny (model prog w) A (Builtin.«type.__call__» ⟨.ref C :: us, kw⟩) Q E ⟨hp, gs, dr, tn, os⟩ := by
  have F := F.excBase_ValueError
  repeat (first
    | with_reducible refine wpAny_loadPart_at hC ?_
    | with_reducible refine wpAny_madeBy_exc hC ?_
    | wp_step)
  refine codeAny_call_builtin_code (Code.quiet_builtin _ F.quiet) (ck_newK hb hC ?_)
  refine newK hb hC hus ?_
  show wpAny _ _ _ _ _ _
  have kp : ∀ b o, hp.get? b = some o → ((hp.push (kdv_tup us)).push (excO C hp.objs.size)).get? b = some o :=
    fun b o z => Heap.get?_push_of_some _ (Heap.get?_push_of_some _ z)
  have hC1 := kp _ _ hC
  have hg : ((hp.push (kdv_tup us)).push (excO C hp.objs.size)).get? (hp.objs.size + 1) = some (excO C hp.objs.size) := by
    heap_get
  have cC : (Value.ref C :: bm).contains (.ref C) = true := by simp
  have i1 := hi.keeps kp
  have b1 := (hbd (.ref (hp.objs.size + 1))).keeps kp
  unfold isInstance
  repeat (first
    | with_reducible refine wpAny_loadPart_at hg ?_
    | (with_reducible refine wpAny_isSubtype_exc hC1 ?_; rw [cC])
    | wp_step)
  show wpAny _ _ (typeLookup (.ref C) _) _ _ _
  refine i1.at (wpAny_holding (wpAny_bind (b1.at ?_)))
  refine wpAny_bind (wpAny_call (codeAny_mono hq fun r s' z => ?_))
  rcases r with e | (v | _ | _ | _) <;> first | exact z | exact z.elim | skip
  obtain ⟨rfl, z⟩ := z
  first
    | exact wpAny_pure (wpAny_pure z)
    | (wp_walk; exact z)
theorem ck_callK {us : List Value} {kw : List (Str × Value)} {Q : Unit → Shared → Prop} (hC : hp.get? C = some (VEo nm q C N bs bm hdct sn sub ab col dd k0 k1 k2 k3 k5)) (hq : Q () ⟨hp, gs, dr, tn, os⟩) :
    wpAny (model prog w) A (checkBuiltinCall "type.__call__" ⟨.ref C :: us, kw⟩) Q E ⟨hp, gs, dr, tn, os⟩ := by
  have f3 := tc_sub
  have ht : (⟨hp, gs, dr, tn, os⟩ : Shared).TypeIs (.ref C) "type" := ⟨_, hC, rfl⟩
  simp only [checkBuiltinCall, tc_kind, tc_split]
  repeat (any_goals (first
    | assumption
    | with_reducible refine wpAny_loadPart_at hC ?_
    | with_reducible refine wpAny_onRaise ?_
    | with_reducible refine wpAny_map ?_
    | wp_step))
theorem ownK (hb : refsVE bm = true) {us : List Value} {kw : List (Str × Value)} {fI : Addr} (hC : hp.get? C = some (VEo nm q C N bs bm hdct sn sub ab col dd k0 k1 k2 k3 k5))
    (hi : Looks (model prog w) hp (typeLookup (.ref C) "__init__") (some (.ref fI))) (hbd : ∀ z, Looks (model prog w) hp (bindSpecial (.ref fI) z) (.ref fI, [z])) (hus : us.length ≤ sizeLine)
    (hq : codeAny (model prog w) (A.under (.builtin "type.__call__" ⟨.ref C :: us, kw⟩)) (.call (.ref fI) ⟨.ref (hp.objs.size + 1) :: us, kw⟩) (InitBack (hp.objs.size + 1) R)
      ⟨(hp.push (kdv_tup us)).push (excO C hp.objs.size), gs, dr, tn, os⟩) :
    codeAny (model prog w) A (.call (.ref C) ⟨us, kw⟩) R ⟨hp, gs, dr, tn, os⟩ := by
  have f1 := tc_lookup
  have f2 := tc_bind (.ref C)
  have ht : (⟨hp, gs, dr, tn, os⟩ : Shared).TypeIs (.ref C) "type" := ⟨_, hC, rfl⟩
  refine codeAny_of_tree ?_
  show wpAny _ _ (callAny (.ref C) _) _ _ _
  repeat (any_goals (first
    | assumption
    | with_reducible refine wpAny_loadPart_at hC ?_
    | wp_step))
  refine ⟨rfl, ?_⟩
  refine codeAny_call_builtin_at (Code.quiet_builtin _ (by decide +kernel)) entry_typeCall (ck_callK hC ?_)
  refine tcallK hb hC hi hbd hus (codeAny_mono hq fun r s' z => ?_)
  rcases r with e | (v | _ | _ | _) <;> exact z
end
end WT

set_option Elab.async false
set_option linter.all false
set_option maxRecDepth 100000
set_option maxHeartbeats 4000000
namespace WT
open PySem PySem.Spec PyProof.Rows L2
/-- an error of the class at C stands at a; its fields -/
def Err (H : Hp) (a C : Addr) (fs : List (Str × V)) : Prop := (fs = [] ∧ H a = some (exo a C none)) ∨ ∃ d, H a = some (exo a C (some d)) ∧ H d = some (exd d fs)
theorem Err.same {H H' : Hp} {a C : Addr} {fs : List (Str × V)} (e : Err H a C fs) (s : Same H H') : Err H' a C fs := by
  rcases e with ⟨z, e⟩ | ⟨d, e1, e2⟩
  · exact .inl ⟨z, s _ _ e⟩
  · exact .inr ⟨d, s _ _ e1, s _ _ e2⟩
theorem same_new {H : Hp} {p : Addr} {o : HO} (h : H p = none) : Same H (upd H p o) := fun b x e => by
  rw [upd_ne (ne_of_none e h)]
  exact e
section
variable {X : Cx}
theorem run_err {CX : CXT} {C fI : Addr} {k : Nat} {fd : FuncData} {ps : List Str} {sp : Sp} {pins : List (Addr × Obj)} {σ : L2.St} {H : Hp} {s : Shared} {Q : VK} {us gus : List Value} {kw : List (Str × Value)} {vs : List V}
    (T : OexC X.K C) (iC : PySem.W.findIn X.K (.ref C) "__init__" = some (some (.ref fI))) (tI : PySem.W.typeIn X.K (.ref fI) = some (.type "function")) (G : FnOk X.prog X.w X.K X.mg X.base CX k fI fd ps sp) (hr : Room (k + 1) X.A)
    (hx : Passes CX X (fun _ _ _ => False)) (I : Inv X pins σ H s) (hus : us.length ≤ sizeLine) (hb : ∀ (s1 : Shared) (z : Value), X.K.In s1.heap → BindsTo s1 fd ⟨z :: us, kw⟩ (ps.zip (z :: gus))) (r : Vals vs gus)
    (h : ∀ a, H a = none → sp (.ref a :: vs) (upd H a (exo a C none)) (fun v H2 => v = .non ∧ Q (.ref a) H2) (fun _ _ _ => False)) :
    wpAny (model X.prog X.w) X.A (call (.ref C) us kw) (EP X pins σ Q) X.xe s := by
  obtain ⟨nm, q, N, bs, bm, sn, sub, ab, col, dd, k0, k1, k2, k3, k5, hC, hbm⟩ := T.cls
  obtain ⟨hp, g, dr, tk, os⟩ := s
  have z1 : hp.objs.size ≤ hp.objs.size + 1 := Nat.le_succ _
  have z2 := h (hp.objs.size + 1) (I.hok.fresh z1)
  have kp : ∀ b o, hp.get? b = some o → ((hp.push (PySem.W.kdv_tup us)).push (PySem.HandSPX.excO C hp.objs.size)).get? b = some o :=
    fun b o z => Heap.get?_push_of_some _ (Heap.get?_push_of_some _ z)
  have hg : ((hp.push (PySem.W.kdv_tup us)).push (PySem.HandSPX.excO C hp.objs.size)).get? (hp.objs.size + 1) = some (PySem.HandSPX.excO C hp.objs.size) := by
    heap_get
  have I2 : Inv X pins σ (upd H (hp.objs.size + 1) (exo (hp.objs.size + 1) C none)) ⟨(hp.push (PySem.W.kdv_tup us)).push (PySem.HandSPX.excO C hp.objs.size), g, dr, tk, os⟩ :=
    I.laid (t' := tk) (a := hp.objs.size + 1) (o := exo (hp.objs.size + 1) C none) kp z1 (exo_ok hg)
  have r2 : Vals (V.ref (hp.objs.size + 1) :: vs) (Value.ref (hp.objs.size + 1) :: gus) := .cons rfl r
  refine wpAny_call (ownK hbm (I.kIn _ _ hC) (PySem.W.looks_findIn I.kIn iC) (fun z => PySem.W.bind_fn I.kIn z tI) hus
    (codeAny_mono (G.run _ X.stack _ _ ⟨Value.ref (hp.objs.size + 1) :: us, kw⟩ (Value.ref (hp.objs.size + 1) :: gus) _ _ (fun _ _ _ => False) (hr.make C us kw) (I2.env0.make C us kw) (hb _ _ I2.kIn) r2 z2) fun r s' hq' => ?_))
  cases r with
  | error er => exact hx pins σ _ _ er s' I2 hq'
  | ok fl =>
    cases fl with
    | ret u =>
      obtain ⟨v, H', I3, rv, ev, q3⟩ := I2.after hq'
      subst ev
      exact ⟨rv, ⟨V.ref (hp.objs.size + 1), H', I3, rfl, q3⟩⟩
    | next => exact False.elim hq'
    | brk => exact False.elim hq'
    | cont => exact False.elim hq'
/-- C(e, ..): a new error, by its own __init__, which keeps sp -/
def tErr (C : Addr) (sp : Sp) (ta : TA) : TE := fun σ H Q => ta σ H fun vs H1 => vs.length ≤ 1000 ∧ ∀ a, H1 a = none → sp (.ref a :: vs) (upd H1 a (exo a C none)) (fun v H2 => v = .non ∧ Q (.ref a) H2) (fun _ _ _ => False)
theorem pe_err {CX : CXT} {x : Str} {C fI : Addr} {k : Nat} {fd : FuncData} {ps : List Str} {sp : Sp} {e : Expr} {es : List Expr} {ta : TA} {p pos : Pos} (T : OexC X.K C) (iC : PySem.W.findIn X.K (.ref C) "__init__" = some (some (.ref fI)))
    (tI : PySem.W.typeIn X.K (.ref fI) = some (.type "function")) (G : FnOk X.prog X.w X.K X.mg X.base CX k fI fd ps sp) (hr : Room (k + 1) X.A) (hb : Binds X.K fd ps []) (hx : Passes CX X (fun _ _ _ => False)) (hg : Gl X x)
    (hm : X.mg x = some (.ref C)) (ha : PA X (e :: es) ta) (hdb : (x == ("__debug__" : Str)) = false := by decide) (he : starEach (e :: es) X.env = (false, eval e X.env) :: starEach es X.env := by rfl)
    (hpl : (backTo pos (starEach es X.env)).any (·.1) = false := by rfl) : PE X (.Call (.Name x p) (e :: es) [] pos) (tErr C sp ta) := by
  refine ⟨fun pins s σ H Q I h => ?_⟩
  refine wpAny_Call_Name_kw (ld_glob I hg hm ?_ hdb)
  refine PySem.W.callWith_K (h₀ := X.base) I.ok.mod.kin T.kC (thn (ha.run pos pins s σ H _ I h) fun us s1 ⟨vs, H1, I1, r1, hz, q1⟩ => ⟨I1.kIn, ?_⟩) he hpl
  have hn : H1 (s1.heap.objs.size) = none := I1.hok.fresh (Nat.le_refl _)
  have hl : (V.ref s1.heap.objs.size :: vs).length = ps.length := G.len _ _ _ _ (q1 _ hn)
  refine run_err (us := us) (gus := us) (kw := []) T iC tI G hr hx I1 ?_ (fun s2 z X2 => ?_) r1 q1
  · rw [← Vals.length r1, sizeLine_eq]
    omega
  · have y := hb s2 (z :: us) X2 (by
      rw [List.append_nil, List.length_cons, ← Vals.length r1]
      exact hl)
    rw [List.append_nil] at y
    exact y
/-- C(k = v, ..) by names alone -/
def tErrK (C : Addr) (sp : Sp) (gV : List V → List V) (n : Nat) (tk : TA) : TE := fun σ H Q => tk σ H fun zs H1 => zs.length = n ∧ ∀ a, H1 a = none → sp (.ref a :: gV zs) (upd H1 a (exo a C none)) (fun v H2 => v = .non ∧ Q (.ref a) H2) (fun _ _ _ => False)
theorem pe_errK {CX : CXT} {x : Str} {C fI : Addr} {k n : Nat} {fd : FuncData} {ps ks : List Str} {sp : Sp} {kws : List Keyword} {tk : TA} {p pos : Pos} {gU : List Value → List Value} {gV : List V → List V} (T : OexC X.K C)
    (iC : PySem.W.findIn X.K (.ref C) "__init__" = some (some (.ref fI))) (tI : PySem.W.typeIn X.K (.ref fI) = some (.type "function")) (G : FnOk X.prog X.w X.K X.mg X.base CX k fI fd ps sp) (hr : Room (k + 1) X.A)
    (hb : ∀ (s1 : Shared) (z : Value) (ws : List Value), X.K.In s1.heap → ws.length = n → BindsTo s1 fd ⟨[z], ks.zip ws⟩ (ps.zip (z :: gU ws))) (hgr : ∀ {zs : List V} {ws : List Value}, Vals zs ws → zs.length = n → Vals (gV zs) (gU ws))
    (hx : Passes CX X (fun _ _ _ => False)) (hg : Gl X x) (hm : X.mg x = some (.ref C)) (hkw : PK X kws tk) (hall : (backToKw pos (keywordEach kws X.env)).all (·.1.isSome) = true := by rfl)
    (hks : (backToKw pos (keywordEach kws X.env)).filterMap (·.1) = ks := by rfl) (hdb : (x == ("__debug__" : Str)) = false := by decide)
    (hpl : ((backTo pos (starEach [] X.env)).any (·.1) || (backToKw pos (keywordEach kws X.env)).any (·.1.isNone)) = false := by rfl) : PE X (.Call (.Name x p) [] kws pos) (tErrK C sp gV n tk) := by
  refine ⟨fun pins s σ H Q I h => ?_⟩
  refine wpAny_Call_Name_kw (ld_glob I hg hm ?_ hdb)
  refine PySem.W.callWith_KW0 (h₀ := X.base) I.ok.mod.kin T.kC hall (thn (hkw.run pos pins s σ H _ I h) fun ws s1 ⟨zs, H1, I1, rz, hl, q1⟩ => ⟨I1.kIn, ?_⟩) hpl
  rw [hks]
  exact run_err (us := []) (gus := gU ws) (kw := ks.zip ws) T iC tI G hr hx I1 (Nat.zero_le _) (fun s2 z X2 => hb s2 z ws X2 ((Vals.length rz).symm.trans hl)) (hgr rz hl) q1
/-- what an own class without own __init__ says -/
def ErrBare (K : PySem.W.Frag) (C : Addr) : Prop := PySem.W.excIn K C PySem.HandSPX.veTail "ValueError.__new__" = true ∧ PySem.W.keepIn K (.ref C) = true
/-- C() without an __init__ of its own -/
def tErr0 (C : Addr) : TE := fun σ H Q => ∀ a, H a = none → Q (.ref a) (upd H a (exo a C none))
theorem pe_err0 {x : Str} {C : Addr} {p pos : Pos} (T : ErrBare X.K C) (hg : Gl X x) (hm : X.mg x = some (.ref C)) (hdb : (x == ("__debug__" : Str)) = false := by decide) : PE X (.Call (.Name x p) [] [] pos) (tErr0 C) := by
  refine ⟨fun pins s σ H Q I h => ?_⟩
  refine wpAny_Call_Name_kw (ld_glob I hg hm ?_ hdb)
  refine PySem.W.callWith_K0 I.kIn T.2 ?_
  obtain ⟨bm, N, nm, qn, bs, hdct, sn, sub, ab, col, dd, k0, k1, k2, k3, k5, mN, hC, hN, hni, TT⟩ := exc_obj I.kIn T.1
  obtain ⟨hp, g, dr, tk, os⟩ := s
  refine wpAny_call_exc_subT F.excBase_ValueError TT hC hN hni (fun h' a hm => ?_) (Nat.zero_le _)
  obtain ⟨t, ht, _, _⟩ := hm.there
  have hn : H a = none := I.hok.gone hm.new
  exact ⟨.ref a, upd H a (exo a C none), I.laidN hm.keeps hm.new hn (exo_ok ht), rfl, h a hn⟩
/-- the object of an error -/
theorem Err.at {pins : List (Addr × Obj)} {σ : L2.St} {H : Hp} {s : Shared} {a C : Addr} {fs : List (Str × V)} (e : Err H a C fs) (I : Inv X pins σ H s) :
    ∃ (ox : Obj) (od : Option Obj), PySem.W.InstAt s.heap a ox C od ∧ (fs ≠ [] → ∃ o, od = some o ∧ ∀ n : Str, ∃ u, PySem.W.lookIn n o = some u ∧ RelO (fs.lookup n) u) := by
  rcases e with ⟨z, e⟩ | ⟨d, e1, e2⟩
  · obtain ⟨t1, ho⟩ := exo_at I.hok e
    exact ⟨_, none, ⟨ho, rfl, rfl, trivial⟩, fun y => absurd z y⟩
  · obtain ⟨t1, ho⟩ := exo_at I.hok e1
    obtain ⟨mA, hns, rel⟩ := exd_at I.hok e2
    obtain ⟨od, hod, hl⟩ := lookIn_ns hns
    exact ⟨_, some od, ⟨ho, rfl, rfl, hod⟩, fun _ => ⟨od, rfl, fun n => ⟨mA n, hl n, rel n⟩⟩⟩
/-- isinstance(e, c), e an error held as a value -/
def rIsErr (K : PySem.W.Frag) : List V → Hp → VK → Prop := fun xs H Q => ∃ (a C : Addr) (fs : List (Str × V)) (c : V) (cv : Value) (b : Bool), xs = [.ref a, c] ∧ Err H a C fs ∧ ExcC K C ∧ (∀ u, RelV c u → u = cv) ∧ PySem.W.kitOne K (.ref C) cv = some b ∧ Q (.bl b) H
theorem call_isErr : CallR X (.builtin "isinstance") (rIsErr X.K) := by
  intro pins s σ H xs us Q I r h
  obtain ⟨a, C, fs, c, cv, b, rfl, e, T, hc, hk, q⟩ := h
  obtain ⟨u, u', rfl, rx, rt⟩ := vals2 r
  obtain rfl : u = Value.ref a := rx
  obtain rfl := hc _ rt
  obtain ⟨ox, od, J, _⟩ := e.at I
  have hcl : (PySem.W.clsIn X.K C).isSome = true := by
    obtain ⟨cd, h1, _⟩ := PySem.W.any_some T.hd
    rw [h1]
    rfl
  exact PySem.W.kia_one (PySem.W.kitx_exc (ox := ox) (od := od) hcl T.hg T.hk T.hs T.ha T.hn T.ht T.hm) I.kIn J hk (fun z => nomatch z) fun tk => ⟨.bl b, H, I.kept (t' := tk) fun _ _ z => z, rfl, q⟩
/-- e.f, e an error held as a value -/
def tErrF (K : PySem.W.Frag) (n : Str) (te : TE) : TE := fun σ H Q => te σ H fun x H1 => ∃ (a C : Addr) (fs : List (Str × V)) (v : V), x = .ref a ∧ Err H1 a C fs ∧ ExcC K C ∧ PySem.W.findIn K (.ref C) n = some none ∧ fs.lookup n = some v ∧ Q v H1
theorem pe_errF {e : Expr} {te : TE} {pos : Pos} {n : Str} (he : PE X e te) (hb : attributeBase e n X.env (eval e X.env) = eval e X.env := by rfl) : PE X (.Attribute e n pos) (tErrF X.K n te) := by
  refine ⟨fun pins s σ H Q I h => ?_⟩
  refine attr_of hb (thn (he.run pins s σ H _ I h) fun u s1 hh => ?_)
  obtain ⟨x, H1, I1, rx, a, C, fs, v, rfl, e1, T, hno, hl, q⟩ := hh
  obtain rfl : u = Value.ref a := rx
  obtain ⟨ox, od, J, k⟩ := e1.at I1
  obtain ⟨o, rfl, k2⟩ := k (fun z => by rw [z] at hl; cases hl)
  obtain ⟨u, hu, ru⟩ := k2 n
  rw [hl] at ru
  cases u with
  | none => exact ru.elim
  | some u =>
    exact HandSPX.exc_get I1.kIn J T.hg T.hk T.hs (PySem.W.findObj_own T.hd hno rfl hu) (handed_of ru) ⟨v, H1, I1.tok _, ru, q⟩
end
end WT

set_option Elab.async false
set_option linter.all false
set_option maxRecDepth 100000
set_option maxHeartbeats 4000000
namespace WT
open PySem PySem.Spec PyProof.Rows L2
/-- a def that is called: where it stands, how its arguments bind, its promise -/
structure Df (P : Program) (w : World) (K : PySem.W.Frag) (mg : Str → Option Value) (base : Heap) (x : Str) (k : Nat) (f : Addr) (fd : FuncData) (ps : List Str) (sp : Sp) : Prop where
  g : mg x = some (.ref f)
  kp : PySem.W.keepIn K (.ref f) = true
  bd : Binds K fd ps []
  G : FnG P w K mg base CX0 k f fd ps sp
/-- all that was tracked but a is as it was -/
def But (a : Addr) (H H' : Hp) : Prop := ∀ b x, b ≠ a → H b = some x → H' b = some x
theorem But.refl (a : Addr) (H : Hp) : But a H H := fun _ _ _ h => h
theorem But.trans {a : Addr} {H H1 H2 : Hp} (x : But a H H1) (y : But a H1 H2) : But a H H2 := fun b o n h => y b o n (x b o n h)
theorem But.of {a : Addr} {H H1 : Hp} (x : Same H H1) : But a H H1 := fun b o _ h => x b o h
theorem But.upd {a : Addr} {H : Hp} {o : HO} : But a H (upd H a o) := fun b x n h => by
  rw [upd_ne n]
  exact h
/-- the numbers that a law draws from; at most b of them mixed so far -/
def Pot (b : Nat) (p0 p1 p2 : Int) : Prop := 0 ≤ p0 ∧ 0 ≤ p1 ∧ p1 < 2305843009213693952 ∧ 0 ≤ p2 ∧ p2 ≤ b
theorem Pot.more {b c : Nat} {p0 p1 p2 : Int} (h : Pot b p0 p1 p2) (hc : b ≤ c) : Pot c p0 p1 p2 := by
  unfold Pot at h ⊢
  omega
/-- the pot stands at a -/
def PotAt (H : Hp) (a : Addr) (b : Nat) : Prop := ∃ p0 p1 p2 : Int, H a = some (.lst [.int p0, .int p1, .int p2]) ∧ Pot b p0 p1 p2
theorem PotAt.same {H H' : Hp} {a : Addr} {b : Nat} (h : PotAt H a b) (s : Same H H') : PotAt H' a b := by
  obtain ⟨p0, p1, p2, h1, h2⟩ := h
  exact ⟨p0, p1, p2, s _ _ h1, h2⟩
theorem PotAt.more {H : Hp} {a : Addr} {b c : Nat} (h : PotAt H a b) (hc : b ≤ c) : PotAt H a c := by
  obtain ⟨p0, p1, p2, h1, h2⟩ := h
  exact ⟨p0, p1, p2, h1, h2.more hc⟩
/-- the pot is no tuple, no list of other things -/
theorem PotAt.ne_tup {H : Hp} {a c : Addr} {b : Nat} {xs : List V} (h : PotAt H a b) (e : H c = some (.tup xs)) : c ≠ a := by
  obtain ⟨p0, p1, p2, h1, _⟩ := h
  exact ne_of e h1 (by intro z; cases z)
theorem PotAt.ne_new {H : Hp} {a c : Addr} {b : Nat} (h : PotAt H a b) (e : H c = none) : a ≠ c := by
  obtain ⟨p0, p1, p2, h1, _⟩ := h
  exact ne_of_none h1 e
theorem bit_mul (b : Bool) : -(2 ^ 64) < (if b = true then (1 : Int) else 0) ∧ (if b = true then (1 : Int) else 0) < 2 ^ 64 := by
  cases b <;> decide
theorem bit_nn (b : Bool) : (0 : Int) ≤ (if b = true then (1 : Int) else 0) := by
  cases b <;> decide
section
variable {X : Cx}
/-- list(s), sign by sign -/
def signsV (z : Str) : List V := z.cps.toList.map fun c => V.str ⟨#[c]⟩
def rListS : List V → Hp → VK → Prop := fun xs H Q => ∃ z : Str, xs = [.str z] ∧ z.length ≤ sizeLine ∧ ∀ l, H l = none → Q (.ref l) (upd H l (.lst (signsV z)))
theorem call_list_str (hc : X.calm = true) : CallR X (.type "list") rListS := by
  intro pins s σ H xs us Q I r h
  obtain ⟨z, rfl, hz, q⟩ := h
  obtain ⟨u, rfl, t, rfl⟩ := vals1 r
  refine PySem.call_list_str (I.ok.hd hc) z t (fun h' tk acc c kp e it => ?_) hz
  have hlen : (signsV z).length ≤ sizeLine := by
    unfold signsV
    rw [List.length_map, Array.length_toList]
    exact hz
  have rv : Vals (signsV z) acc.toList := by
    refine vals_of_at ?_ fun j x u hx hu => ?_
    · unfold signsV
      rw [List.length_map, Array.length_toList, Array.length_toList]
      exact it.1.symm
    · obtain ⟨c, t, e1, e2⟩ := it.2 j u (by rw [← Array.getElem?_toList]; exact hu)
      unfold signsV at hx
      rw [List.getElem?_map, Array.getElem?_toList, e1] at hx
      cases hx
      exact ⟨t, e2⟩
  exact ⟨.ref s.heap.objs.size, _, I.laid (t' := tk) kp (Nat.le_refl _) (show ObjOk X.prog X.w _ h' _ (.lst (signsV z)) from ⟨hlen, acc.toList, c, rv, by simpa using e⟩), rfl, q _ (I.hok.fresh (Nat.le_refl _))⟩
end
end WT

set_option Elab.async false
set_option linter.all false
set_option maxRecDepth 100000
set_option maxHeartbeats 4000000
namespace K12
open PySem PySem.Spec PyProof.Rows L2 WT
def top (i : Nat) : Stmt := PySem.Challenge.pw_wraptrails_k12_girths_and_shortest_cycle.main.body.getD i (.Pass ⟨0, 0, 0, 0⟩)
/-- the built-ins are still the built-ins -/
structure Blt (mg : Str → Option Value) : Prop where
  len : mg "len" = none
  abs : mg "abs" = none
  int : mg "int" = none
  range : mg "range" = none
  list : mg "list" = none
  tuple : mg "tuple" = none
  sorted : mg "sorted" = none
  min : mg "min" = none
  max : mg "max" = none
  all : mg "all" = none
  repr : mg "repr" = none
  dict : mg "dict" = none
  enumerate : mg "enumerate" = none
abbrev st_hand : Stmt := top 18
theorem sc_hand : FnScope ["_law_script", "_law_k", "_law_cell", "_law_great"] ["_law_script", "_law_k"] (defScope st_hand) := ⟨rfl, rfl, rfl, by decide +kernel, rfl, by decide +kernel, by decide +kernel⟩
abbrev st_take : Stmt := top 19
theorem sc_take : FnScope ["_law_hand_here", "_law_many", "_law_digit", "_law_prime", "_law_drawn"] ["_law_hand_here", "_law_many"] (defScope st_take) := ⟨rfl, rfl, rfl, by decide +kernel, rfl, by decide +kernel, by decide +kernel⟩
abbrev st_of : Stmt := top 20
theorem sc_of : FnScope ["_law_hand_here", "_law_some"] ["_law_hand_here", "_law_some"] (defScope st_of) := ⟨rfl, rfl, rfl, by decide +kernel, rfl, by decide +kernel, by decide +kernel⟩
abbrev st_mixed : Stmt := top 21
theorem sc_mixed : FnScope ["_law_hand_here", "_law_some", "_law_left", "_law_found"] ["_law_hand_here", "_law_some"] (defScope st_mixed) := ⟨rfl, rfl, rfl, by decide +kernel, rfl, by decide +kernel, by decide +kernel⟩
def spTake : Sp := fun vs H Q _ => ∃ (a : Addr) (b : Nat) (n : Int), vs = [.ref a, .int n] ∧ PotAt H a b ∧ b ≤ 100000 ∧ 0 < n ∧ n < 1073741824 ∧
  ∀ H' r, But a H H' → PotAt H' a (b + 1) → 0 ≤ r → r < n → Q (.int r) H'
theorem sq_le {x : Int} (h0 : 0 ≤ x) (h1 : x ≤ 100001) : 0 ≤ 7919 * x * x ∧ 7919 * x * x ≤ 700000000000000 := by
  have h2 : 0 ≤ x * x := Int.mul_nonneg h0 h0
  have h3 : x * x ≤ 100001 * 100001 := Int.mul_le_mul h1 h1 h0 (by decide)
  have e : 7919 * x * x = 7919 * (x * x) := Int.mul_assoc _ _ _
  rw [e]
  omega
section
variable {P : Program} {w : World} {K : PySem.W.Frag} {mg : Str → Option Value} {base : Heap} {f : Addr} {fd : FuncData}
theorem ok_take (F : Fun K "_law_take" "_law_take" st_take f fd) : FnG P w K mg base CX0 1 f fd ["_law_hand_here", "_law_many"] spTake := by
  refine okG F sc_take (fun vs H Q E h => ?_) (fun cdv A outer s H vs Q E hgd hr h => ?_)
  · obtain ⟨_, _, _, rfl, _⟩ := h
    rfl
  · obtain ⟨a, b, n, rfl, ⟨p0, p1, p2, ha, hp⟩, hb, hn, hn2, q⟩ := h
    refine ⟨_, (pss_cons (ps_if (pt_cmpR op_gt (pe_ix ix_list (pv 0) pe_int (fun _ _ => rfl)) pe_int (nomark _))
       (pss_cons (ps_set (i := 2) sc_take.nd rfl (.inl rfl) (pe_op op_mod (pe_ix ix_list (pv 0) pe_int (fun _ _ => rfl)) (pv 1)))
       (pss_cons (ps_asg (pe_op op_fdiv (pe_ix ix_list (pv 0) pe_int (fun _ _ => rfl)) (pv 1)) (pg_sub (pv 0) pe_int set_list))
       (pss_one (ps_ret (pv 2)))))
       pss_nil)
      (pss_cons (ps_asg (pe_op op_add (pe_ix ix_list (pv 0) pe_int (fun _ _ => rfl)) pe_int) (pg_sub (pv 0) pe_int set_list))
      (pss_cons (ps_set (i := 3) sc_take.nd rfl (.inl rfl) (pe_ix ix_list (pe_lst (pa_cons pe_int (pa_cons pe_int (pa_cons pe_int (pa_cons pe_int (pa_cons pe_int (pa_cons pe_int (pa_cons pe_int pa_nil)))))))) (pe_op op_mod (pe_ix ix_list (pv 0) pe_int (fun _ _ => rfl)) pe_int) (fun _ _ => rfl)))
      (pss_cons (ps_set (i := 4) sc_take.nd rfl (.inl rfl) (pe_op op_mod (pe_op op_pow (pe_op op_add (pe_op op_add (pe_ix ix_list (pv 0) pe_int (fun _ _ => rfl)) (pe_op op_mul (pe_op op_mul pe_int (pe_ix ix_list (pv 0) pe_int (fun _ _ => rfl))) (pe_ix ix_list (pv 0) pe_int (fun _ _ => rfl)))) pe_int) pe_int) (pv 3)))
      (pss_one (ps_ret (pe_op op_mod (pe_op op_fdiv (pe_op op_mod (pe_op op_mul (pv 4) (pe_op op_add (pe_op op_mod (pv 4) pe_int) (pe_op op_mul pe_int (pe_ix ix_list (pv 0) pe_int (fun _ _ => rfl))))) pe_int) pe_int) (pv 1)))))))), ?_⟩
    have hs : SqL K H a [.int p0, .int p1, .int p2] := SqL.of ha
    refine ⟨_, rfl, a, _, 0, .int p0, rfl, rfl, hs, atI_nat (j := 0) rfl, p0, 0, rfl, rfl, _, rfl, ite2 (fun e => ?_) fun e => ?_⟩
    · have e0 : 0 < p0 := of_decide_eq_true e
      refine ⟨_, rfl, a, _, 0, .int p0, rfl, rfl, hs, atI_nat (j := 0) rfl, _, rfl, p0, n, rfl, rfl, hn, ?_⟩
      refine ⟨_, rfl, a, _, 0, .int p0, rfl, rfl, hs, atI_nat (j := 0) rfl, _, rfl, p0, n, rfl, rfl, ⟨hn, hn2⟩, _, rfl, a, _, 0, 0, rfl, rfl, ha, rfl, ?_⟩
      refine ⟨_, rfl, ?_⟩
      refine q _ (p0 % n) But.upd ⟨p0 / n, p1, p2, upd_same, ?_⟩ (Int.emod_nonneg _ (by omega)) (Int.emod_lt_of_pos _ hn)
      unfold Pot at hp ⊢
      have := Int.ediv_nonneg hp.1 (Int.le_of_lt hn)
      omega
    · have e0 : ¬ 0 < p0 := fun z => e (decide_eq_true z)
      obtain ⟨h0, h1, h2, h3, h4⟩ := hp
      have sq := sq_le (x := p2 + 1) (by omega) (by omega)
      refine ⟨_, rfl, a, _, 2, .int p2, rfl, rfl, hs, atI_nat (j := 2) rfl, p2, 1, rfl, rfl, _, rfl, a, _, 2, 2, rfl, rfl, ha, rfl, ?_⟩
      have ha1 : (upd H a (.lst [.int p0, .int p1, .int (p2 + 1)])) a = some (.lst [.int p0, .int p1, .int (p2 + 1)]) := upd_same
      refine ⟨(by show 7 ≤ sizeLine; decide), fun l nl => ?_⟩
      have nla : a ≠ l := ne_of_none ha1 nl
      have ha2 := same_new nl (o := .lst [.int 2147483647, .int 2147483629, .int 2147483587, .int 2147483579, .int 2147483563, .int 2147483549, .int 2147483543]) _ _ ha1
      have hs2 : SqL K _ a [.int p0, .int p1, .int (p2 + 1)] := SqL.of ha2
      obtain ⟨pr, hpr, hpr0, hpr1⟩ : ∃ pr : Int, atI [V.int 2147483647, .int 2147483629, .int 2147483587, .int 2147483579, .int 2147483563, .int 2147483549, .int 2147483543] ((p2 + 1) % 7) = some (.int pr) ∧ 0 < pr ∧ pr < 2147483648 := by
        have m0 := Int.emod_nonneg (p2 + 1) (b := 7) (by decide)
        have m1 := Int.emod_lt_of_pos (p2 + 1) (b := 7) (by decide)
        generalize (p2 + 1) % 7 = m at m0 m1
        have : m = 0 ∨ m = 1 ∨ m = 2 ∨ m = 3 ∨ m = 4 ∨ m = 5 ∨ m = 6 := by omega
        rcases this with rfl | rfl | rfl | rfl | rfl | rfl | rfl
        · exact ⟨2147483647, rfl, by decide, by decide⟩
        · exact ⟨2147483629, rfl, by decide, by decide⟩
        · exact ⟨2147483587, rfl, by decide, by decide⟩
        · exact ⟨2147483579, rfl, by decide, by decide⟩
        · exact ⟨2147483563, rfl, by decide, by decide⟩
        · exact ⟨2147483549, rfl, by decide, by decide⟩
        · exact ⟨2147483543, rfl, by decide, by decide⟩
      refine ⟨_, rfl, a, _, 2, .int (p2 + 1), rfl, rfl, hs2, atI_nat (j := 2) rfl, p2 + 1, 7, rfl, rfl, (show (0 : Int) < 7 by decide), l, _, (p2 + 1) % 7, .int pr, rfl, rfl, SqL.of upd_same, hpr, ?_⟩
      refine ⟨_, rfl, a, _, 1, .int p1, rfl, rfl, hs2, atI_nat (j := 1) rfl, _, rfl, a, _, 2, .int (p2 + 1), rfl, rfl, hs2, atI_nat (j := 2) rfl, 7919, p2 + 1, rfl, rfl, .inl ⟨by decide, by decide⟩,
        _, rfl, a, _, 2, .int (p2 + 1), rfl, rfl, hs2, atI_nat (j := 2) rfl, 7919 * (p2 + 1), p2 + 1, rfl, rfl, .inr ⟨by omega, by omega⟩, p1, 7919 * (p2 + 1) * (p2 + 1), rfl, rfl, p1 + 7919 * (p2 + 1) * (p2 + 1), 31, rfl, rfl,
        p1 + 7919 * (p2 + 1) * (p2 + 1) + 31, 3, rfl, rfl, ⟨by decide, by decide, by omega⟩, _, rfl, _, pr, rfl, rfl, hpr0, ?_⟩
      obtain ⟨mx, hmx⟩ : ∃ mx : Int, (p1 + 7919 * (p2 + 1) * (p2 + 1) + 31) ^ (3 : Int).toNat % pr = mx := ⟨_, rfl⟩
      dsimp only
      rw [hmx]
      have x0 : 0 ≤ mx := by
        rw [← hmx]
        exact Int.emod_nonneg _ (by omega)
      have x1 : mx < pr := by
        rw [← hmx]
        exact Int.emod_lt_of_pos _ hpr0
      refine ⟨_, rfl, _, rfl, mx, 10007, rfl, rfl, (show (0 : Int) < 10007 by decide), _, rfl, a, _, 2, .int (p2 + 1), rfl, rfl, hs2, atI_nat (j := 2) rfl, 97, p2 + 1, rfl, rfl, .inl ⟨by decide, by decide⟩, mx % 10007, 97 * (p2 + 1), rfl, rfl,
        mx, mx % 10007 + 97 * (p2 + 1), rfl, rfl, .inl ⟨by omega, by omega⟩, _, 2305843009213693907, rfl, rfl, (show (0 : Int) < 2305843009213693907 by decide), _, 97, rfl, rfl, ⟨by decide, by decide⟩, _, rfl, _, n, rfl, rfl, hn, ?_⟩
      refine q _ _ (But.upd.trans (.of (same_new nl))) ⟨p0, p1, p2 + 1, ha2, ?_⟩ (Int.emod_nonneg _ (by omega)) (Int.emod_lt_of_pos _ hn)
      unfold Pot
      omega
/-- 10 ** 480 -/
def big : Int := ((10 : Int) ^ (60 : Int).toNat) ^ (8 : Int).toNat
theorem big_pos : (0 : Int) < big := by decide +kernel
theorem big8 : CPowW ((10 : Int) ^ (60 : Int).toNat) 8 := ⟨by decide, by decide +kernel⟩
def spHand (K : PySem.W.Frag) : Sp := fun vs H Q _ => ∃ (a : Addr) (ns : List Int) (k : Nat), vs = [.ref a, .int k] ∧ SqL K H a (ns.map V.int) ∧ ns.length ≤ 63 ∧ k ≤ 3 ∧
  ∀ H' p, Same H H' → H p = none → PotAt H' p 0 → Q (.ref p) H'
theorem ok_hand (F : Fun K "_law_hand" "_law_hand" st_hand f fd) (B : Blt mg) : FnG P w K mg base CX0 1 f fd ["_law_script", "_law_k"] (spHand K) := by
  refine okG F sc_hand (fun vs H Q E h => ?_) (fun cdv A outer s H vs Q E hgd hr h => ?_)
  · obtain ⟨_, _, _, rfl, _⟩ := h
    rfl
  · obtain ⟨a, ns, k, rfl, hs, hl, hk, q⟩ := h
    refine ⟨_, (pss_cons (ps_set (i := 2) sc_hand.nd rfl (.inl rfl) (pe_ifExp (pt_cmpR op_lt (pv 1) (pe_callB call_len (by rfl) B.len (by decide +kernel) (pa_cons (pv 0) pa_nil)) (nomark _)) (pe_ix ix_list (pv 0) (pv 1) (fun _ _ => rfl)) (pe_op op_add (pe_op op_mul pe_int (pv 1)) pe_int)))
      (pss_cons (ps_set (i := 3) sc_hand.nd rfl (.inl rfl) (pe_op op_mul (pe_op op_mod (pe_callB call_abs (by rfl) B.abs (by decide +kernel) (pa_cons (pv 2) pa_nil)) (pe_op op_powW (pe_op op_pow pe_int pe_int) pe_int)) (pe_callTy call_int1 (by rfl) B.int (by decide +kernel) (pa_cons (pe_cmpR op_ge (pe_callB call_abs (by rfl) B.abs (by decide +kernel) (pa_cons (pv 2) pa_nil)) (pe_op op_pow pe_int pe_int) (nomark _)) pa_nil))))
      (pss_one (ps_ret (pe_lst (pa_cons (pv 3) (pa_cons (pe_op op_mod (pe_op op_add (pe_op op_add (pe_op op_mul (pe_op op_mod (pv 2) pe_int) pe_int) (pe_op op_mul pe_int (pv 1))) pe_int) pe_int) (pa_cons pe_int pa_nil)))))))), ?_⟩
    refine ⟨_, rfl, _, rfl, _, ns.length, rfl, .inl ⟨_, hs, (List.length_map ..).symm⟩, (k : Int), (ns.length : Int), rfl, rfl, _, rfl, ite2 (fun e => ?_) fun e => ?_⟩
    · have e0 : (k : Int) < ns.length := of_decide_eq_true e
      have e1 : k < ns.length := by omega
      refine ⟨_, rfl, _, rfl, a, _, (k : Int), .int ns[k], rfl, rfl, hs, atI_nat (j := k) (by rw [List.getElem?_map, List.getElem?_eq_getElem e1]; rfl), ?_⟩
      obtain ⟨cell, hc⟩ : ∃ c : Int, ns[k] = c := ⟨_, rfl⟩
      rw [hc]
      have c0 : (0 : Int) ≤ if cell < 0 then -cell else cell := by split <;> omega
      refine ⟨_, rfl, cell, rfl, 10, 60, rfl, rfl, ⟨by decide, by decide, by decide⟩, _, 8, rfl, rfl, big8, _, _, rfl, rfl, big_pos,
        _, rfl, cell, rfl, 10, 18, rfl, rfl, ⟨by decide, by decide, by decide⟩, _, _, rfl, rfl, .inr ⟨_, rfl, _, _, rfl, rfl, .inr (bit_mul _), ?_⟩⟩
      obtain ⟨own, ho⟩ : ∃ z : Int, (if cell < 0 then -cell else cell) % big * (if decide ((10 : Int) ^ (18 : Int).toNat ≤ if cell < 0 then -cell else cell) = true then 1 else 0) = z := ⟨_, rfl⟩
      have h0 : 0 ≤ own := by
        rw [← ho]
        exact Int.mul_nonneg (Int.emod_nonneg _ (Int.ne_of_gt big_pos)) (bit_nn _)
      dsimp only
      rw [show ((10 : Int) ^ (60 : Int).toNat) ^ (8 : Int).toNat = big from rfl, ho]
      refine ⟨_, rfl, _, rfl, cell, 2305843009213693951, rfl, rfl, (show (0 : Int) < 2305843009213693951 by decide), _, 69621, rfl, rfl, .inr ⟨by decide, by decide⟩, _, rfl, 15485863, (k : Int), rfl, rfl, .inl ⟨by decide, by decide⟩,
        _, _, rfl, rfl, _, 97, rfl, rfl, _, 2305843009213693921, rfl, rfl, (show (0 : Int) < 2305843009213693921 by decide), (by show 3 ≤ sizeLine; decide), fun p np => ?_⟩
      refine q _ p (same_new np) np ⟨own, _, 0, upd_same, h0, Int.emod_nonneg _ (by decide), ?_, Int.le_refl _, Int.le_refl _⟩
      exact Int.lt_trans (Int.emod_lt_of_pos _ (by decide)) (by decide)
    · refine ⟨_, rfl, 7, (k : Int), rfl, rfl, .inl ⟨by decide, by decide⟩, _, 3, rfl, rfl, ?_⟩
      obtain ⟨cell, hc⟩ : ∃ c : Int, 7 * (k : Int) + 3 = c := ⟨_, rfl⟩
      dsimp only
      rw [hc]
      have c0 : (0 : Int) ≤ if cell < 0 then -cell else cell := by split <;> omega
      refine ⟨_, rfl, cell, rfl, 10, 60, rfl, rfl, ⟨by decide, by decide, by decide⟩, _, 8, rfl, rfl, big8, _, _, rfl, rfl, big_pos,
        _, rfl, cell, rfl, 10, 18, rfl, rfl, ⟨by decide, by decide, by decide⟩, _, _, rfl, rfl, .inr ⟨_, rfl, _, _, rfl, rfl, .inr (bit_mul _), ?_⟩⟩
      obtain ⟨own, ho⟩ : ∃ z : Int, (if cell < 0 then -cell else cell) % big * (if decide ((10 : Int) ^ (18 : Int).toNat ≤ if cell < 0 then -cell else cell) = true then 1 else 0) = z := ⟨_, rfl⟩
      have h0 : 0 ≤ own := by
        rw [← ho]
        exact Int.mul_nonneg (Int.emod_nonneg _ (Int.ne_of_gt big_pos)) (bit_nn _)
      dsimp only
      rw [show ((10 : Int) ^ (60 : Int).toNat) ^ (8 : Int).toNat = big from rfl, ho]
      refine ⟨_, rfl, _, rfl, cell, 2305843009213693951, rfl, rfl, (show (0 : Int) < 2305843009213693951 by decide), _, 69621, rfl, rfl, .inr ⟨by decide, by decide⟩, _, rfl, 15485863, (k : Int), rfl, rfl, .inl ⟨by decide, by decide⟩,
        _, _, rfl, rfl, _, 97, rfl, rfl, _, 2305843009213693921, rfl, rfl, (show (0 : Int) < 2305843009213693921 by decide), (by show 3 ≤ sizeLine; decide), fun p np => ?_⟩
      refine q _ p (same_new np) np ⟨own, _, 0, upd_same, h0, Int.emod_nonneg _ (by decide), ?_, Int.le_refl _, Int.le_refl _⟩
      exact Int.lt_trans (Int.emod_lt_of_pos _ (by decide)) (by decide)
theorem seqL_but {H H' : Hp} {l a : Addr} {xs : List V} (h : SqL K H l xs) (n : l ≠ a) (b : But a H H') : SqL K H' l xs := by
  rcases h with (h | ⟨o, h⟩) | h
  · exact .inl (.inl (b _ _ n h))
  · exact .inl (.inr ⟨o, b _ _ n h⟩)
  · exact .inr h
theorem seqT_but {H H' : Hp} {l a : Addr} {xs : List V} (h : SqT K H l xs) (n : l ≠ a) (b : But a H H') : SqT K H' l xs := by
  rcases h with (h | ⟨o, h⟩) | h
  · exact .inl (.inl (b _ _ n h))
  · exact .inl (.inr ⟨o, b _ _ n h⟩)
  · exact .inr h
/-- of(hand, some): one of the items -/
def spOf (K : PySem.W.Frag) : Sp := fun vs H Q _ => ∃ (a l : Addr) (b : Nat) (xs : List V), vs = [.ref a, .ref l] ∧ PotAt H a b ∧ b ≤ 100000 ∧ l ≠ a ∧ (SqL K H l xs ∨ SqT K H l xs) ∧ 0 < xs.length ∧ xs.length ≤ 1000 ∧
  ∀ H' x, But a H H' → PotAt H' a (b + 1) → x ∈ xs → Q x H'
theorem ok_of {fT : Addr} {fdT : FuncData} (F : Fun K "_law_of" "_law_of" st_of f fd) (B : Blt mg) (F_take : Df P w K mg base "_law_take" 1 fT fdT ["_law_hand_here", "_law_many"] spTake) : FnG P w K mg base CX0 2 f fd ["_law_hand_here", "_law_some"] (spOf K) := by
  refine okG F sc_of (fun vs H Q E h => ?_) (fun cdv A outer s H vs Q E hgd hr h => ?_)
  · obtain ⟨_, _, _, _, rfl, _⟩ := h
    rfl
  · obtain ⟨a, l, b, xs, rfl, ha, hb, hal, hl, hx0, hx1, q⟩ := h
    refine ⟨_, (pss_one (ps_ret (pe_ix ix_seq (pv 1) (pe_callG hgd F_take.G (hr.mono (by decide)) (by rfl) F_take.g F_take.kp F_take.bd pass0 (pa_cons (pv 0) (pa_cons (pe_callB call_len (by rfl) B.len (by decide +kernel) (pa_cons (pv 1) pa_nil)) pa_nil))) (fun _ _ => rfl)))), ?_⟩
    refine ⟨_, rfl, _, rfl, _, rfl, _, xs.length, rfl, hl.imp (fun z => ⟨_, z, rfl⟩) (fun z => ⟨_, z, rfl⟩), a, b, (xs.length : Int), rfl, ha, hb, by omega, by omega, fun H' r bt ha' r0 r1 => ?_⟩
    obtain ⟨j, rfl⟩ := Int.eq_ofNat_of_zero_le r0
    have hj : j < xs.length := by omega
    have hq := q H' _ bt ha' (List.getElem_mem hj)
    rcases hl with hl | hl
    · exact .inl ⟨l, xs, (j : Int), xs[j], rfl, rfl, seqL_but hl hal bt, atI_nat (List.getElem?_eq_getElem hj), hq⟩
    · exact .inr (.inl ⟨l, xs, (j : Int), xs[j], rfl, rfl, seqT_but hl hal bt, atI_nat (List.getElem?_eq_getElem hj), hq⟩)
end
end K12

set_option Elab.async false
set_option linter.all false
namespace WT
open PySem PySem.Spec PyProof.Rows L2
theorem txt_join (a : Str) (ys : List Str) : Txt.join a ys = Str.join a ys := PySem.StrLaws.glued_eq_join a ys
theorem app_cps (a b : Str) : (a ++ b).cps.toList = a.cps.toList ++ b.cps.toList := by
  show (a.cps ++ b.cps).toList = _
  exact Array.toList_append
theorem app_len (a b : Str) : (a ++ b).length = a.length + b.length := by
  show (a.cps ++ b.cps).size = _
  rw [Array.size_append]
  rfl
theorem join_nil_cps : ∀ ys : List Str, (Str.join ("" : Str) ys).cps.toList = (ys.map fun y => y.cps.toList).flatten
  | [] => rfl
  | [x] => by
    show x.cps.toList = _
    simp
  | x :: y :: r => by
    show ((x ++ ("" : Str)) ++ Str.join ("" : Str) (y :: r)).cps.toList = _
    rw [app_cps, app_cps, join_nil_cps (y :: r)]
    show (x.cps.toList ++ []) ++ _ = _
    rw [List.append_nil]
    rfl
/-- a name's sign: a small letter -/
def Low (c : Nat) : Prop := 97 ≤ c ∧ c ≤ 122
/-- a short text of small letters -/
structure NmOk (y : Str) : Prop where
  len : y.length ≤ 8
  low : ∀ c ∈ y.cps.toList, Low c
theorem NmOk.ok {y : Str} (h : NmOk y) : PyData.strOk y = true := by
  unfold PyData.strOk
  rw [Array.all_eq_true]
  intro i hi
  have := h.low y.cps[i] (by rw [Array.mem_toList_iff]; exact Array.getElem_mem hi)
  unfold Low at this
  exact decide_eq_true (by omega)
def sign (c : Nat) : Str := ⟨#[c]⟩
/-- stem followed by one letter: the letters from the first on -/
def nameList (stem : Str) (first n : Nat) : List Str := (List.range n).map fun j => stem ++ sign (97 + first + j)
structure NamesOf (n : Nat) (ys : List Str) : Prop where
  ex : ∃ (stem : Str) (first : Nat), ys = nameList stem first n ∧ stem.length ≤ 7 ∧ (∀ c ∈ stem.cps.toList, Low c) ∧ first + n ≤ 26
theorem NamesOf.length {n : Nat} {ys : List Str} (h : NamesOf n ys) : ys.length = n := by
  obtain ⟨s, f, rfl, _⟩ := h.ex
  unfold nameList
  rw [List.length_map, List.length_range]
theorem NamesOf.nm {n : Nat} {ys : List Str} (h : NamesOf n ys) : ∀ y ∈ ys, NmOk y := by
  obtain ⟨s, f, rfl, h1, h2, h3⟩ := h.ex
  intro y hy
  unfold nameList at hy
  obtain ⟨j, hj, rfl⟩ := List.mem_map.mp hy
  have hj := List.mem_range.mp hj
  refine ⟨?_, fun c hc => ?_⟩
  · rw [app_len]
    show s.length + 1 ≤ 8
    omega
  · rw [app_cps] at hc
    rcases List.mem_append.mp hc with hc | hc
    · exact h2 c hc
    · have : c = 97 + f + j := by simpa [sign] using hc
      unfold Low
      omega
def alpha : Str := "abcdefghijklmnopqrstuvwxyz"
theorem alpha_cps : alpha.cps.toList = (List.range 26).map fun j => 97 + j := by decide +kernel
theorem alpha_len : alpha.length = 26 := by decide +kernel
theorem cut_alpha {f n : Nat} (h : f + n ≤ 26) : (cutS alpha (some (f : Int)) (some ((f + n : Nat) : Int))).cps.toList = (List.range n).map fun j => 97 + f + j := by
  unfold cutS
  rw [HT.sIx_nat, HT.sIx_nat, alpha_len, Nat.min_eq_left h, Nat.min_eq_left (show f ≤ 26 by omega)]
  show (List.take (f + n - f) (List.drop f alpha.cps.toList)) = _
  rw [alpha_cps]
  apply List.ext_getElem?
  intro i
  rw [List.getElem?_take, List.getElem?_drop, List.getElem?_map, List.getElem?_map]
  by_cases hi : i < n
  · rw [if_pos (by omega), List.getElem?_range (by omega), List.getElem?_range hi]
    show some (97 + (f + i)) = some (97 + f + i)
    rw [Nat.add_assoc]
  · rw [if_neg (by omega), List.getElem?_eq_none (l := List.range n) (by rw [List.length_range]; omega)]
    rfl
/-- texts as data -/
theorem dp_strs {K : PySem.W.Frag} {H : Hp} : ∀ ss : List Str, DpAll K H (ss.map V.str) (ss.map PyData.str)
  | [] => .nil
  | s :: ss => .cons (.str s) (dp_strs ss)
theorem lay_strs : ∀ ss : List Str, (∀ s ∈ ss, PyData.strOk s = true) → PyData.canLayAll0 (ss.map PyData.str) = true ∧ PyData.depthAll (ss.map PyData.str) = 0
  | [], _ => ⟨by rw [List.map_nil, PyData.canLayAll0], by rw [List.map_nil, PyData.depthAll]⟩
  | s :: ss, h => by
    obtain ⟨h1, h2⟩ := lay_strs ss fun x hx => h x (List.mem_cons_of_mem _ hx)
    rw [List.map_cons, PyData.canLayAll0, PyData.depthAll, h1, h2, PyData.canLay0, PyData.depth, h s List.mem_cons_self]
    exact ⟨rfl, rfl⟩
theorem shaped_strs (ss : List Str) (h : ∀ s ∈ ss, PyData.strOk s = true) : SeqAt.shaped (.list (ss.map PyData.str)) = true := by
  obtain ⟨h1, h2⟩ := lay_strs ss h
  unfold SeqAt.shaped
  rw [PyData.canLay0, PyData.depth, h1, h2]
  rfl
theorem shaped_strsT (ss : List Str) (h : ∀ s ∈ ss, PyData.strOk s = true) : SeqAt.shaped (.tuple (ss.map PyData.str)) = true := by
  obtain ⟨h1, h2⟩ := lay_strs ss h
  unfold SeqAt.shaped
  rw [PyData.canLay0, PyData.depth, h1, h2]
  rfl
theorem shaped_nil : SeqAt.shaped (.list []) = true := by decide +kernel
theorem shaped_nilT : SeqAt.shaped (.tuple []) = true := by decide +kernel
theorem eqv_nil : ∀ ss : List Str, PyData.eqv (.list (ss.map PyData.str)) (.list []) = ss.isEmpty
  | [] => by decide +kernel
  | s :: ss => by
    rw [List.map_cons, PyData.eqv, PyData.eqvAll]
    rfl
theorem eqv_nilT : ∀ ss : List Str, PyData.eqv (.tuple (ss.map PyData.str)) (.tuple []) = ss.isEmpty
  | [] => by decide +kernel
  | s :: ss => by
    rw [List.map_cons, PyData.eqv, PyData.eqvAll]
    rfl
theorem map_erase {α β : Type} (g : α → β) : ∀ (xs : List α) (j : Nat), (xs.map g).eraseIdx j = (xs.eraseIdx j).map g
  | [], _ => rfl
  | _ :: _, 0 => rfl
  | x :: xs, j + 1 => by
    show g x :: (xs.map g).eraseIdx j = g x :: (xs.eraseIdx j).map g
    rw [map_erase g xs j]
theorem erase_perm {α : Type} : ∀ (xs : List α) (j : Nat) (h : j < xs.length), (xs[j] :: xs.eraseIdx j).Perm xs
  | x :: xs, 0, _ => List.Perm.refl _
  | x :: xs, j + 1, h => by
    have ih := erase_perm xs j (Nat.lt_of_succ_lt_succ h)
    show (xs[j]'(Nat.lt_of_succ_lt_succ h) :: x :: xs.eraseIdx j).Perm (x :: xs)
    exact (List.Perm.swap _ _ _).trans (ih.cons x)
theorem sum_ones {α : Type} : ∀ ss : List α, (ss.map fun _ => 1).sum = ss.length
  | [] => rfl
  | s :: ss => by
    rw [List.map_cons, List.sum_cons, sum_ones ss, List.length_cons]
    omega
end WT

set_option Elab.async false
set_option linter.all false
set_option maxRecDepth 100000
set_option maxHeartbeats 4000000
namespace K12
open PySem PySem.Spec PyProof.Rows L2 WT
abbrev st_names : Stmt := top 22
theorem sc_names : FnScope ["_law_hand_here", "_law_count", "_law_stem", "_law_first", "_law_turn", "_law_letter"] ["_law_hand_here", "_law_count"] (defScope st_names) := ⟨rfl, rfl, rfl, by decide +kernel, rfl, by decide +kernel, by decide +kernel⟩
section
variable {P : Program} {w : World} {K : PySem.W.Frag} {mg : Str → Option Value} {base : Heap} {f fT fO : Addr} {fd fdT fdO : FuncData}
/-- mixed(hand, some): the same texts in some order -/
def spMixed (K : PySem.W.Frag) : Sp := fun vs H Q _ => ∃ (a l : Addr) (b : Nat) (ss : List Str), vs = [.ref a, .ref l] ∧ PotAt H a b ∧ b + ss.length ≤ 100000 ∧ (SqL K H l (ss.map V.str) ∨ SqT K H l (ss.map V.str)) ∧ ss.length ≤ 1000 ∧ (∀ s ∈ ss, PyData.strOk s = true) ∧
  ∀ (H' : Hp) (p : Addr) (ys : List Str), But a H H' → PotAt H' a (b + ss.length) → H p = none → H' p = some (.lst (ys.map V.str)) → ys.Perm ss → Q (.ref p) H'
theorem ok_mixed (F : Fun K "_law_mixed" "_law_mixed" st_mixed f fd) (B : Blt mg) (F_take : Df P w K mg base "_law_take" 1 fT fdT ["_law_hand_here", "_law_many"] spTake) : FnG P w K mg base CX0 2 f fd ["_law_hand_here", "_law_some"] (spMixed K) := by
  refine okG F sc_mixed (fun vs H Q E h => ?_) (fun cdv A outer s H vs Q E hgd hr h => ?_)
  · obtain ⟨_, _, _, _, rfl, _⟩ := h
    rfl
  · obtain ⟨a, l, b, ss, rfl, ha, hb, hl, hlen, hok, q⟩ := h
    refine ⟨_, (pss_cons (ps_par (by rfl) sc_mixed.nd (i := 2) (j := 3) rfl rfl (by decide) rfl rfl (pa_cons (pe_callTy call_list_of (by rfl) B.list (by decide +kernel) (pa_cons (pv 1) pa_nil)) (pa_cons (pe_lst pa_nil) pa_nil)) (by rfl))
      (pss_cons (ps_while PassesOwn.never (pt_cmpR (op_neD hr.units) (pv 2) (pe_lst pa_nil) (nomark _))
       (pss_one (ps_expr (pe_bm PySem.F.plainAttrs_list PySem.F.slot_list_append PySem.F.type_list_append mt_append (pv 3) (pa_cons (pe_bm PySem.F.plainAttrs_list PySem.F.slot_list_pop PySem.F.type_list_pop mt_popAt (pv 2) (pa_cons (pe_callG hgd F_take.G (hr.mono (by decide)) (by rfl) F_take.g F_take.kp F_take.bd pass0 (pa_cons (pv 0) (pa_cons (pe_callB call_len (by rfl) B.len (by decide +kernel) (pa_cons (pv 2) pa_nil)) pa_nil))) pa_nil)) pa_nil)))))
      (pss_one (ps_ret (pv 3))))), ?_⟩
    refine ⟨_, rfl, l, ss.map V.str, rfl, hl, fun L nL => ?_⟩
    refine ⟨(by show 0 ≤ sizeLine; decide), fun D nD => ?_⟩
    refine ⟨_, _, rfl, ?_⟩
    have hnaL : a ≠ L := ha.ne_new nL
    have z1 := same_new nL (o := .lst (ss.map V.str))
    have z2 := same_new nD (o := .lst [])
    have hnaD : a ≠ D := (ha.same z1).ne_new nD
    have hLD : L ≠ D := ne_of_none upd_same nD
    have nD0 : H D = none := by
      rw [← upd_ne (H := H) (o := .lst (ss.map V.str)) (Ne.symm hLD)]
      exact nD
    refine ⟨fun m σ H' => ∃ left found : List Str, σ = [some (.ref a), some (.ref l), some (.ref L), some (.ref D)] ∧ m = left.length ∧ But a H H' ∧ PotAt H' a (b + found.length) ∧ H' L = some (.lst (left.map V.str)) ∧ H' D = some (.lst (found.map V.str)) ∧ (found ++ left).Perm ss,
      ⟨ss.length, ss, [], rfl, rfl, .of (z1.trans z2), (ha.same z1).same z2, z2 _ _ upd_same, upd_same, List.Perm.refl _⟩, fun m σ H' hW => ?_⟩
    obtain ⟨left, found, rfl, rfl, bt, hp, hL, hD, pm⟩ := hW
    have hle : found.length + left.length = ss.length := by
      have := pm.length_eq
      rw [List.length_append] at this
      exact this
    refine ⟨_, rfl, (by show 0 ≤ sizeLine; decide), fun e ne => ?_⟩
    have z3 := same_new ne (o := .lst [])
    have okl : ∀ s ∈ left, PyData.strOk s = true := fun s hs => hok s (pm.mem_iff.mp (List.mem_append_right _ hs))
    refine ⟨_, _, .lst (SqL.of (z3 _ _ hL)) (dp_strs left), .lst (SqL.of upd_same) .nil, shaped_strs left okl, shaped_nil, _, rfl, ?_⟩
    rw [eqv_nil]
    cases left with
    | nil =>
      refine iteF ⟨_, rfl, ?_⟩
      rw [List.append_nil] at pm
      refine q _ D found (bt.trans (.of z3)) ((hp.same z3).more (by omega)) nD0 (z3 _ _ hD) pm
    | cons x left =>
      refine iteT ⟨fun σ' H2 => ∃ left' found' : List Str, σ' = [some (.ref a), some (.ref l), some (.ref L), some (.ref D)] ∧ left'.length = left.length ∧ But a H H2 ∧ PotAt H2 a (b + found'.length) ∧ H2 L = some (.lst (left'.map V.str)) ∧ H2 D = some (.lst (found'.map V.str)) ∧ (found' ++ left').Perm ss,
        fun σ' H2 ⟨l', f', h1, h2, h3⟩ => ⟨left.length, by rw [List.length_cons]; omega, l', f', h1, h2.symm, h3⟩, ?_⟩
      have hl3 := z3 _ _ hL
      have hd3 := z3 _ _ hD
      refine ⟨_, rfl, .inl ⟨rfl, _, SqL.of hd3⟩, _, rfl, .inl ⟨rfl, _, SqL.of hl3⟩, _, rfl, _, rfl, _, ((x :: left).map V.str).length, rfl, .inl ⟨_, SqL.of hl3, rfl⟩, a, b + found.length, (((x :: left).map V.str).length : Int), rfl, hp.same z3, by simp at hle ⊢; omega, by simp <;> omega,
        by simp at hle ⊢; omega, fun H4 r b4 p4 r0 r1 => ?_⟩
      obtain ⟨j, rfl⟩ := Int.eq_ofNat_of_zero_le r0
      have hj : j < (x :: left).length := by
        rw [List.length_map] at r1
        omega
      have hl4 := b4 _ _ (Ne.symm hnaL) hl3
      have hd4 := b4 _ _ (Ne.symm hnaD) hd3
      have hjx : ((x :: left).map V.str)[j]? = some (V.str (x :: left)[j]) := by
        rw [List.getElem?_map, List.getElem?_eq_getElem hj]
        rfl
      have hsq : seqIndex? (j : Int) ((x :: left).map V.str).length = some j := by
        have := (ixN_seq (n := ((x :: left).map V.str).length) (i := (j : Int)) (j := j) (by
          unfold ixN
          rw [if_pos (by omega), if_pos (by rw [List.length_map]; omega)]
          simp)).1
        exact this
      refine ⟨L, _, (j : Int), j, _, rfl, rfl, hl4, by omega, by rw [List.length_cons] at hj; simp at hle; omega, hsq, hjx, ?_⟩
      have hD5 : (upd H4 L (.lst (((x :: left).map V.str).eraseIdx j))) D = some (.lst (found.map V.str)) := by
        rw [upd_ne (Ne.symm hLD)]
        exact hd4
      refine ⟨D, _, _, rfl, rfl, hD5, ?_, ?_⟩
      · rw [List.length_map]
        exact Nat.lt_of_le_of_lt (show found.length ≤ 1000 by simp at hle; omega) (by decide)
      · refine ⟨(x :: left).eraseIdx j, found ++ [(x :: left)[j]], rfl, ?_, ?_, ?_, ?_, ?_, ?_⟩
        · rw [List.length_eraseIdx_of_lt hj]
          rfl
        · intro c o nc ec
          rw [upd_ne (ne_of_none ec nD0), upd_ne (ne_of_none ec nL)]
          exact (bt.trans ((But.of z3).trans b4)) c o nc ec
        · obtain ⟨u0, u1, u2, e1, e2⟩ := p4
          refine ⟨u0, u1, u2, ?_, e2.more ?_⟩
          · rw [upd_ne hnaD, upd_ne hnaL]
            exact e1
          · rw [List.length_append]
            exact Nat.le_refl _
        · rw [upd_ne hLD, upd_same]
          congr 2
          exact map_erase _ _ _
        · rw [upd_same, List.map_append]
          rfl
        · refine List.Perm.trans ?_ pm
          rw [List.append_assoc]
          exact List.Perm.append_left _ (erase_perm _ j hj)
/-- names(hand, count): a tuple of so many names -/
def spNames : Sp := fun vs H Q _ => ∃ (a : Addr) (b n : Nat), vs = [.ref a, .int n] ∧ PotAt H a b ∧ b ≤ 90000 ∧ n ≤ 20 ∧
  ∀ (H' : Hp) (p : Addr) (ys : List Str), But a H H' → PotAt H' a (b + 9) → H' p = some (.tup (ys.map V.str)) → NamesOf n ys → Q (.ref p) H'
theorem ok_names (F : Fun K "_law_names" "_law_names" st_names f fd) (B : Blt mg) (F_take : Df P w K mg base "_law_take" 1 fT fdT ["_law_hand_here", "_law_many"] spTake)
    (F_of : Df P w K mg base "_law_of" 2 fO fdO ["_law_hand_here", "_law_some"] (spOf K)) : FnG P w K mg base CX0 3 f fd ["_law_hand_here", "_law_count"] spNames := by
  refine okG F sc_names (fun vs H Q E h => ?_) (fun cdv A outer s H vs Q E hgd hr h => ?_)
  · obtain ⟨_, _, _, rfl, _⟩ := h
    rfl
  · obtain ⟨a, b, n, rfl, ha, hb, hn, q⟩ := h
    refine ⟨_, (pss_cons (ps_set (i := 2) sc_names.nd rfl (.inr rfl) (pe_join pe_str (pe_lc (own := [("_law_turn", 4)]) (by rfl) sc_names.nd (pi_range1 (by rfl) B.range (pa_cons (pe_callG hgd F_of.G (hr.mono (by decide)) (by rfl) F_of.g F_of.kp F_of.bd pass0 (pa_cons (pv 0) (pa_cons (pe_lst (pa_cons pe_int (pa_cons pe_int (pa_cons pe_int (pa_cons pe_int pa_nil))))) pa_nil))) pa_nil)) (blkOk_by (own := [("_law_turn", 4)]) (N := ["_law_hand_here", "_law_count", "_law_stem", "_law_first", "_law_turn", "_law_letter"]) (sc := defScope st_names) (by decide +kernel)) (fun _ _ _ _ _ => (pg_name (i := 4) sc_names.nd rfl (.inl rfl))) (fun _ _ _ _ _ => pts_nil) (fun _ _ _ _ _ => (pe_callG hgd F_of.G (hr.mono (by decide)) (by rfl) F_of.g F_of.kp F_of.bd pass0 (pa_cons (pv 0) (pa_cons (pe_callTy (call_list_str rfl) (by rfl) B.list (by decide +kernel) (pa_cons pe_str pa_nil)) pa_nil)))))))
      (pss_cons (ps_set (i := 3) sc_names.nd rfl (.inl rfl) (pe_callG hgd F_take.G (hr.mono (by decide)) (by rfl) F_take.g F_take.kp F_take.bd pass0 (pa_cons (pv 0) (pa_cons (pe_op op_sub pe_int (pv 1)) pa_nil))))
      (pss_one (ps_ret (pe_callTy call_tuple_of (by rfl) B.tuple (by decide +kernel) (pa_cons (pe_lc (own := [("_law_letter", 5)]) (by rfl) sc_names.nd (pi_str (pe_slice sl_str pe_str (po_some (pv 3)) (po_some (pe_op op_add (pv 3) (pv 1))))) (blkOk_by (own := [("_law_letter", 5)]) (N := ["_law_hand_here", "_law_count", "_law_stem", "_law_first", "_law_turn", "_law_letter"]) (sc := defScope st_names) (by decide +kernel)) (fun _ _ _ _ _ => (pg_name (i := 5) sc_names.nd rfl (.inl rfl))) (fun _ _ _ _ _ => pts_nil) (fun _ _ _ _ _ => (pe_op op_add_str (pv 2) (pv 5)))) pa_nil)))))), ?_⟩
    -- how long the stem is
    refine ⟨⟨_, rfl⟩, _, rfl, (by show 4 ≤ sizeLine; decide), fun l0 n0 => ?_⟩
    have z0 := same_new n0 (o := .lst [.int 0, .int 0, .int 1, .int 7])
    refine ⟨a, l0, b, [.int 0, .int 0, .int 1, .int 7], rfl, ha.same z0, by omega, Ne.symm (ha.ne_new n0), .inl (SqL.of upd_same), by decide, by decide, fun H1 x b1 p1 hx => ?_⟩
    obtain ⟨m, rfl, hm⟩ : ∃ m : Nat, x = .int m ∧ m ≤ 7 := by
      simp only [List.mem_cons, List.not_mem_nil, or_false] at hx
      rcases hx with rfl | rfl | rfl | rfl
      · exact ⟨0, rfl, by decide⟩
      · exact ⟨0, rfl, by decide⟩
      · exact ⟨1, rfl, by decide⟩
      · exact ⟨7, rfl, by decide⟩
    have bt1 : But a H H1 := (But.of z0).trans b1
    refine ⟨(m : Int), rfl, by omega, by omega, fun D nD => lc_range (lo := 0) (n := (m : Int).toNat) (fun j H' => ∃ ss : List Str, ss.length = j ∧ (∀ s ∈ ss, ∃ c, s = sign c ∧ Low c) ∧ But a H H' ∧ PotAt H' a (b + 1 + j) ∧ H' D = some (.lst (ss.map V.str)))
      ⟨[], rfl, fun s hs => (nomatch hs), bt1.trans (.of (same_new nD)), p1.same (same_new nD), upd_same⟩ (fun j H' hj hP => ?_) fun H' hP => ?_⟩
    · obtain ⟨ss, hl, hc, bt, hp, hD⟩ := hP
      have naD : a ≠ D := p1.ne_new nD
      refine ⟨rfl, _, rfl, "abmz", rfl, (by decide +kernel), fun l nl => ?_⟩
      have z2 := same_new nl (o := .lst (signsV "abmz"))
      refine ⟨a, l, b + 1 + j, signsV "abmz", rfl, hp.same z2, by omega, Ne.symm (hp.ne_new nl), .inl (SqL.of upd_same), by decide +kernel, by decide +kernel, fun H2 y b2 p2 hy => ?_⟩
      obtain ⟨c, rfl, hcl⟩ : ∃ c, y = .str (sign c) ∧ Low c := by
        have : signsV "abmz" = [V.str (sign 97), V.str (sign 98), V.str (sign 109), V.str (sign 122)] := by decide +kernel
        rw [this] at hy
        simp only [List.mem_cons, List.not_mem_nil, or_false] at hy
        unfold Low
        rcases hy with rfl | rfl | rfl | rfl
        · exact ⟨97, rfl, by decide⟩
        · exact ⟨98, rfl, by decide⟩
        · exact ⟨109, rfl, by decide⟩
        · exact ⟨122, rfl, by decide⟩
      have hD2 := b2 _ _ (Ne.symm naD) (z2 _ _ hD)
      refine ⟨_, hD2, ?_, ss ++ [sign c], ?_, ?_, ?_, ?_, ?_⟩
      · rw [List.length_map, hl]
        exact Nat.lt_of_lt_of_le (show j < 10 by omega) (by decide)
      · rw [List.length_append, hl]
        rfl
      · intro s hs
        rcases List.mem_append.mp hs with hs | hs
        · exact hc s hs
        · rw [List.mem_singleton.mp hs]
          exact ⟨c, rfl, hcl⟩
      · intro g o ng eg
        have ngD : g ≠ D := ne_of_none (bt1 _ _ ng eg) nD
        rw [upd_ne ngD]
        exact (bt.trans ((But.of z2).trans b2)) g o ng eg
      · obtain ⟨u0, u1, u2, e1, e2⟩ := p2
        exact ⟨u0, u1, u2, by rw [upd_ne naD]; exact e1, e2.more (by omega)⟩
      · rw [upd_same, List.map_append]
        rfl
    · obtain ⟨ss, hl, hc, bt, hp, hD⟩ := hP
      have hl : ss.length = m := hl
      have sl : (ss.map fun s => s.length) = ss.map fun _ => 1 := List.map_congr_left fun s hs => by
        obtain ⟨c, rfl, _⟩ := hc s hs
        rfl
      have sum1 : (ss.map fun s => s.length).sum = m := by
        rw [sl, sum_ones, hl]
      refine ⟨"", D, ss, rfl, rfl, .inl (SqL.of hD), ?_, ?_⟩
      · rw [sum1]
        show m + ss.length * 0 ≤ 16777216
        omega
      -- the stem
      rw [txt_join]
      obtain ⟨stem, hst⟩ : ∃ z, Str.join ("" : Str) ss = z := ⟨_, rfl⟩
      rw [hst]
      have stl : ∀ c ∈ stem.cps.toList, Low c := by
        intro c hcc
        rw [← hst, join_nil_cps] at hcc
        obtain ⟨x, hx, hcx⟩ := List.mem_flatten.mp hcc
        obtain ⟨s, hs, rfl⟩ := List.mem_map.mp hx
        obtain ⟨c', rfl, h⟩ := hc s hs
        have : c = c' := by simpa [sign] using hcx
        rw [this]
        exact h
      have sten : stem.length ≤ 7 := by
        have : stem.cps.toList.length = m := by
          rw [← hst, join_nil_cps, List.length_flatten, List.map_map, ← sum1]
          congr 1
        rw [Array.length_toList] at this
        show stem.cps.size ≤ 7
        omega
      -- the first letter
      refine ⟨_, rfl, _, rfl, 26, (n : Int), rfl, rfl, a, b + 1 + m, 26 - (n : Int), rfl, hp, by omega, by omega, by omega, fun H3 r b3 p3 r0 r1 => ?_⟩
      obtain ⟨first, rfl⟩ := Int.eq_ofNat_of_zero_le r0
      have hf : first + n ≤ 26 := by omega
      have hcut : (cutS alpha (some (first : Int)) (some ((first : Int) + (n : Int)))).cps.toList = (List.range n).map fun j => 97 + first + j := cut_alpha hf
      have hsz : (cutS alpha (some (first : Int)) (some ((first : Int) + (n : Int)))).cps.size = n := by
        rw [← Array.length_toList, hcut, List.length_map, List.length_range]
      refine ⟨_, rfl, (first : Int), rfl, _, rfl, _, rfl, (first : Int), (n : Int), rfl, rfl, _, rfl, alpha, rfl, by decide +kernel, _, rfl, fun D2 nD2 => lc_it walk_str (fun j H' => Same H3 H' ∧ H' D2 = some (.lst ((nameList stem first j).map V.str))) ⟨same_new nD2, upd_same⟩ (fun _ _ _ _ => trivial)
        (fun j x H4 H5 hj hP hY => ?_) fun H4 hP => ?_⟩
      · obtain ⟨s4, d4⟩ := hP
        obtain ⟨rfl, c, hc4, rfl⟩ := hY
        have hj' : j < n := by
          rw [← hsz]
          exact hj
        have hcj : c = 97 + first + j := by
          have e : (cutS alpha (some (first : Int)) (some ((first : Int) + (n : Int)))).cps.toList[j]? = some c := by
            rw [Array.getElem?_toList]
            exact hc4
          rw [hcut, List.getElem?_map, List.getElem?_range hj'] at e
          exact (Option.some.inj e).symm
        subst hcj
        refine ⟨rfl, _, rfl, _, rfl, stem, sign (97 + first + j), rfl, rfl, ?_, _, d4, ?_, ?_, ?_⟩
        · show stem.length + 1 ≤ sizeLine
          exact Nat.le_trans (show stem.length + 1 ≤ 8 by omega) (by decide)
        · unfold nameList
          rw [List.length_map, List.length_map, List.length_range]
          exact Nat.lt_of_lt_of_le (show j < 30 by omega) (by decide)
        · intro g o eg
          rw [upd_ne (ne_of_none eg nD2)]
          exact s4 g o eg
        · rw [upd_same]
          unfold nameList
          rw [List.range_succ, List.map_append, List.map_append]
          rfl
      · obtain ⟨s4, d4⟩ := hP
        rw [hsz] at d4
        refine ⟨D2, _, rfl, .inl ⟨SqL.of d4, fun p np => ?_⟩⟩
        have z5 := same_new np (o := .tup ((nameList stem first n).map V.str))
        exact q _ p _ (bt.trans (b3.trans (.of (s4.trans z5)))) (((p3.same s4).same z5).more (by omega)) upd_same ⟨stem, first, rfl, sten, stl, hf⟩
end
end K12

set_option Elab.async false
set_option linter.all false
namespace WT
open PySem PySem.Spec PyProof.Rows L2
/-- a gateway: its name, its members, its kind -/
abbrev Gt := Str × List Str × Str
def GateAt (H : Hp) (a : Addr) (g : Gt) : Prop := ∃ i, H a = some (.tup [.str g.1, .ref i, .str g.2.2]) ∧ H i = some (.tup (g.2.1.map V.str))
theorem GateAt.same {H H' : Hp} {a : Addr} {g : Gt} (h : GateAt H a g) (s : Same H H') : GateAt H' a g := by
  obtain ⟨i, h1, h2⟩ := h
  exact ⟨i, s _ _ h1, s _ _ h2⟩
theorem GateAt.but {H H' : Hp} {a c : Addr} {g : Gt} {b : Nat} (h : GateAt H a g) (p : PotAt H c b) (s : But c H H') : GateAt H' a g := by
  obtain ⟨i, h1, h2⟩ := h
  exact ⟨i, s _ _ (p.ne_tup h1) h1, s _ _ (p.ne_tup h2) h2⟩
/-- the world of the regions rs and the gateways gs stands at a -/
structure WorldAt (H : Hp) (a r g : Addr) (as : List Addr) (rs : List Str) (gs : List Gt) : Prop where
  top : H a = some (.tup [.ref r, .ref g])
  reg : H r = some (.tup (rs.map V.str))
  gat : H g = some (.tup (as.map V.ref))
  each : Paired (GateAt H) as gs
theorem WorldAt.same {H H' : Hp} {a r g : Addr} {as : List Addr} {rs : List Str} {gs : List Gt} (h : WorldAt H a r g as rs gs) (s : Same H H') : WorldAt H' a r g as rs gs :=
  ⟨s _ _ h.top, s _ _ h.reg, s _ _ h.gat, Paired.mapP h.each fun _ _ z => z.same s⟩
theorem WorldAt.but {H H' : Hp} {a r g c : Addr} {as : List Addr} {rs : List Str} {gs : List Gt} {b : Nat} (h : WorldAt H a r g as rs gs) (p : PotAt H c b) (s : But c H H') : WorldAt H' a r g as rs gs :=
  ⟨s _ _ (p.ne_tup h.top) h.top, s _ _ (p.ne_tup h.reg) h.reg, s _ _ (p.ne_tup h.gat) h.gat, Paired.mapP h.each fun _ _ z => z.but p s⟩
/-- what a drawn gateway between the regions rs is -/
structure GateOk (rs : List Str) (g : Gt) : Prop where
  nm : NmOk g.1
  from_ : ∃ (ys : List Str) (k : Nat), ys.Perm rs ∧ g.2.1.Perm (ys.take k) ∧ 2 ≤ k ∧ k ≤ rs.length
  srt : sortedS g.2.1 = true
  kind : g.2.2 = "wrap" ∨ g.2.2 = "open"
theorem GateOk.sub {rs : List Str} {g : Gt} (h : GateOk rs g) : ∀ x ∈ g.2.1, x ∈ rs := by
  obtain ⟨ys, k, h1, h2, _⟩ := h.from_
  intro x hx
  exact h1.mem_iff.mp (List.mem_of_mem_take (h2.mem_iff.mp hx))
theorem GateOk.len {rs : List Str} {g : Gt} (h : GateOk rs g) : 2 ≤ g.2.1.length ∧ g.2.1.length ≤ rs.length := by
  obtain ⟨ys, k, h1, h2, h3, h4⟩ := h.from_
  have e1 := h2.length_eq
  have e2 := h1.length_eq
  rw [List.length_take] at e1
  omega
structure WorldOk (rs : List Str) (gs : List Gt) : Prop where
  reg : ∃ n, 1 ≤ n ∧ n ≤ 10 ∧ NamesOf n rs
  gat : ∃ n, n ≤ 10 ∧ NamesOf n (gs.map (·.1))
  each : ∀ g ∈ gs, GateOk rs g
theorem cut_to (ys : List Str) (k : Nat) : cutV (ys.map V.str) none (some (k : Int)) = (ys.take k).map V.str := by
  unfold cutV
  rw [HT.sIx_nat, HT.sIx_none, List.drop_zero, List.length_map, Nat.sub_zero, ← List.map_take]
  congr 1
  rcases Nat.le_total k ys.length with h | h
  · rw [Nat.min_eq_left h]
  · rw [Nat.min_eq_right h, List.take_of_length_le h, List.take_length]
theorem pair_snoc {α β : Type} {R : α → β → Prop} : ∀ {l : List α} {m : List β} {x : α} {y : β}, Paired R l m → R x y → Paired R (l ++ [x]) (m ++ [y])
  | _, _, _, _, .nil, r => .cons r .nil
  | _, _, _, _, .cons r t, q => .cons r (pair_snoc t q)
end WT

set_option Elab.async false
set_option linter.all false
set_option maxRecDepth 100000
set_option maxHeartbeats 4000000
namespace K12
open PySem PySem.Spec PyProof.Rows L2 WT
abbrev st_gateways : Stmt := top 23
theorem sc_gateways : FnScope ["_law_hand_here", "_law_regions", "_law_count", "_law_found", "_law_name", "_law_size", "_law_inside"] ["_law_hand_here", "_law_regions", "_law_count"] (defScope st_gateways) := ⟨rfl, rfl, rfl, by decide +kernel, rfl, by decide +kernel, by decide +kernel⟩
abbrev st_world : Stmt := top 24
theorem sc_world : FnScope ["_law_hand_here", "_law_most_regions", "_law_most_gateways", "_law_regions", "_law_count"] ["_law_hand_here", "_law_most_regions", "_law_most_gateways"] (defScope st_world) := ⟨rfl, rfl, rfl, by decide +kernel, rfl, by decide +kernel, by decide +kernel⟩
section
variable {P : Program} {w : World} {K : PySem.W.Frag} {mg : Str → Option Value} {base : Heap} {f fT fO fM fN fG : Addr} {fd fdT fdO fdM fdN fdG : FuncData}
/-- gateways(hand, regions, count) -/
def spGates : Sp := fun vs H Q _ => ∃ (a r : Addr) (b n : Nat) (rs : List Str), vs = [.ref a, .ref r, .int n] ∧ PotAt H a b ∧ b ≤ 80000 ∧ H r = some (.tup (rs.map V.str)) ∧ rs.length ≤ 10 ∧ (∀ s ∈ rs, PyData.strOk s = true) ∧ n ≤ 10 ∧ (n ≠ 0 → 2 ≤ rs.length) ∧
  ∀ (H' : Hp) (p : Addr) (as : List Addr) (gs : List Gt), But a H H' → PotAt H' a (b + 200) → H' p = some (.tup (as.map V.ref)) → Paired (GateAt H') as gs → NamesOf n (gs.map (·.1)) → (∀ g ∈ gs, GateOk rs g) → Q (.ref p) H'
theorem ok_gateways (F : Fun K "_law_gateways" "_law_gateways" st_gateways f fd) (B : Blt mg) (F_of : Df P w K mg base "_law_of" 2 fO fdO ["_law_hand_here", "_law_some"] (spOf K))
    (F_mixed : Df P w K mg base "_law_mixed" 2 fM fdM ["_law_hand_here", "_law_some"] (spMixed K)) (F_names : Df P w K mg base "_law_names" 3 fN fdN ["_law_hand_here", "_law_count"] spNames) :
    FnG P w K mg base CX0 4 f fd ["_law_hand_here", "_law_regions", "_law_count"] spGates := by
  refine okG F sc_gateways (fun vs H Q E h => ?_) (fun cdv A outer s H vs Q E hgd hr h => ?_)
  · obtain ⟨_, _, _, _, _, rfl, _⟩ := h
    rfl
  · obtain ⟨a, r, b, n, rs, rfl, ha, hb, hreg, hlen, hok, hn, h2, q⟩ := h
    refine ⟨_, (pss_cons (ps_set (i := 3) sc_gateways.nd rfl (.inl rfl) (pe_lst pa_nil))
      (pss_cons (ps_for PassesOwn.never rfl (pi_tup (pe_callG hgd F_names.G (hr.mono (by decide)) (by rfl) F_names.g F_names.kp F_names.bd pass0 (pa_cons (pv 0) (pa_cons (pv 2) pa_nil)))) (pg_name (i := 4) sc_gateways.nd rfl (.inl rfl))
       (pss_cons (ps_set (i := 5) sc_gateways.nd rfl (.inl rfl) (pe_callB (call_min2 rfl) (by rfl) B.min (by decide +kernel) (pa_cons (pe_callB call_len (by rfl) B.len (by decide +kernel) (pa_cons (pv 1) pa_nil)) (pa_cons (pe_callG hgd F_of.G (hr.mono (by decide)) (by rfl) F_of.g F_of.kp F_of.bd pass0 (pa_cons (pv 0) (pa_cons (pe_lst (pa_cons pe_int (pa_cons pe_int (pa_cons pe_int (pa_cons pe_int (pa_cons pe_int (pa_cons pe_int (pa_cons pe_int (pa_cons (pe_callB call_len (by rfl) B.len (by decide +kernel) (pa_cons (pv 1) pa_nil)) pa_nil))))))))) pa_nil))) pa_nil))))
       (pss_cons (ps_set (i := 6) sc_gateways.nd rfl (.inl rfl) (pe_callTy call_tuple_of (by rfl) B.tuple (by decide +kernel) (pa_cons (pe_callB cr_sortedS (by rfl) B.sorted (by decide +kernel) (pa_cons (pe_slice sl_list (pe_callG hgd F_mixed.G (hr.mono (by decide)) (by rfl) F_mixed.g F_mixed.kp F_mixed.bd pass0 (pa_cons (pv 0) (pa_cons (pv 1) pa_nil))) po_none (po_some (pv 5))) pa_nil)) pa_nil)))
       (pss_one (ps_expr (pe_bm PySem.F.plainAttrs_list PySem.F.slot_list_append PySem.F.type_list_append mt_append (pv 3) (pa_cons (pe_tup (pa_cons (pv 4) (pa_cons (pv 6) (pa_cons (pe_callG hgd F_of.G (hr.mono (by decide)) (by rfl) F_of.g F_of.kp F_of.bd pass0 (pa_cons (pv 0) (pa_cons (pe_lst (pa_cons pe_str (pa_cons pe_str (pa_cons pe_str pa_nil)))) pa_nil))) pa_nil)))) pa_nil)))))))
      (pss_one (ps_ret (pe_callTy call_tuple_of (by rfl) B.tuple (by decide +kernel) (pa_cons (pv 3) pa_nil)))))), ?_⟩
    refine ⟨(by show 0 ≤ sizeLine; decide), fun D nD => ?_⟩
    have z0 := same_new nD (o := .lst [])
    have naD : a ≠ D := ha.ne_new nD
    refine ⟨_, rfl, _, rfl, a, b, n, rfl, ha.same z0, by omega, by omega, fun H1 p ys b1 p1 hp1 nms => ?_⟩
    have bt1 : But a H H1 := (But.of z0).trans b1
    have hD1 := b1 _ _ (Ne.symm naD) (show (upd H D (.lst [])) D = some (.lst []) from upd_same)
    have hyl := nms.length
    refine ⟨p, rfl, ⟨_, SqT.of hp1⟩, for_it (walk_tup (xs := ys.map V.str)) (fun j σ H' => ∃ (v4 v5 v6 : Option V) (as : List Addr) (gs : List Gt), σ = [some (.ref a), some (.ref r), some (.int n), some (.ref D), v4, v5, v6] ∧ But a H H' ∧ PotAt H' a (b + 9 + 12 * j) ∧ H' p = some (.tup (ys.map V.str)) ∧ H' D = some (.lst (as.map V.ref)) ∧ Paired (GateAt H') as gs ∧ gs.map (·.1) = ys.take j ∧ ∀ g ∈ gs, GateOk rs g)
      ⟨none, none, none, [], [], rfl, bt1, p1, hp1, hD1, .nil, rfl, fun g hg => (nomatch hg)⟩ (fun j σ H' _ ⟨_, _, _, _, _, _, _, _, h, _⟩ => SqT.of h) (fun j v σ H2 H3 hj hP hY => ?_) (fun σ H' hP => ?_)⟩
    · obtain ⟨v4, v5, v6, as, gs, rfl, bt, hp, hpp, hD, prs, hmap, hgok⟩ := hP
      obtain ⟨rfl, hv⟩ := hY
      rw [List.length_map] at hj
      rw [List.getElem?_map, List.getElem?_eq_getElem hj] at hv
      cases hv
      have hn0 : n ≠ 0 := by omega
      have hrs2 := h2 hn0
      have hr3 := bt _ _ (ha.ne_tup hreg) hreg
      have hjn : j < n := by omega
      -- size
      refine ⟨_, rfl, _, rs.length, rfl, .inr ⟨_, SqT.of hr3, (List.length_map ..).symm⟩, _, rfl, _, rfl, _, rs.length, rfl, .inr ⟨_, SqT.of hr3, (List.length_map ..).symm⟩, (by show 8 ≤ sizeLine; decide), fun l1 n1 => ?_⟩
      have z1 := same_new n1 (o := .lst [.int 2, .int 2, .int 2, .int 2, .int 3, .int 3, .int 4, .int rs.length])
      refine ⟨a, l1, b + 9 + 12 * j, _, rfl, hp.same z1, by omega, Ne.symm (hp.ne_new n1), .inl (SqL.of upd_same), by show 0 < 8; decide, by show 8 ≤ 1000; decide, fun H4 x b4 p4 hx => ?_⟩
      obtain ⟨k, rfl, hk2, hk3⟩ : ∃ k : Nat, x = .int k ∧ 2 ≤ k ∧ k ≤ 10 := by
        simp only [List.mem_cons, List.not_mem_nil, or_false] at hx
        rcases hx with rfl | rfl | rfl | rfl | rfl | rfl | rfl | rfl
        · exact ⟨2, rfl, by decide, by decide⟩
        · exact ⟨2, rfl, by decide, by decide⟩
        · exact ⟨2, rfl, by decide, by decide⟩
        · exact ⟨2, rfl, by decide, by decide⟩
        · exact ⟨3, rfl, by decide, by decide⟩
        · exact ⟨3, rfl, by decide, by decide⟩
        · exact ⟨4, rfl, by decide, by decide⟩
        · exact ⟨rs.length, rfl, hrs2, hlen⟩
      refine ⟨(rs.length : Int), (k : Int), rfl, ?_⟩
      obtain ⟨m, hm, hm2, hm3⟩ : ∃ m : Nat, (if (k : Int) < (rs.length : Int) then (k : Int) else (rs.length : Int)) = (m : Int) ∧ 2 ≤ m ∧ m ≤ rs.length := by
        by_cases hkl : (k : Int) < (rs.length : Int)
        · exact ⟨k, by rw [if_pos hkl], hk2, by omega⟩
        · exact ⟨rs.length, by rw [if_neg hkl], hrs2, Nat.le_refl _⟩
      rw [hm]
      have bt4 := bt.trans ((But.of z1).trans b4)
      have hr4 := bt4 _ _ (ha.ne_tup hreg) hreg
      have pt1 := hp.same z1
      -- inside
      refine ⟨_, rfl, _, rfl, a, r, b + 9 + 12 * j + 1, rs, rfl, p4, by omega, .inr (SqT.of hr4), by omega, hok, fun H5 d5 zs b5 p5 nd5 hd5 pm => ?_⟩
      refine ⟨_, rfl, (m : Int), rfl, d5, _, rfl, SqL.of hd5, fun c6 n6 => ?_⟩
      have z6 := same_new n6 (o := .lst (cutV (zs.map V.str) none (some (m : Int))))
      refine ⟨c6, zs.take m, rfl, SqL.of (by rw [upd_same, cut_to]), ?_, fun ws c7 pm7 st7 n7 => ?_⟩
      · rw [List.length_take]
        omega
      have z7 := same_new n7 (o := .lst (ws.map V.str))
      refine ⟨c7, _, rfl, .inl ⟨SqL.of upd_same, fun t8 n8 => ?_⟩⟩
      have z8 := same_new n8 (o := .tup (ws.map V.str))
      -- append
      have bt8 : But a H4 _ := b5.trans (.of (z6.trans (z7.trans z8)))
      have p8 := ((p5.same z6).same z7).same z8
      have bt38 := ((But.of z1).trans b4).trans bt8
      have hD8 := bt38 _ _ (Ne.symm naD) hD
      refine ⟨_, rfl, .inl ⟨rfl, _, SqL.of hD8⟩, _, rfl, _, rfl, _, rfl, (by show 3 ≤ sizeLine; decide), fun l9 n9 => ?_⟩
      have z9 := same_new n9 (o := .lst [.str "wrap", .str "wrap", .str "open"])
      refine ⟨a, l9, b + 9 + 12 * j + 1 + rs.length, _, rfl, p8.same z9, by omega, Ne.symm (p8.ne_new n9), .inl (SqL.of upd_same), by show 0 < 3; decide, by show 3 ≤ 1000; decide, fun H10 y b10 p10 hy => ?_⟩
      obtain ⟨kd, rfl, hkd⟩ : ∃ kd : Str, y = .str kd ∧ (kd = "wrap" ∨ kd = "open") := by
        simp only [List.mem_cons, List.not_mem_nil, or_false] at hy
        rcases hy with rfl | rfl | rfl
        · exact ⟨_, rfl, .inl rfl⟩
        · exact ⟨_, rfl, .inl rfl⟩
        · exact ⟨_, rfl, .inr rfl⟩
      have ht10 : H10 t8 = some (.tup (ws.map V.str)) := b10 _ _ (p8.ne_tup upd_same) (z9 _ _ upd_same)
      have bt10 := bt38.trans ((But.of z9).trans b10)
      refine ⟨(by show 3 ≤ sizeLine; decide), fun t11 n11 => ?_⟩
      have z11 := same_new n11 (o := .tup [.str ys[j], .ref t8, .str kd])
      have hD11 := z11 _ _ (bt10 _ _ (Ne.symm naD) hD)
      refine ⟨D, _, _, rfl, rfl, hD11, ?_, ?_⟩
      · have hl := congrArg List.length hmap
        rw [List.length_map, List.length_take] at hl
        rw [List.length_map, Paired.length prs, hl]
        exact Nat.lt_of_le_of_lt (show min j ys.length ≤ 10 by omega) (by decide)
      · have nD0 : ∀ c o, H c = some o → c ≠ D := fun c o e => ne_of_none e nD
        have upD : ∀ (c : Addr) (o o2 : HO), upd H10 t11 (.tup [.str ys[j], .ref t8, .str kd]) c = some o → c ≠ D → upd (upd H10 t11 (.tup [.str ys[j], .ref t8, .str kd])) D o2 c = some o := fun c o o2 e nc => by
          rw [upd_ne nc]
          exact e
        have tupD : ∀ (c : Addr) (xs : List V) (o2 : HO), upd H10 t11 (.tup [.str ys[j], .ref t8, .str kd]) c = some (.tup xs) → upd (upd H10 t11 (.tup [.str ys[j], .ref t8, .str kd])) D o2 c = some (.tup xs) := fun c xs o2 e =>
          upD c _ _ e (ne_of e hD11 (by intro z; cases z))
        refine ⟨_, _, _, as ++ [t11], gs ++ [(ys[j], ws, kd)], rfl, ?_, ?_, ?_, ?_, ?_, ?_, ?_⟩
        · intro c o nc ec
          rw [upd_ne (nD0 c o ec)]
          exact z11 _ _ (bt10 _ _ nc (bt _ _ nc ec))
        · obtain ⟨u0, u1, u2, e1, e2⟩ := p10
          exact ⟨u0, u1, u2, upD _ _ _ (z11 _ _ e1) naD, e2.more (by omega)⟩
        · exact tupD _ _ _ (z11 _ _ (bt10 _ _ (hp.ne_tup hpp) hpp))
        · rw [upd_same, List.map_append]
          rfl
        · refine pair_snoc (Paired.mapP prs fun c g hg => ?_) ⟨t8, tupD _ _ _ upd_same, tupD _ _ _ (z11 _ _ ht10)⟩
          obtain ⟨i, e1, e2⟩ := hg.but hp bt10
          exact ⟨i, tupD _ _ _ (z11 _ _ e1), tupD _ _ _ (z11 _ _ e2)⟩
        · rw [List.map_append, hmap, List.take_add_one, List.getElem?_eq_getElem hj]
          rfl
        · intro g hg
          rcases List.mem_append.mp hg with hg | hg
          · exact hgok g hg
          · rw [List.mem_singleton.mp hg]
            exact ⟨nms.nm _ (List.getElem_mem hj), ⟨zs, m, pm, pm7, hm2, hm3⟩, st7, hkd⟩
    · obtain ⟨v4, v5, v6, as, gs, rfl, bt, hp, hpp, hD, prs, hmap, hgok⟩ := hP
      rw [List.length_map] at hp hmap
      rw [List.take_length] at hmap
      refine ⟨_, rfl, D, _, rfl, .inl ⟨SqL.of hD, fun t nt => ?_⟩⟩
      have zt := same_new nt (o := .tup (as.map V.ref))
      exact q _ t as gs (bt.trans (.of zt)) ((hp.same zt).more (by omega)) upd_same (Paired.mapP prs fun _ _ z => z.same zt) (by rw [hmap]; exact nms) hgok
/-- world(hand, most regions, most gateways) -/
def spWorld : Sp := fun vs H Q _ => ∃ (a : Addr) (b mr mgt : Nat), vs = [.ref a, .int mr, .int mgt] ∧ PotAt H a b ∧ b ≤ 70000 ∧ 1 ≤ mr ∧ mr ≤ 10 ∧ mgt ≤ 10 ∧
  ∀ (H' : Hp) (p r g : Addr) (as : List Addr) (rs : List Str) (gs : List Gt), But a H H' → PotAt H' a (b + 300) → WorldAt H' p r g as rs gs → WorldOk rs gs → rs.length ≤ mr → gs.length ≤ mgt → Q (.ref p) H'
theorem ok_world (F : Fun K "_law_world" "_law_world" st_world f fd) (B : Blt mg) (F_take : Df P w K mg base "_law_take" 1 fT fdT ["_law_hand_here", "_law_many"] spTake)
    (F_names : Df P w K mg base "_law_names" 3 fN fdN ["_law_hand_here", "_law_count"] spNames) (F_gateways : Df P w K mg base "_law_gateways" 4 fG fdG ["_law_hand_here", "_law_regions", "_law_count"] spGates) :
    FnG P w K mg base CX0 5 f fd ["_law_hand_here", "_law_most_regions", "_law_most_gateways"] spWorld := by
  refine okG F sc_world (fun vs H Q E h => ?_) (fun cdv A outer s H vs Q E hgd hr h => ?_)
  · obtain ⟨_, _, _, _, rfl, _⟩ := h
    rfl
  · obtain ⟨a, b, mr, mgt, rfl, ha, hb, hm1, hm2, hm3, q⟩ := h
    refine ⟨_, (pss_cons (ps_set (i := 3) sc_world.nd rfl (.inl rfl) (pe_callG hgd F_names.G (hr.mono (by decide)) (by rfl) F_names.g F_names.kp F_names.bd pass0 (pa_cons (pv 0) (pa_cons (pe_op op_add pe_int (pe_callG hgd F_take.G (hr.mono (by decide)) (by rfl) F_take.g F_take.kp F_take.bd pass0 (pa_cons (pv 0) (pa_cons (pv 1) pa_nil)))) pa_nil))))
      (pss_cons (ps_set (i := 4) sc_world.nd rfl (.inl rfl) (pe_ifExp (pt_cmpR op_gt (pe_callB call_len (by rfl) B.len (by decide +kernel) (pa_cons (pv 3) pa_nil)) pe_int (nomark _)) (pe_callG hgd F_take.G (hr.mono (by decide)) (by rfl) F_take.g F_take.kp F_take.bd pass0 (pa_cons (pv 0) (pa_cons (pe_op op_add (pv 2) pe_int) pa_nil))) pe_int))
      (pss_one (ps_ret (pe_tup (pa_cons (pv 3) (pa_cons (pe_callG hgd F_gateways.G (hr.mono (by decide)) (by rfl) F_gateways.g F_gateways.kp F_gateways.bd pass0 (pa_cons (pv 0) (pa_cons (pv 3) (pa_cons (pv 4) pa_nil)))) pa_nil))))))), ?_⟩
    refine ⟨_, rfl, _, rfl, _, rfl, a, b, (mr : Int), rfl, ha, by omega, by omega, by omega, fun H1 r b1 p1 r0 r1 => ?_⟩
    obtain ⟨j, rfl⟩ := Int.eq_ofNat_of_zero_le r0
    refine ⟨1, (j : Int), rfl, rfl, a, b + 1, 1 + j, rfl, p1, by omega, by omega, fun H2 rg rs b2 p2 hrg nms => ?_⟩
    have hlr := nms.length
    refine ⟨_, rfl, _, rs.length, rfl, .inr ⟨_, SqT.of hrg, (List.length_map ..).symm⟩, (rs.length : Int), 1, rfl, rfl, _, rfl, ite2 (fun e => ?_) fun e => ?_⟩
    · have e1 : (1 : Int) < rs.length := of_decide_eq_true e
      refine ⟨_, rfl, _, rfl, (mgt : Int), 1, rfl, rfl, a, b + 1 + 9, (mgt : Int) + 1, rfl, p2, by omega, by omega, by omega, fun H3 u b3 p3 u0 u1 => ?_⟩
      obtain ⟨n, rfl⟩ := Int.eq_ofNat_of_zero_le u0
      have hrg3 := b3 _ _ (p2.ne_tup hrg) hrg
      refine ⟨_, rfl, _, rfl, _, rfl, _, rfl, a, rg, b + 1 + 9 + 1, n, rs, rfl, p3, by omega, hrg3, by omega, fun s hs => (nms.nm s hs).ok, by omega, fun _ => by omega, fun H4 p as gs b4 p4 hp4 pr4 ng4 gok => ?_⟩
      refine ⟨(by show 2 ≤ sizeLine; decide), fun t nt => ?_⟩
      have z := same_new nt (o := .tup [.ref rg, .ref p])
      refine q _ t rg p as rs gs (b1.trans (b2.trans (b3.trans (b4.trans (.of z))))) ((p4.same z).more (by omega)) ⟨upd_same, z _ _ (b4 _ _ (p3.ne_tup hrg3) hrg3), z _ _ hp4, Paired.mapP pr4 fun _ _ y => y.same z⟩ ⟨⟨1 + j, by omega, by omega, nms⟩, ⟨n, by omega, ng4⟩, gok⟩ (by omega) (by have := ng4.length; rw [List.length_map] at this; omega)
    · refine ⟨_, rfl, _, rfl, _, rfl, _, rfl, a, rg, b + 1 + 9, 0, rs, rfl, p2, by omega, hrg, by omega, fun s hs => (nms.nm s hs).ok, by omega, fun z => absurd rfl z, fun H4 p as gs b4 p4 hp4 pr4 ng4 gok => ?_⟩
      refine ⟨(by show 2 ≤ sizeLine; decide), fun t nt => ?_⟩
      have z := same_new nt (o := .tup [.ref rg, .ref p])
      refine q _ t rg p as rs gs (b1.trans (b2.trans (b4.trans (.of z)))) ((p4.same z).more (by omega)) ⟨upd_same, z _ _ (b4 _ _ (p2.ne_tup hrg) hrg), z _ _ hp4, Paired.mapP pr4 fun _ _ y => y.same z⟩ ⟨⟨1 + j, by omega, by omega, nms⟩, ⟨0, by omega, ng4⟩, gok⟩ (by omega) (by have := ng4.length; rw [List.length_map] at this; omega)
end
end K12

set_option Elab.async false
set_option linter.all false
namespace WT
open PySem PySem.Spec PyProof.Rows L2
/-! ### regions that gateways connect: the mathematics -/
def Adj (gs : List Gt) (bar : List Str) (x y : Str) : Prop := ∃ g ∈ gs, g.1 ∉ bar ∧ x ∈ g.2.1 ∧ y ∈ g.2.1
inductive Conn (gs : List Gt) (bar : List Str) (x : Str) : Str → Prop
  | refl : Conn gs bar x x
  | step {y z : Str} : Conn gs bar x y → Adj gs bar y z → Conn gs bar x z
theorem Adj.symm {gs : List Gt} {bar : List Str} {x y : Str} (h : Adj gs bar x y) : Adj gs bar y x := by
  obtain ⟨g, h1, h2, h3, h4⟩ := h
  exact ⟨g, h1, h2, h4, h3⟩
theorem Conn.trans {gs : List Gt} {bar : List Str} {x y z : Str} (h : Conn gs bar x y) (k : Conn gs bar y z) : Conn gs bar x z := by
  induction k with
  | refl => exact h
  | step _ a ih => exact ih.step a
theorem Conn.symm {gs : List Gt} {bar : List Str} {x y : Str} (h : Conn gs bar x y) : Conn gs bar y x := by
  induction h with
  | refl => exact .refl
  | step _ a ih => exact (Conn.refl.step a.symm).trans ih
/-- what exits returns -/
def exitsL (gs : List Gt) (bar : List Str) (x : Str) : List (Str × Str) := gs.flatMap fun g => if x ∈ g.2.1 ∧ g.1 ∉ bar then (g.2.1.filter fun y => decide (y ≠ x)).map fun y => (g.1, y) else []
theorem exits_adj {gs : List Gt} {bar : List Str} {x : Str} {e : Str × Str} (h : e ∈ exitsL gs bar x) : Adj gs bar x e.2 := by
  unfold exitsL at h
  obtain ⟨g, hg, he⟩ := List.mem_flatMap.mp h
  by_cases c : x ∈ g.2.1 ∧ g.1 ∉ bar
  · rw [if_pos c] at he
    obtain ⟨y, hy, rfl⟩ := List.mem_map.mp he
    exact ⟨g, hg, c.2, c.1, (List.mem_filter.mp hy).1⟩
  · rw [if_neg c] at he
    cases he
theorem adj_exits {gs : List Gt} {bar : List Str} {x y : Str} (h : Adj gs bar x y) (n : y ≠ x) : ∃ e ∈ exitsL gs bar x, e.2 = y := by
  obtain ⟨g, hg, h1, h2, h3⟩ := h
  refine ⟨(g.1, y), ?_, rfl⟩
  unfold exitsL
  refine List.mem_flatMap.mpr ⟨g, hg, ?_⟩
  rw [if_pos ⟨h2, h1⟩]
  exact List.mem_map.mpr ⟨y, List.mem_filter.mpr ⟨h3, decide_eq_true n⟩, rfl⟩
/-- a set of regions that no exit leaves has all that is connected -/
theorem closed_conn {gs : List Gt} {bar : List Str} {x y : Str} {ks : List Str} (hx : x ∈ ks) (hc : ∀ k ∈ ks, ∀ z, Adj gs bar k z → z ∈ ks) (h : Conn gs bar x y) : y ∈ ks := by
  induction h with
  | refl => exact hx
  | step _ a ih => exact hc _ ih _ a
/-- different ones among rs are at most as many -/
theorem nodup_le {α : Type} [DecidableEq α] : ∀ {ks rs : List α}, ks.Nodup → (∀ k ∈ ks, k ∈ rs) → ks.length ≤ rs.length
  | [], _, _, _ => Nat.zero_le _
  | k :: ks, rs, hn, hs => by
    have hk := hs k List.mem_cons_self
    obtain ⟨hk1, hk2⟩ := List.nodup_cons.mp hn
    have ih := nodup_le (ks := ks) (rs := rs.erase k) hk2 fun z hz => by
      have := hs z (List.mem_cons_of_mem _ hz)
      exact (List.mem_erase_of_ne (fun (e : z = k) => hk1 (e ▸ hz))).mpr this
    have := List.length_erase_of_mem hk
    have : 0 < rs.length := List.length_pos_of_mem hk
    rw [List.length_cons]
    omega
theorem inV_str (x : Str) : ∀ ss : List Str, inV (.str x) (ss.map V.str) = decide (x ∈ ss)
  | [] => by simp [inV]
  | s :: ss => by
    have ih := inV_str x ss
    unfold inV at ih ⊢
    rw [List.map_cons, List.any_cons, ih]
    by_cases h : x = s
    · subst h
      simp [eqV]
    · have : ¬ s = x := fun z => h z.symm
      simp [eqV, h, this]
theorem flat_strs : ∀ ss : List Str, (ss.map V.str).all flatV = true
  | [] => rfl
  | _ :: ss => by
    rw [List.map_cons, List.all_cons, flat_strs ss]
    rfl
theorem exits_len {gs : List Gt} {bar : List Str} {x : Str} (h : ∀ g ∈ gs, g.2.1.length ≤ 100) : (exitsL gs bar x).length ≤ gs.length * 100 := by
  induction gs with
  | nil => exact Nat.zero_le _
  | cons g gs ih =>
    have := ih fun y hy => h y (List.mem_cons_of_mem _ hy)
    have hg := h g List.mem_cons_self
    unfold exitsL at this ⊢
    rw [List.flatMap_cons, List.length_append, List.length_cons, Nat.add_mul]
    have : (if x ∈ g.2.1 ∧ g.1 ∉ bar then (g.2.1.filter fun y => decide (y ≠ x)).map fun y => (g.1, y) else []).length ≤ 100 := by
      by_cases c : x ∈ g.2.1 ∧ g.1 ∉ bar
      · rw [if_pos c, List.length_map]
        exact Nat.le_trans (List.length_filter_le _ _) hg
      · rw [if_neg c]
        exact Nat.zero_le _
    omega
theorem pair_at {α β : Type} {R : α → β → Prop} : ∀ {l : List α} {m : List β} {i : Nat} {x : α}, Paired R l m → l[i]? = some x → ∃ y, m[i]? = some y ∧ R x y
  | _, _, _, _, .nil, h => by simp at h
  | _, _, 0, _, .cons r _, h => by
    cases h
    exact ⟨_, rfl, r⟩
  | _, _, i + 1, _, .cons _ t, h => pair_at (i := i) t h
theorem pair_app {α β : Type} {R : α → β → Prop} : ∀ {l l2 : List α} {m m2 : List β}, Paired R l m → Paired R l2 m2 → Paired R (l ++ l2) (m ++ m2)
  | _, _, _, _, .nil, r => r
  | _, _, _, _, .cons r t, q => .cons r (pair_app t q)
theorem valV_mem {κ : Type} [DecidableEq κ] {k : κ} {v : V} : ∀ {kvs : List (κ × V)}, valV kvs k = some v → (k, v) ∈ kvs
  | [], h => by cases h
  | p :: r, h => by
    by_cases e : p.1 = k
    · rw [valV_pos e] at h
      cases h
      rw [← e]
      exact List.mem_cons_self
    · rw [valV_neg e] at h
      exact List.mem_cons_of_mem _ (valV_mem h)
theorem valV_some {κ : Type} [DecidableEq κ] {k : κ} : ∀ {kvs : List (κ × V)}, k ∈ kvs.map (·.1) → ∃ v, valV kvs k = some v
  | [], h => by cases h
  | p :: r, h => by
    by_cases e : p.1 = k
    · exact ⟨_, valV_pos e⟩
    · rw [valV_neg e]
      rcases List.mem_cons.mp h with h | h
      · exact absurd h.symm e
      · exact valV_some h
theorem valV_none {κ : Type} [DecidableEq κ] {k : κ} {kvs : List (κ × V)} (h : k ∉ kvs.map (·.1)) : valV kvs k = none := by
  cases e : valV kvs k with
  | none => rfl
  | some v => exact absurd (List.mem_map.mpr ⟨_, valV_mem e, rfl⟩) h
/-- the search so far: the regions that have a path, each path a tuple -/
structure Bfs (gs : List Gt) (bar rs : List Str) (one : Str) (H : Hp) (kvs : List (Key × V)) (ks : List Str) : Prop where
  keys : kvs.map (·.1) = ks.map Sum.inr
  nod : ks.Nodup
  has : one ∈ ks
  con : ∀ k ∈ ks, Conn gs bar one k ∧ k ∈ rs
  tup : ∀ p ∈ kvs, ∃ (t : Addr) (xs : List V), p.2 = .ref t ∧ H t = some (.tup xs) ∧ xs ≠ [] ∧ xs.length ≤ 2 * kvs.length
theorem Bfs.len {gs : List Gt} {bar rs : List Str} {one : Str} {H : Hp} {kvs : List (Key × V)} {ks : List Str} (h : Bfs gs bar rs one H kvs ks) : kvs.length = ks.length ∧ ks.length ≤ rs.length := by
  have := congrArg List.length h.keys
  rw [List.length_map, List.length_map] at this
  exact ⟨this, nodup_le h.nod fun k hk => (h.con k hk).2⟩
theorem Bfs.mem {gs : List Gt} {bar rs : List Str} {one k : Str} {H : Hp} {kvs : List (Key × V)} {ks : List Str} (h : Bfs gs bar rs one H kvs ks) : Sum.inr k ∈ kvs.map (·.1) ↔ k ∈ ks := by
  rw [h.keys]
  constructor
  · intro z
    obtain ⟨y, hy, e⟩ := List.mem_map.mp z
    cases e
    exact hy
  · exact fun z => List.mem_map.mpr ⟨k, z, rfl⟩
theorem Bfs.get {gs : List Gt} {bar rs : List Str} {one k : Str} {H : Hp} {kvs : List (Key × V)} {ks : List Str} (h : Bfs gs bar rs one H kvs ks) (hk : k ∈ ks) : ∃ (t : Addr) (xs : List V), valV kvs (Sum.inr k) = some (.ref t) ∧ H t = some (.tup xs) ∧ xs ≠ [] ∧ xs.length ≤ 2 * kvs.length := by
  obtain ⟨v, hv⟩ := valV_some (h.mem.mpr hk)
  obtain ⟨t, xs, e, r⟩ := h.tup _ (valV_mem hv)
  have e : v = .ref t := e
  exact ⟨t, xs, by rw [hv, e], r⟩
theorem Bfs.same {gs : List Gt} {bar rs : List Str} {one : Str} {H H' : Hp} {kvs : List (Key × V)} {ks : List Str} (h : Bfs gs bar rs one H kvs ks) (s : ∀ t xs, H t = some (.tup xs) → H' t = some (.tup xs)) : Bfs gs bar rs one H' kvs ks :=
  ⟨h.keys, h.nod, h.has, h.con, fun p hp => by
    obtain ⟨t, xs, e1, e2, e3⟩ := h.tup p hp
    exact ⟨t, xs, e1, s _ _ e2, e3⟩⟩
theorem Bfs.put {gs : List Gt} {bar rs : List Str} {one k : Str} {H : Hp} {kvs : List (Key × V)} {ks : List Str} {t : Addr} {xs : List V} (h : Bfs gs bar rs one H kvs ks) (hk : k ∉ ks) (hc : Conn gs bar one k) (hr : k ∈ rs) (ht : H t = some (.tup xs)) (hx : xs ≠ []) (hl : xs.length ≤ 2 * kvs.length + 2) :
    putK kvs (Sum.inr k) (.ref t) = kvs ++ [(Sum.inr k, .ref t)] ∧ Bfs gs bar rs one H (kvs ++ [(Sum.inr k, .ref t)]) (ks ++ [k]) := by
  refine ⟨putK_new _ (valV_none fun z => hk (h.mem.mp z)), ?_, ?_, List.mem_append_left _ h.has, fun y hy => ?_, fun p hp => ?_⟩
  · rw [List.map_append, List.map_append, h.keys]
    rfl
  · refine List.nodup_append.mpr ⟨h.nod, by simp, fun a ha b hb e => ?_⟩
    rw [List.mem_singleton.mp hb] at e
    exact hk (e ▸ ha)
  · rcases List.mem_append.mp hy with hy | hy
    · exact h.con y hy
    · rw [List.mem_singleton.mp hy]
      exact ⟨hc, hr⟩
  · rw [List.length_append]
    rcases List.mem_append.mp hp with hp | hp
    · obtain ⟨t', xs', e1, e2, e3, e4⟩ := h.tup p hp
      exact ⟨t', xs', e1, e2, e3, by simp; omega⟩
    · rw [List.mem_singleton.mp hp]
      exact ⟨t, xs, rfl, ht, hx, by simp; omega⟩
theorem ifT {c : Bool} {A B : Prop} (h : c = true) (x : A) : if c = true then A else B := by
  rw [if_pos h]
  exact x
theorem ifF {c : Bool} {A B : Prop} (h : c = false) (x : B) : if c = true then A else B := by
  rw [h, if_neg Bool.false_ne_true]
  exact x
/-- what the search hands back -/
theorem Bfs.out {gs : List Gt} {bar rs : List Str} {one other : Str} {H : Hp} {kvs : List (Key × V)} {ks far : List Str} (h : Bfs gs bar rs one H kvs ks) (hc : ∀ k ∈ ks, k ∉ far → ∀ z, Adj gs bar k z → z ∈ ks) (hd : far = [] ∨ other ∈ ks) :
    (valV kvs (Sum.inr other)).getD .non ≠ .non ↔ Conn gs bar one other := by
  by_cases ho : other ∈ ks
  · obtain ⟨t, xs, e, _⟩ := h.get ho
    rw [e]
    exact ⟨fun _ => (h.con _ ho).1, fun _ z => by cases z⟩
  · rw [valV_none fun z => ho (h.mem.mp z)]
    refine ⟨fun z => absurd rfl z, fun z => absurd (closed_conn h.has (fun k hk => ?_) z) ho⟩
    rcases hd with rfl | hd
    · exact hc k hk (by simp)
    · exact absurd hd ho
end WT

set_option Elab.async false
set_option linter.all false
set_option maxRecDepth 100000
set_option maxHeartbeats 4000000
namespace K12
open PySem PySem.Spec PyProof.Rows L2 WT
abbrev st_exits : Stmt := top 12
theorem sc_exits : FnScope ["world", "region", "without", "ways", "name", "those", "kind", "other"] ["world", "region", "without"] (defScope st_exits) := ⟨rfl, rfl, rfl, by decide +kernel, rfl, by decide +kernel, by decide +kernel⟩
section
variable {P : Program} {w : World} {K : PySem.W.Frag} {mg : Str → Option Value} {base : Heap} {f : Addr} {fd : FuncData}
def PairAt (H : Hp) (t : Addr) (e : Str × Str) : Prop := H t = some (.tup [.str e.1, .str e.2])
/-- exits(world, region, without) -/
def spExits (K : PySem.W.Frag) : Sp := fun vs H Q _ => ∃ (wa r g wo : Addr) (as : List Addr) (rs : List Str) (gs : List Gt) (x : Str) (bar : List Str), vs = [.ref wa, .str x, .ref wo] ∧ WorldAt H wa r g as rs gs ∧ SqT K H wo (bar.map V.str) ∧ gs.length ≤ 100 ∧ (∀ g ∈ gs, g.2.1.length ≤ 100) ∧
  ∀ (H' : Hp) (p : Addr) (ts : List Addr), Same H H' → H p = none → H' p = some (.lst (ts.map V.ref)) → Paired (PairAt H') ts (exitsL gs bar x) → Q (.ref p) H'
theorem ok_exits (F : Fun K "exits" "exits" st_exits f fd) : FnG P w K mg base CX0 1 f fd ["world", "region", "without"] (spExits K) := by
  refine okG F sc_exits (fun vs H Q E h => ?_) (fun cdv A outer s H vs Q E hgd hr h => ?_)
  · obtain ⟨_, _, _, _, _, _, _, _, _, rfl, _⟩ := h
    rfl
  · obtain ⟨wa, r, g, wo, as, rs, gs, x, bar, rfl, hw, hwo, hgl, hil, q⟩ := h
    refine ⟨_, (pss_cons (ps_set (i := 3) sc_exits.nd rfl (.inl rfl) (pe_lst pa_nil))
      (pss_cons (ps_for PassesOwn.never rfl (pi_tup (pe_ix ix_tup (pv 0) pe_int (fun _ _ => rfl))) (pg_tup rfl (pgs_cons (pg_name (i := 4) sc_exits.nd rfl (.inr rfl)) (pgs_cons (pg_name (i := 5) sc_exits.nd rfl (.inl rfl)) (pgs_cons (pg_name (i := 6) sc_exits.nd rfl (.inl rfl)) pgs_nil))))
       (pss_one (ps_if (PW.pt (pw_and (pt_cmpR op_in_seq (pv 1) (pv 5) (by rfl)) (pw_and1 (pt_cmpR op_notIn_seq (pv 4) (pv 2) (by rfl)))))
        (pss_one (ps_expr (pe_bm PySem.F.plainAttrs_list PySem.F.slot_list_extend PySem.F.type_list_extend mt_extend (pv 3) (pa_cons (pe_lc (own := [("other", 7)]) (by rfl) sc_exits.nd (pi_tup (pv 5)) (blkOk_by (own := [("other", 7)]) (N := ["world", "region", "without", "ways", "name", "those", "kind", "other"]) (sc := defScope st_exits) (by decide +kernel)) (fun _ _ _ _ _ => (pg_name (i := 7) sc_exits.nd rfl (.inl rfl))) (fun _ _ _ _ _ => (pts_one (pt_cmpR op_ne (pv 7) (pv 1) (nomark _)))) (fun _ _ _ _ _ => (pe_tup (pa_cons (pv 4) (pa_cons (pv 7) pa_nil))))) pa_nil))))
        pss_nil)))
      (pss_one (ps_ret (pv 3))))), ?_⟩
    refine ⟨(by show 0 ≤ sizeLine; decide), fun D nD => ?_⟩
    have z0 := same_new nD (o := .lst [])
    have hw0 := hw.same z0
    have hlen := Paired.length hw.each
    refine ⟨_, rfl, wa, _, 1, .ref g, rfl, rfl, SqT.of hw0.top, atI_nat (j := 1) rfl, g, rfl, ⟨_, SqT.of hw0.gat⟩, for_it (walk_tup (xs := as.map V.ref))
      (fun j σ H' => ∃ (v4 v5 v6 : Option V) (ts : List Addr), σ = [some (.ref wa), some (.str x), some (.ref wo), some (.ref D), v4, v5, v6, none] ∧ Same H H' ∧ H' D = some (.lst (ts.map V.ref)) ∧ Paired (PairAt H') ts (exitsL (gs.take j) bar x))
      ⟨none, none, none, [], rfl, z0, upd_same, .nil⟩ (fun j σ H' _ ⟨_, _, _, _, _, sm, _⟩ => SqT.of (hw.same sm).gat) (fun j v σ H2 H3 hj hP hY => ?_) (fun σ H' hP => ?_)⟩
    · obtain ⟨v4, v5, v6, ts, rfl, sm, hD, prs⟩ := hP
      obtain ⟨rfl, hv⟩ := hY
      rw [List.length_map] at hj
      rw [List.getElem?_map, List.getElem?_eq_getElem hj] at hv
      cases hv
      have hj2 : j < gs.length := by omega
      obtain ⟨gg, hgg, ia, e1, e2⟩ := pair_at (hw.same sm).each (List.getElem?_eq_getElem hj)
      rw [List.getElem?_eq_getElem hj2] at hgg
      have hgj : gs[j] = gg := Option.some.inj hgg
      have step : exitsL (gs.take (j + 1)) bar x = exitsL (gs.take j) bar x ++ (if x ∈ gg.2.1 ∧ gg.1 ∉ bar then (gg.2.1.filter fun y => decide (y ≠ x)).map fun y => (gg.1, y) else []) := by
        unfold exitsL
        rw [List.take_add_one, List.getElem?_eq_getElem hj2, hgj, List.flatMap_append]
        simp
      refine ⟨_, [.str gg.1, .ref ia, .str gg.2.2], rfl, SqT.of e1, rfl, .str gg.1, _, rfl, .ref ia, _, rfl, .str gg.2.2, [], rfl, rfl, ?_⟩
      -- region in those and name not in without
      refine ⟨_, rfl, _, rfl, ia, _, rfl, .inr (SqT.of e2), rfl, WT.flat_strs _, _, rfl, ?_⟩
      rw [inV_str]
      by_cases c1 : x ∈ gg.2.1
      · rw [decide_eq_true c1]
        refine iteT ⟨_, rfl, _, rfl, wo, _, rfl, .inr (sameT sm hwo), rfl, WT.flat_strs _, _, rfl, ?_⟩
        rw [inV_str]
        by_cases c2 : gg.1 ∈ bar
        · rw [decide_eq_true c2]
          refine iteF ⟨_, _, _, ts, rfl, sm, hD, ?_⟩
          rw [step, if_neg fun z => z.2 c2, List.append_nil]
          exact prs
        · rw [decide_eq_false c2]
          refine iteT ?_
          rw [if_pos ⟨c1, c2⟩] at step
          refine ⟨_, rfl, .inl ⟨rfl, _, SqL.of hD⟩, _, rfl, ia, rfl, ⟨_, SqT.of e2⟩, fun L nL => lc_tup (K := K) (a := ia) (xs := gg.2.1.map V.str) (fun m H' => Same H3 H' ∧ ∃ us : List Addr, H' L = some (.lst (us.map V.ref)) ∧ Paired (PairAt H') us (((gg.2.1.take m).filter fun y => decide (y ≠ x)).map fun y => (gg.1, y)))
            ⟨same_new nL, [], upd_same, .nil⟩ (fun m H' _ ⟨s', _⟩ => SqT.of (s' _ _ e2)) (fun m v H4 hm hP => ?_) fun H4 hP => ?_⟩
          · obtain ⟨s4, us, hL, pu⟩ := hP
            rw [List.getElem?_map] at hm
            obtain ⟨y, hy, rfl⟩ := Option.map_eq_some_iff.mp hm
            have stp : (gg.2.1.take (m + 1)).filter (fun y => decide (y ≠ x)) = (gg.2.1.take m).filter (fun y => decide (y ≠ x)) ++ (if y ≠ x then [y] else []) := by
              rw [List.take_add_one, hy, List.filter_append]
              by_cases c : y = x
              · rw [if_neg fun z => z c]
                simp [c]
              · rw [if_pos c]
                simp [c]
            refine ⟨rfl, _, rfl, _, rfl, rfl, _, rfl, ?_⟩
            by_cases c : y = x
            · subst c
              rw [show (!decide (V.str y = V.str y)) = false by simp]
              refine iteF ⟨s4, us, hL, ?_⟩
              rw [stp, if_neg fun z => z rfl, List.append_nil]
              exact pu
            · rw [show (!decide (V.str y = V.str x)) = true by simp [c]]
              refine iteT ⟨_, rfl, _, rfl, (by show 2 ≤ sizeLine; decide), fun t nt => ?_⟩
              have z5 := same_new nt (o := .tup [.str gg.1, .str y])
              have hul : us.length ≤ 100 := by
                have e := Paired.length pu
                rw [List.length_map] at e
                have l1 := List.length_filter_le (fun y => decide (y ≠ x)) (gg.2.1.take m)
                have l2 : (gg.2.1.take m).length ≤ gg.2.1.length := by rw [List.length_take]; exact Nat.min_le_right _ _
                have l3 := hil gg (hgj ▸ List.getElem_mem hj2)
                omega
              have keepL : ∀ (c : Addr) (xs : List V) (o : HO), upd H4 t (.tup [.str gg.1, .str y]) c = some (.tup xs) → upd (upd H4 t (.tup [.str gg.1, .str y])) L o c = some (.tup xs) := fun c xs o e => by
                rw [upd_ne (ne_of e (z5 _ _ hL) (by intro z; cases z))]
                exact e
              refine ⟨_, z5 _ _ hL, ?_, ?_, us ++ [t], ?_, ?_⟩
              · rw [List.length_map]
                exact Nat.lt_of_le_of_lt hul (by decide)
              · intro c o ec
                rw [upd_ne (ne_of_none ec nL)]
                exact z5 _ _ (s4 _ _ ec)
              · rw [upd_same, List.map_append]
                rfl
              · rw [stp, if_pos c, List.map_append]
                exact pair_snoc (Paired.mapP pu fun c e h => keepL _ _ _ (z5 _ _ h)) (keepL _ _ _ upd_same)
          · obtain ⟨s4, us, hL, pu⟩ := hP
            rw [List.length_map, List.take_length] at pu
            have hD4 := s4 _ _ hD
            have nLD : L ≠ D := Ne.symm (ne_of_none hD nL)
            refine ⟨D, L, _, _, rfl, rfl, hD4, hL, ?_, ?_⟩
            · rw [List.length_map, List.length_map]
              have a1 := Paired.length prs
              have a2 := Paired.length pu
              have b1 := exits_len (gs := gs.take j) (bar := bar) (x := x) fun g hg => hil g (List.mem_of_mem_take hg)
              have b2 : (gs.take j).length ≤ gs.length := by rw [List.length_take]; exact Nat.min_le_right _ _
              have b3 : ((gg.2.1.filter fun y => decide (y ≠ x)).map fun y => (gg.1, y)).length ≤ 100 := by
                rw [List.length_map]
                exact Nat.le_trans (List.length_filter_le _ _) (hil gg (hgj ▸ List.getElem_mem hj2))
              have b4 : (gs.take j).length * 100 ≤ 100 * 100 := Nat.mul_le_mul (by omega) (by omega)
              exact Nat.le_trans (show ts.length + us.length ≤ 20000 by omega) (by decide)
            · have keepD : ∀ (c : Addr) (xs : List V) (o : HO), H4 c = some (.tup xs) → upd H4 D o c = some (.tup xs) := fun c xs o e => by
                rw [upd_ne (ne_of e hD4 (by intro z; cases z))]
                exact e
              refine ⟨_, _, _, ts ++ us, rfl, ?_, ?_, ?_⟩
              · intro c o ec
                rw [upd_ne (ne_of_none ec nD)]
                exact s4 _ _ (sm _ _ ec)
              · rw [upd_same, List.map_append]
              · rw [step]
                exact pair_app (Paired.mapP prs fun c e h => keepD _ _ _ (s4 _ _ h)) (Paired.mapP pu fun c e h => keepD _ _ _ h)
      · rw [decide_eq_false c1]
        refine iteF (iteF ⟨_, _, _, ts, rfl, sm, hD, ?_⟩)
        rw [step, if_neg fun z => c1 z.1, List.append_nil]
        exact prs
    · obtain ⟨v4, v5, v6, ts, rfl, sm, hD, prs⟩ := hP
      rw [List.length_map, hlen, List.take_length] at prs
      exact ⟨_, rfl, q _ D ts sm nD hD prs⟩
end
end K12

set_option Elab.async false
set_option linter.all false
namespace WT
open PySem PySem.Spec PyProof.Rows L2
/-! ### groups by labels: the mathematics -/
def labK (rs : List Str) (lab : Str → Int) : List (Key × V) := rs.map fun x => (Sum.inr x, V.int (lab x))
theorem keys_labK (rs : List Str) (lab : Str → Int) : (labK rs lab).map (·.1) = rs.map Sum.inr := by
  unfold labK
  rw [List.map_map]
  rfl
theorem val_labK {x : Str} {lab : Str → Int} : ∀ {rs : List Str}, x ∈ rs → valV (labK rs lab) (Sum.inr x) = some (.int (lab x))
  | r :: rs, h => by
    by_cases e : r = x
    · subst e
      exact valV_pos (p := (Sum.inr r, V.int (lab r))) rfl
    · have ne : ¬ (Sum.inr r : Key) = Sum.inr x := fun z => e (Sum.inr.inj z)
      have := val_labK (lab := lab) (rs := rs) ((List.mem_cons.mp h).resolve_left fun z => e z.symm)
      exact (valV_neg (p := (Sum.inr r, V.int (lab r))) ne).trans this
theorem put_labK {x : Str} {lab : Str → Int} {c : Int} {rs : List Str} (h : x ∈ rs) : putK (labK rs lab) (Sum.inr x) (.int c) = labK rs (fun z => if z = x then c else lab z) := by
  unfold putK
  rw [if_pos]
  · unfold labK
    rw [List.map_map]
    refine List.map_congr_left fun z _ => ?_
    show (if (Sum.inr z : Key) = Sum.inr x then ((Sum.inr z : Key), V.int c) else (Sum.inr z, V.int (lab z))) = (Sum.inr z, V.int (if z = x then c else lab z))
    by_cases e : z = x
    · rw [if_pos (congrArg Sum.inr e), if_pos e]
    · rw [if_neg (fun q => e (Sum.inr.inj q)), if_neg e]
  · refine List.any_eq_true.mpr ⟨(Sum.inr x, V.int (lab x)), List.mem_map.mpr ⟨x, h, rfl⟩, ?_⟩
    simp
theorem merge_labK {lab : Str → Int} : ∀ (bs as : List Str), (as ++ bs).Nodup → mergeK (labK as lab) (labK bs lab) = labK (as ++ bs) lab
  | [], as, _ => by
    rw [List.append_nil]
    rfl
  | b :: bs, as, h => by
    have h2 : (as ++ [b] ++ bs).Nodup := by
      rw [List.append_assoc]
      exact h
    have nb : b ∉ as := fun z => (List.nodup_append.mp h).2.2 b z b List.mem_cons_self rfl
    have e : putK (labK as lab) (Sum.inr b) (.int (lab b)) = labK (as ++ [b]) lab := by
      rw [putK_new _ (valV_none fun z => ?_)]
      · unfold labK
        rw [List.map_append]
        rfl
      · rw [keys_labK] at z
        obtain ⟨y, hy, q⟩ := List.mem_map.mp z
        cases q
        exact nb hy
    have := merge_labK (lab := lab) bs (as ++ [b]) h2
    rw [List.append_assoc] at this
    rw [← e] at this
    exact this
/-- the place of x -/
def idxS : List Str → Str → Int
  | [], _ => 0
  | y :: r, x => if y = x then 0 else 1 + idxS r x
theorem idxS_at : ∀ {rs : List Str} {i : Nat} {x : Str}, rs.Nodup → rs[i]? = some x → idxS rs x = i
  | [], _, _, _, h => by simp at h
  | y :: r, 0, x, _, h => by
    cases h
    simp [idxS]
  | y :: r, i + 1, x, n, h => by
    have h : r[i]? = some x := h
    have ne : y ≠ x := fun e => (List.nodup_cons.mp n).1 (e ▸ List.mem_of_getElem? h)
    rw [idxS, if_neg ne, idxS_at (List.nodup_cons.mp n).2 h]
    omega
/-- at most t steps from y -/
def ConnN (gs : List Gt) (bar : List Str) (y : Str) : Nat → Str → Prop
  | 0, x => x = y
  | t + 1, x => ∃ u, ConnN gs bar y t u ∧ (u = x ∨ Adj gs bar u x)
section
variable {gs : List Gt} {bar rs : List Str}
theorem ConnN.more {y x : Str} {t : Nat} (h : ConnN gs bar y t x) : ConnN gs bar y (t + 1) x := ⟨x, h, .inl rfl⟩
theorem ConnN.mem (hm : ∀ g ∈ gs, ∀ z ∈ g.2.1, z ∈ rs) {y : Str} (hy : y ∈ rs) : ∀ {t : Nat} {x : Str}, ConnN gs bar y t x → x ∈ rs
  | 0, x, h => by
    rw [show x = y from h]
    exact hy
  | t + 1, x, h => by
    obtain ⟨u, hu, e | a⟩ := h
    · rw [← e]
      exact hu.mem hm hy
    · obtain ⟨g, hg, _, _, hx⟩ := a
      exact hm g hg x hx
theorem connN_or (hm : ∀ g ∈ gs, ∀ z ∈ g.2.1, z ∈ rs) {y : Str} (hy : y ∈ rs) : ∀ t : Nat, (∃ ks : List Str, ks.Nodup ∧ ks.length = t + 1 ∧ ∀ k ∈ ks, ConnN gs bar y t k) ∨ ∀ x, ConnN gs bar y t x → ∀ z, Adj gs bar x z → ConnN gs bar y t z
  | 0 => .inl ⟨[y], by simp, rfl, fun k hk => List.mem_singleton.mp hk⟩
  | t + 1 => by
    rcases connN_or hm hy t with ⟨ks, h1, h2, h3⟩ | h
    · by_cases c : ∀ x, ConnN gs bar y (t + 1) x → ∀ z, Adj gs bar x z → ConnN gs bar y (t + 1) z
      · exact .inr c
      · obtain ⟨x, c⟩ := Classical.not_forall.mp c
        obtain ⟨hx, c⟩ := Classical.not_imp.mp c
        obtain ⟨z, c⟩ := Classical.not_forall.mp c
        obtain ⟨a, nz⟩ := Classical.not_imp.mp c
        refine .inl ⟨x :: ks, List.nodup_cons.mpr ⟨fun hk => nz ⟨x, h3 x hk, .inr a⟩, h1⟩, by rw [List.length_cons, h2], fun k hk => ?_⟩
        rcases List.mem_cons.mp hk with rfl | hk
        · exact hx
        · exact (h3 k hk).more
    · refine .inr fun x hx z a => ?_
      obtain ⟨u, hu, e | b⟩ := hx
      · subst e
        exact (h u hu z a).more
      · exact (h x (h u hu x b) z a).more
theorem connN_all (hm : ∀ g ∈ gs, ∀ z ∈ g.2.1, z ∈ rs) {y x : Str} (hy : y ∈ rs) (h : Conn gs bar y x) : ConnN gs bar y rs.length x := by
  have up : ∀ t, ConnN gs bar y t y := fun t => by
    induction t with
    | zero => rfl
    | succ t ih => exact ih.more
  rcases connN_or (bar := bar) hm hy rs.length with ⟨ks, h1, h2, h3⟩ | c
  · have := nodup_le h1 fun k hk => (h3 k hk).mem hm hy
    omega
  · induction h with
    | refl => exact up _
    | step _ a ih => exact c _ ih _ a
/-- each label is the place of a connected region -/
def Lab (gs : List Gt) (bar rs : List Str) (lab : Str → Int) : Prop := ∀ x ∈ rs, ∃ (i : Nat) (y : Str), rs[i]? = some y ∧ lab x = (i : Int) ∧ Conn gs bar x y
theorem Lab.conn {lab : Str → Int} (L : Lab gs bar rs lab) {x y : Str} (hx : x ∈ rs) (hy : y ∈ rs) (e : lab x = lab y) : Conn gs bar x y := by
  obtain ⟨i, u, h1, h2, h3⟩ := L x hx
  obtain ⟨j, v, k1, k2, k3⟩ := L y hy
  have : i = j := by omega
  subst this
  rw [h1] at k1
  cases k1
  exact h3.trans k3.symm
theorem lab_first (nd : rs.Nodup) : Lab gs bar rs (idxS rs) := fun x hx => by
  obtain ⟨i, hi, e⟩ := List.getElem_of_mem hx
  have : rs[i]? = some x := by rw [List.getElem?_eq_getElem hi, e]
  exact ⟨i, x, this, idxS_at nd this, .refl⟩
/-- what t steps reach is not below -/
def LowL (gs : List Gt) (bar rs : List Str) (t : Nat) (lab : Str → Int) : Prop := ∀ x ∈ rs, ∀ (i : Nat) (y : Str), rs[i]? = some y → ConnN gs bar y t x → lab x ≤ (i : Int)
theorem low_first (nd : rs.Nodup) : LowL gs bar rs 0 (idxS rs) := fun x hx i y hy h => by
  have e : x = y := h
  subst e
  rw [idxS_at nd hy]
  exact Int.le_refl _
/-- within one gateway -/
structure Mid (gs : List Gt) (bar rs ms : List Str) (lab0 : Str → Int) (least : Int) (i : Nat) (lab : Str → Int) : Prop where
  lb : Lab gs bar rs lab
  le : ∀ x ∈ rs, lab x ≤ lab0 x
  low : ∀ m ∈ ms, least ≤ lab m
  dn : ∀ m ∈ ms, m ∈ rs.take i → lab m ≤ least
theorem Mid.hit {ms : List Str} {lab0 lab : Str → Int} {least : Int} {i : Nat} {g : Gt} (M : Mid gs bar rs ms lab0 least i lab) (hm : ∀ m ∈ ms, m ∈ rs) (hg : g ∈ gs) (hb : g.1 ∉ bar) (em : g.2.1 = ms) (L0 : Lab gs bar rs lab0) {m0 : Str} (h0 : m0 ∈ ms) (e0 : least = lab0 m0)
    {x : Str} (hx : rs[i]? = some x) {o : Str} (ho : o ∈ ms) (e : lab x = lab o) : Mid gs bar rs ms lab0 least (i + 1) (fun z => if z = x then least else lab z) := by
  have xr : x ∈ rs := List.mem_of_getElem? hx
  have con : Conn gs bar x m0 := (M.lb.conn xr (hm o ho) e).step ⟨g, hg, hb, em ▸ ho, em ▸ h0⟩
  refine ⟨fun z hz => ?_, fun z hz => ?_, fun m hm' => ?_, fun m hm' ht => ?_⟩
  · show ∃ (i : Nat) (y : Str), rs[i]? = some y ∧ (if z = x then least else lab z) = (i : Int) ∧ Conn gs bar z y
    by_cases c : z = x
    · rw [if_pos c, c, e0]
      obtain ⟨j, y, h1, h2, h3⟩ := L0 m0 (hm m0 h0)
      exact ⟨j, y, h1, h2, con.trans h3⟩
    · rw [if_neg c]
      exact M.lb z hz
  · show (if z = x then least else lab z) ≤ lab0 z
    by_cases c : z = x
    · rw [if_pos c, c]
      exact Int.le_trans (M.low o ho) (e ▸ M.le x xr)
    · rw [if_neg c]
      exact M.le z hz
  · show least ≤ (if m = x then least else lab m)
    by_cases c : m = x
    · rw [if_pos c]
      exact Int.le_refl _
    · rw [if_neg c]
      exact M.low m hm'
  · show (if m = x then least else lab m) ≤ least
    by_cases c : m = x
    · rw [if_pos c]
      exact Int.le_refl _
    · rw [if_neg c]
      rw [List.take_add_one, hx] at ht
      rcases List.mem_append.mp ht with ht | ht
      · exact M.dn m hm' ht
      · exact absurd (by simpa using ht) c
theorem Mid.miss {ms : List Str} {lab0 lab : Str → Int} {least : Int} {i : Nat} (M : Mid gs bar rs ms lab0 least i lab) {x : Str} (hx : rs[i]? = some x) (no : x ∉ ms) : Mid gs bar rs ms lab0 least (i + 1) lab :=
  ⟨M.lb, M.le, M.low, fun m hm ht => by
    rw [List.take_add_one, hx] at ht
    rcases List.mem_append.mp ht with ht | ht
    · exact M.dn m hm ht
    · have : m = x := by simpa using ht
      exact absurd (this ▸ hm) no⟩
/-- within one turn -/
structure Pass (gs : List Gt) (bar rs : List Str) (labT : Str → Int) (j : Nat) (lab : Str → Int) : Prop where
  lb : Lab gs bar rs lab
  le : ∀ x ∈ rs, lab x ≤ labT x
  ad : ∀ g ∈ gs.take j, g.1 ∉ bar → ∀ u ∈ g.2.1, ∀ v ∈ g.2.1, lab v ≤ labT u
theorem pass_first {labT : Str → Int} (L : Lab gs bar rs labT) : Pass gs bar rs labT 0 labT := ⟨L, fun _ _ => Int.le_refl _, fun g hg => nomatch hg⟩
theorem Pass.skip {labT lab : Str → Int} {j : Nat} {g : Gt} (P : Pass gs bar rs labT j lab) (hg : gs[j]? = some g) (hb : g.1 ∈ bar) : Pass gs bar rs labT (j + 1) lab :=
  ⟨P.lb, P.le, fun g' h' nb => by
    rw [List.take_add_one, hg] at h'
    rcases List.mem_append.mp h' with h' | h'
    · exact P.ad g' h' nb
    · have : g' = g := by simpa using h'
      exact absurd (this ▸ hb) nb⟩
theorem Pass.take {labT lab lab2 : Str → Int} {least : Int} {j : Nat} {g : Gt} (P : Pass gs bar rs labT j lab) (hm : ∀ g ∈ gs, ∀ z ∈ g.2.1, z ∈ rs) (hg : gs[j]? = some g) (hl : ∀ m ∈ g.2.1, least ≤ lab m) (M : Mid gs bar rs g.2.1 lab least rs.length lab2) : Pass gs bar rs labT (j + 1) lab2 :=
  ⟨M.lb, fun x hx => Int.le_trans (M.le x hx) (P.le x hx), fun g' h' nb u hu v hv => by
    rw [List.take_add_one, hg] at h'
    rcases List.mem_append.mp h' with h' | h'
    · exact Int.le_trans (M.le v (hm g' (List.mem_of_mem_take h') v hv)) (P.ad g' h' nb u hu v hv)
    · have : g' = g := by simpa using h'
      subst this
      have gm : g' ∈ gs := List.mem_of_getElem? hg
      have := M.dn v hv (by rw [List.take_length]; exact hm g' gm v hv)
      exact Int.le_trans this (Int.le_trans (hl u hu) (P.le u (hm g' gm u hu)))⟩
theorem Pass.low {labT lab : Str → Int} {t : Nat} (P : Pass gs bar rs labT gs.length lab) (hm : ∀ g ∈ gs, ∀ z ∈ g.2.1, z ∈ rs) (L : LowL gs bar rs t labT) : LowL gs bar rs (t + 1) lab := fun x hx i y hy h => by
  obtain ⟨u, hu, e | a⟩ := h
  · subst e
    exact Int.le_trans (P.le u hx) (L u hx i y hy hu)
  · obtain ⟨g, hg, nb, h1, h2⟩ := a
    exact Int.le_trans (P.ad g (by rw [List.take_length]; exact hg) nb u h1 x h2) (L u (hm g hg u h1) i y hy hu)
theorem lab_iff {lab : Str → Int} (hm : ∀ g ∈ gs, ∀ z ∈ g.2.1, z ∈ rs) (L : Lab gs bar rs lab) (W : LowL gs bar rs rs.length lab) {x y : Str} (hx : x ∈ rs) (hy : y ∈ rs) : lab x = lab y ↔ Conn gs bar x y := by
  refine ⟨L.conn hx hy, fun c => ?_⟩
  obtain ⟨i, u, h1, h2, h3⟩ := L x hx
  obtain ⟨j, v, k1, k2, k3⟩ := L y hy
  have a := W x hx j v k1 (connN_all hm (List.mem_of_getElem? k1) (k3.symm.trans c.symm))
  have b := W y hy i u h1 (connN_all hm (List.mem_of_getElem? h1) (h3.symm.trans c))
  omega
end
end WT

set_option Elab.async false
set_option linter.all false
namespace WT
open PySem PySem.Spec PyProof.Rows L2
/-! ### paths: connected regions have one in which no region and no gateway comes twice -/
def Step (gs : List Gt) (bar : List Str) (x n z : Str) : Prop := ∃ g ∈ gs, g.1 = n ∧ n ∉ bar ∧ x ∈ g.2.1 ∧ z ∈ g.2.1
inductive SPath (gs : List Gt) (bar : List Str) : Str → List (Str × Str) → Str → Prop
  | nil (x : Str) : SPath gs bar x [] x
  | cons {x n z y : Str} {l : List (Str × Str)} : Step gs bar x n z → SPath gs bar z l y → SPath gs bar x ((n, z) :: l) y
section
variable {gs : List Gt} {bar : List Str}
theorem SPath.app {x z y : Str} {l m : List (Str × Str)} (h : SPath gs bar x l z) (k : SPath gs bar z m y) : SPath gs bar x (l ++ m) y := by
  induction h with
  | nil => exact k
  | cons s _ ih => exact .cons s (ih k)
theorem SPath.split {y : Str} {m : List (Str × Str)} : ∀ {l : List (Str × Str)} {x : Str}, SPath gs bar x (l ++ m) y → ∃ z, SPath gs bar x l z ∧ SPath gs bar z m y
  | [], x, h => ⟨x, .nil x, h⟩
  | (n, z) :: l, x, h => by
    cases h with
    | cons s t =>
      obtain ⟨u, h1, h2⟩ := SPath.split t
      exact ⟨u, .cons s h1, h2⟩
theorem SPath.end_ {x y : Str} {l : List (Str × Str)} (h : SPath gs bar x l y) : y = (l.map (·.2)).getLastD x := by
  induction h with
  | nil => rfl
  | @cons x n z y l s t ih =>
    rw [ih]
    cases l with
    | nil => rfl
    | cons p l => rfl
theorem SPath.conn {x y : Str} {l : List (Str × Str)} (h : SPath gs bar x l y) : Conn gs bar x y := by
  induction h with
  | nil => exact .refl
  | cons s _ ih =>
    obtain ⟨g, hg, rfl, hb, h1, h2⟩ := s
    exact (Conn.refl.step ⟨g, hg, hb, h1, h2⟩).trans ih
theorem Conn.path {x y : Str} (h : Conn gs bar x y) : ∃ l, SPath gs bar x l y := by
  induction h with
  | refl => exact ⟨[], .nil _⟩
  | step _ a ih =>
    obtain ⟨l, hl⟩ := ih
    obtain ⟨g, hg, hb, h1, h2⟩ := a
    exact ⟨l ++ [(g.1, _)], hl.app (.cons ⟨g, hg, rfl, hb, h1, h2⟩ (.nil _))⟩
theorem twice {α : Type} [DecidableEq α] : ∀ {l : List α}, ¬ l.Nodup → ∃ a l1 l2 l3, l = l1 ++ a :: (l2 ++ a :: l3)
  | [], h => absurd List.nodup_nil h
  | a :: l, h => by
    by_cases c : a ∈ l
    · obtain ⟨s, t, rfl⟩ := List.append_of_mem c
      exact ⟨a, [], s, t, rfl⟩
    · obtain ⟨b, l1, l2, l3, rfl⟩ := twice fun z => h (List.nodup_cons.mpr ⟨c, z⟩)
      exact ⟨b, a :: l1, l2, l3, rfl⟩
/-- a list of pairs cut where the mapped list is cut -/
theorem cut_map {α β : Type} {f : α → β} {b : β} : ∀ {l : List α} {l1 r : List β}, l.map f = l1 ++ b :: r → ∃ m1 a m2, l = m1 ++ a :: m2 ∧ m1.map f = l1 ∧ f a = b ∧ m2.map f = r
  | [], l1, r, h => by
    cases l1 <;> simp at h
  | x :: l, [], r, h => by
    simp at h
    exact ⟨[], x, l, rfl, rfl, h.1, h.2⟩
  | x :: l, y :: l1, r, h => by
    simp at h
    obtain ⟨m1, a, m2, rfl, h2, h3, h4⟩ := cut_map h.2
    exact ⟨x :: m1, a, m2, rfl, by rw [List.map_cons, h2, h.1], h3, h4⟩
/-- names are not used twice: a gateway is known by its name -/
theorem by_name (nd : (gs.map (·.1)).Nodup) {g g' : Gt} (h : g ∈ gs) (h' : g' ∈ gs) (e : g.1 = g'.1) : g = g' := by
  induction gs with
  | nil => cases h
  | cons a gs ih =>
    rw [List.map_cons] at nd
    obtain ⟨n1, n2⟩ := List.nodup_cons.mp nd
    rcases List.mem_cons.mp h with h2 | h2
    · rcases List.mem_cons.mp h' with h3 | h3
      · rw [h2, h3]
      · exact absurd (List.mem_map.mpr ⟨g', h3, by rw [← e, h2]⟩) n1
    · rcases List.mem_cons.mp h' with h3 | h3
      · exact absurd (List.mem_map.mpr ⟨g, h2, by rw [e, h3]⟩) n1
      · exact ih n2 h2 h3
theorem simple_of (nd : (gs.map (·.1)).Nodup) {x y : Str} : ∀ (k : Nat) (l : List (Str × Str)), l.length = k → SPath gs bar x l y → ∃ m, SPath gs bar x m y ∧ (x :: m.map (·.2)).Nodup ∧ (m.map (·.1)).Nodup := by
  intro k
  induction k using Nat.strongRecOn with
  | ind k ih =>
    intro l hl hp
    by_cases h1 : (x :: l.map (·.2)).Nodup
    · by_cases h2 : (l.map (·.1)).Nodup
      · exact ⟨l, hp, h1, h2⟩
      · obtain ⟨n, l1, l2, l3, e⟩ := twice h2
        obtain ⟨m1, p, r, rfl, e1, e2, e3⟩ := cut_map e
        obtain ⟨m2, p', m3, rfl, e4, e5, e6⟩ := cut_map e3
        obtain ⟨u, hu, hr⟩ := hp.split
        obtain ⟨n1, z1⟩ := p
        obtain ⟨n2, z2⟩ := p'
        cases hr with
        | cons s1 t1 =>
          obtain ⟨v, hv, hr2⟩ := t1.split
          cases hr2 with
          | cons s2 t2 =>
            obtain ⟨g1, hg1, a1, b1, c1, d1⟩ := s1
            obtain ⟨g2, hg2, a2, b2, c2, d2⟩ := s2
            have en : n1 = n2 := by
              have e2 : n1 = n := e2
              have e5 : n2 = n := e5
              rw [e2, e5]
            have eg : g1 = g2 := by_name nd hg1 hg2 (by rw [a1, a2, en])
            subst eg
            refine ih _ ?_ (m1 ++ (n1, z2) :: m3) rfl (hu.app (.cons ⟨g1, hg1, a1, b1, c1, d2⟩ t2))
            simp at hl ⊢
            omega
    · obtain ⟨z, l1, l2, l3, e⟩ := twice h1
      cases l1 with
      | nil =>
        rw [List.nil_append] at e
        obtain ⟨ex, er⟩ := List.cons.inj e
        subst ex
        obtain ⟨m1, p, m2, rfl, e1, e2, e3⟩ := cut_map er
        obtain ⟨n1, z1⟩ := p
        have e2 : z1 = x := e2
        subst e2
        obtain ⟨u, hu, hr⟩ := hp.split
        cases hr with
        | cons s1 t1 =>
          refine ih _ ?_ m2 rfl t1
          simp at hl
          omega
      | cons a l1 =>
        obtain ⟨_, er⟩ := List.cons.inj e
        obtain ⟨m1, p, r, rfl, e1, e2, e3⟩ := cut_map er
        obtain ⟨m2, p', m3, rfl, e4, e5, e6⟩ := cut_map e3
        obtain ⟨n1, z1⟩ := p
        obtain ⟨n2, z2⟩ := p'
        have e2 : z1 = z := e2
        have e5 : z2 = z := e5
        obtain ⟨u, hu, hr⟩ := hp.split
        cases hr with
        | cons s1 t1 =>
          obtain ⟨v, hv, hr2⟩ := t1.split
          cases hr2 with
          | cons s2 t2 =>
            refine ih _ ?_ (m1 ++ (n1, z1) :: m3) rfl (hu.app (.cons s1 (by rw [e2, ← e5]; exact t2)))
            simp at hl ⊢
            omega
/-- connected regions have a path in which nothing comes twice -/
theorem Conn.simple (nd : (gs.map (·.1)).Nodup) {x y : Str} (h : Conn gs bar x y) : ∃ m, SPath gs bar x m y ∧ (x :: m.map (·.2)).Nodup ∧ (m.map (·.1)).Nodup := by
  obtain ⟨l, hl⟩ := h.path
  exact simple_of nd l.length l rfl hl
end
end WT

set_option Elab.async false
set_option linter.all false
namespace WT
open PySem PySem.Spec PyProof.Rows L2
/-! ### the search through all paths: its steps, its measure, that it misses none -/
def lastOf (one : Str) (l : List (Str × Str)) : Str := (l.map (·.2)).getLastD one
def kidsOf (bar : List Str) (one : Str) (l : List (Str × Str)) (g : Gt) : List (List (Str × Str)) :=
  if lastOf one l ∈ g.2.1 ∧ g.1 ∉ l.map (·.1) ∧ g.1 ∉ bar then (g.2.1.filter fun z => decide (z ∉ one :: l.map (·.2))).map fun z => l ++ [(g.1, z)] else []
def kids (gs : List Gt) (bar : List Str) (one : Str) (l : List (Str × Str)) : List (List (Str × Str)) := gs.flatMap (kidsOf bar one l)
/-- a path in which nothing comes twice -/
structure GoodP (gs : List Gt) (bar rs : List Str) (one : Str) (l : List (Str × Str)) : Prop where
  path : ∃ z, SPath gs bar one l z
  reg : (one :: l.map (·.2)).Nodup
  gat : (l.map (·.1)).Nodup
  sub : ∀ z ∈ l.map (·.2), z ∈ rs
section
variable {gs : List Gt} {bar rs : List Str} {one : Str}
theorem GoodP.last {l : List (Str × Str)} (h : GoodP gs bar rs one l) : SPath gs bar one l (lastOf one l) := by
  obtain ⟨z, hz⟩ := h.path
  rw [hz.end_] at hz
  exact hz
theorem GoodP.len {l : List (Str × Str)} (h : GoodP gs bar rs one l) (ho : one ∈ rs) : l.length + 1 ≤ rs.length := by
  have := nodup_le (rs := rs) h.reg fun z hz => by
    rcases List.mem_cons.mp hz with e | hz
    · rw [e]
      exact ho
    · exact h.sub z hz
  rw [List.length_cons, List.length_map] at this
  exact this
theorem lastOf_snoc (l : List (Str × Str)) (n z : Str) : lastOf one (l ++ [(n, z)]) = z := by
  unfold lastOf
  rw [List.map_append]
  simp
theorem kids_good {l k : List (Str × Str)} (hm : ∀ g ∈ gs, ∀ z ∈ g.2.1, z ∈ rs) (h : GoodP gs bar rs one l) (hk : k ∈ kids gs bar one l) : GoodP gs bar rs one k ∧ k.length = l.length + 1 := by
  obtain ⟨g, hg, hk⟩ := List.mem_flatMap.mp hk
  unfold kidsOf at hk
  by_cases c : lastOf one l ∈ g.2.1 ∧ g.1 ∉ l.map (·.1) ∧ g.1 ∉ bar
  · rw [if_pos c] at hk
    obtain ⟨z, hz, rfl⟩ := List.mem_map.mp hk
    obtain ⟨z1, z2⟩ := List.mem_filter.mp hz
    have z2 : z ∉ one :: l.map (·.2) := of_decide_eq_true z2
    refine ⟨⟨⟨z, h.last.app (.cons ⟨g, hg, rfl, c.2.2, c.1, z1⟩ (.nil z))⟩, ?_, ?_, ?_⟩, by simp⟩
    · rw [List.map_append, ← List.cons_append]
      refine List.nodup_append.mpr ⟨h.reg, by simp, fun a ha b hb e => ?_⟩
      have hb : b = z := by simpa using hb
      exact z2 (hb ▸ e ▸ ha)
    · rw [List.map_append]
      refine List.nodup_append.mpr ⟨h.gat, by simp, fun a ha b hb e => ?_⟩
      have hb : b = g.1 := by simpa using hb
      exact c.2.1 (hb ▸ e ▸ ha)
    · intro y hy
      rw [List.map_append] at hy
      rcases List.mem_append.mp hy with hy | hy
      · exact h.sub y hy
      · have : y = z := by simpa using hy
        rw [this]
        exact hm g hg z z1
  · rw [if_neg c] at hk
    cases hk
/-- a path that goes on has its next step among the kids -/
theorem kids_has {l r : List (Str × Str)} {n z : Str} (h : GoodP gs bar rs one (l ++ (n, z) :: r)) : l ++ [(n, z)] ∈ kids gs bar one l := by
  obtain ⟨y, hy⟩ := h.path
  obtain ⟨u, h1, h2⟩ := hy.split
  cases h2 with
  | cons s t =>
    obtain ⟨g, hg, rfl, hb, c1, c2⟩ := s
    refine List.mem_flatMap.mpr ⟨g, hg, ?_⟩
    have eu : lastOf one l = u := by
      unfold lastOf
      exact h1.end_.symm
    have r1 := h.reg
    have r2 := h.gat
    rw [List.map_append, ← List.cons_append] at r1
    rw [List.map_append] at r2
    unfold kidsOf
    rw [if_pos ⟨by rw [eu]; exact c1, fun q => (List.nodup_append.mp r2).2.2 _ q g.1 (by simp) rfl, hb⟩]
    exact List.mem_map.mpr ⟨z, List.mem_filter.mpr ⟨c2, decide_eq_true fun q => (List.nodup_append.mp r1).2.2 _ q z (by simp) rfl⟩, rfl⟩
theorem kids_len (hl : ∀ g ∈ gs, g.2.1.length ≤ 100) (l : List (Str × Str)) : (kids gs bar one l).length ≤ gs.length * 100 := by
  unfold kids
  induction gs with
  | nil => exact Nat.zero_le _
  | cons g gs ih =>
    have a := ih fun y hy => hl y (List.mem_cons_of_mem _ hy)
    have b : (kidsOf bar one l g).length ≤ 100 := by
      unfold kidsOf
      by_cases c : lastOf one l ∈ g.2.1 ∧ g.1 ∉ l.map (·.1) ∧ g.1 ∉ bar
      · rw [if_pos c, List.length_map]
        exact Nat.le_trans (List.length_filter_le _ _) (hl g List.mem_cons_self)
      · rw [if_neg c]
        exact Nat.zero_le _
    rw [List.flatMap_cons, List.length_append, List.length_cons, Nat.add_mul]
    omega
/-- the weight of what waits -/
def weigh (M R : Nat) (ls : List (List (Str × Str))) : Nat := (ls.map fun l => (M + 1) ^ (R - l.length)).sum
theorem weigh_app (M R : Nat) (a b : List (List (Str × Str))) : weigh M R (a ++ b) = weigh M R a + weigh M R b := by
  unfold weigh
  rw [List.map_append, List.sum_append]
theorem weigh_same (M R k : Nat) : ∀ ls : List (List (Str × Str)), (∀ l ∈ ls, l.length = k) → weigh M R ls = ls.length * (M + 1) ^ (R - k)
  | [], _ => by simp [weigh]
  | l :: ls, h => by
    have ih := weigh_same M R k ls fun x hx => h x (List.mem_cons_of_mem _ hx)
    unfold weigh at ih ⊢
    rw [List.map_cons, List.sum_cons, ih, h l List.mem_cons_self, List.length_cons, Nat.add_mul]
    omega
/-- the kids weigh less -/
theorem weigh_kids {l : List (Str × Str)} {M : Nat} (hm : ∀ g ∈ gs, ∀ z ∈ g.2.1, z ∈ rs) (ho : one ∈ rs) (h : GoodP gs bar rs one l) (hM : (kids gs bar one l).length ≤ M) : weigh M rs.length (kids gs bar one l) < weigh M rs.length [l] := by
  rw [weigh_same M rs.length (l.length + 1) _ fun k hk => (kids_good hm h hk).2]
  have hl := h.len ho
  have e : weigh M rs.length [l] = (M + 1) ^ (rs.length - l.length) := by simp [weigh]
  rw [e, show rs.length - l.length = (rs.length - (l.length + 1)) + 1 by omega, Nat.pow_succ]
  have p : 0 < (M + 1) ^ (rs.length - (l.length + 1)) := Nat.pow_pos (Nat.succ_pos M)
  calc (kids gs bar one l).length * (M + 1) ^ (rs.length - (l.length + 1)) ≤ M * (M + 1) ^ (rs.length - (l.length + 1)) := Nat.mul_le_mul_right _ hM
    _ < (M + 1) * (M + 1) ^ (rs.length - (l.length + 1)) := Nat.mul_lt_mul_of_pos_right (Nat.lt_succ_self M) p
    _ = (M + 1) ^ (rs.length - (l.length + 1)) * (M + 1) := Nat.mul_comm _ _
end
end WT

set_option Elab.async false
set_option linter.all false
set_option maxRecDepth 100000
set_option maxHeartbeats 4000000
/-! t[lo:hi:st] of a tuple, st neither 0 nor 1. -/
namespace WT
open PySem PySem.Spec PyProof.Rows L2 HT
/-- the items that a stepped slice picks -/
def stepL {α : Type} (xs : List α) (lo hi : Option Int) (st : Int) : List α :=
  (List.range (Builtin.Slice.slicePlaces (Builtin.Slice.sliceAdjust lo hi st (xs.length : Int)).1 (Builtin.Slice.sliceAdjust lo hi st (xs.length : Int)).2 st)).filterMap fun (m : Nat) => xs[((Builtin.Slice.sliceAdjust lo hi st (xs.length : Int)).1 + (m : Int) * st).toNat]?
theorem vals_pick {xs : List V} {us : List Value} (r : Vals xs us) (f : Nat → Nat) : ∀ is : List Nat, Vals (is.filterMap fun m => xs[f m]?) (is.filterMap fun m => us[f m]?)
  | [] => .nil
  | i :: is => by
    have ih := vals_pick r f is
    cases e : xs[f i]? with
    | none =>
      have e2 : us[f i]? = none := by
        rw [List.getElem?_eq_none_iff] at e ⊢
        have := Vals.length r
        omega
      simp only [List.filterMap_cons, e, e2]
      exact ih
    | some x =>
      obtain ⟨u, hu, ru⟩ := r.get e
      simp only [List.filterMap_cons, e, hu]
      exact .cons ru ih
theorem vals_step {xs : List V} {us : List Value} (r : Vals xs us) (lo hi : Option Int) (st : Int) : Vals (stepL xs lo hi st) (stepL us lo hi st) := by
  unfold stepL
  rw [← Vals.length r]
  exact vals_pick r _ _
section
variable {prog : Program} {w : World} {A : Around} {E : Value → Shared → Prop} {s : Shared}
theorem applied_step {sl : Addr} {vl vu : Value} {lo hi : Option Int} {st : Int} {tk : Tok} {n : Nat} {Q : Int × Int × Nat → Shared → Prop} (hs : s.heap.IsSliceOf sl vl vu (.int st tk)) (pl : IsPart vl lo) (pu : IsPart vu hi) (h0 : st ≠ 0)
    (h : Q ((Builtin.Slice.sliceAdjust lo hi st (n : Int)).1, st, Builtin.Slice.slicePlaces (Builtin.Slice.sliceAdjust lo hi st (n : Int)).1 (Builtin.Slice.sliceAdjust lo hi st (n : Int)).2 st) s) : wpAny (model prog w) A (Builtin.Slice.sliceApplied (.ref sl) (pure (n : Int))) Q E s := by
  obtain ⟨ob, hob, hcl, hdt⟩ := id hs
  unfold Builtin.Slice.sliceApplied Builtin.Slice.sliceFields
  refine wpAny_bind (wpAny_bind (wpAny_field hob hdt (x := vl) rfl (wpAny_bind (wpAny_field hob hdt (x := vu) rfl (wpAny_bind (wpAny_field hob hdt (x := .int st tk) rfl (wpAny_pure ?_)))))))
  refine wpAny_bind (slicePart_int ?_)
  show wpAny _ _ (if (st == 0) = true then _ else _) _ _ s
  rw [if_neg (by simpa using h0)]
  refine wpAny_bind (slicePart_ pl (wpAny_bind (slicePart_ pu (wpAny_bind (wpAny_pure ?_)))))
  exact wpAny_pure h
theorem getItem_step {t sl : Addr} {us : List Value} {vl vu : Value} {lo hi : Option Int} {st : Int} {tk : Tok} {Q : Value → Shared → Prop} (ht : IsTup s.heap t us.toArray) (hs : s.heap.IsSliceOf sl vl vu (.int st tk)) (pl : IsPart vl lo) (pu : IsPart vu hi) (h0 : st ≠ 0) (h1 : st ≠ 1)
    (h : Q (.ref s.heap.objs.size) { s with heap := s.heap.push { cls := .type "tuple", data := .seq (stepL us lo hi st).toArray } }) (hsz : (stepL us lo hi st).length ≤ sizeLine) : wpAny (model prog w) A (getItem (.ref t) (.ref sl)) Q E s := by
  have hok : sizeOk (.seq (stepL us lo hi st).toArray) := by
    show (stepL us lo hi st).toArray.size ≤ sizeLine
    rw [List.size_toArray]
    exact hsz
  obtain ⟨ob, hob, hcl, hdt⟩ := id hs
  have hT : s.TypeIs (.ref sl) "slice" := ⟨ob, hob, hcl⟩
  unfold getItem
  try with_reducible refine wpAny_holding ?_
  first | refine wpAny_bind (wpAny_pure ?_) | skip
  refine wpAny_bind (wpAny_sequenceKey ht.typeIs (by decide) ?_)
  refine wpAny_bind (wpAny_callSpecial?_slot (name := Str.ofString "__getitem__") ht.typeIs PyProof.Rows.slot_tuple_getitem (wpAny_call_entry PyProof.Rows.slot_tuple_getitem ht.typeIs entry_tuple_getitem ?_ (args_tuple_getitem _ _)))
  show wpAny _ _ (Builtin.Tuple.tupleItemsOf (.ref t) >>= _) _ _ s
  refine wpAny_bind (tupleItemsOf_ ht (wpAny_bind (wpAny_typeOf hT ?_)))
  rw [if_pos (by decide)]
  refine wpAny_bind (applied_step (n := us.toArray.size) hs pl pu h0 ?_)
  have no1 : (st == (1 : Int)) = false := by simpa using h1
  show wpAny _ _ (if (_ && st == 1 && _) = true then _ else _) _ _ s
  rw [no1, Bool.and_false, Bool.false_and, if_neg Bool.false_ne_true]
  have ep : ((List.range (Builtin.Slice.slicePlaces (Builtin.Slice.sliceAdjust lo hi st (us.toArray.size : Int)).1 (Builtin.Slice.sliceAdjust lo hi st (us.toArray.size : Int)).2 st)).filterMap fun (m : Nat) => us.toArray[((Builtin.Slice.sliceAdjust lo hi st (us.toArray.size : Int)).1 + (m : Int) * st).toNat]?).toArray = (stepL us lo hi st).toArray := by
    unfold stepL
    rw [List.size_toArray]
    simp
  rw [ep]
  first
    | exact wpAny_bind (m := Builtin.Tuple.tupleExact _) (wpAny_newObj_type (wpAny_pure ⟨_, rfl, wpAny_pure h⟩) hok)
    | exact wpAny_bind (m := Builtin.Tuple.tupleExact _) (wpAny_newObj_type (wpAny_bind (wpAny_pure (wpAny_pure ⟨_, rfl, wpAny_pure h⟩))) hok)
    | exact wpAny_bind (wpAny_bind (m := Builtin.Tuple.tupleExact _) (wpAny_newObj_type (wpAny_pure (wpAny_pure ⟨_, rfl, wpAny_pure h⟩)) hok))
    | exact wpAny_bind (wpAny_bind (m := Builtin.Tuple.tupleExact _) (wpAny_newObj_type (wpAny_pure ⟨_, rfl, wpAny_pure h⟩) hok))
end
section
variable {X : Cx}
/-- t[lo:hi:st] -/
def tSl3 (K : PySem.W.Frag) (st : Int) (te : TE) (tl th : TO) (tst : TE) : TE := fun σ H Q => te σ H fun x H1 => tl σ H1 fun l H2 => th σ H2 fun u H3 => tst σ H3 fun z H4 => ∃ a xs, z = .int st ∧ x = .ref a ∧ SqT K H4 a xs ∧ (stepL xs l u st).length ≤ sizeLine ∧ ∀ p, H4 p = none → Q (.ref p) (upd H4 p (.tup (stepL xs l u st)))
theorem pe_slice3 {e est : Expr} {lo hi : Option Expr} {te tst : TE} {tl th : TO} {p2 pos : Pos} (st : Int) (h0 : st ≠ 0) (h1 : st ≠ 1) (he : PE X e te) (hl : PO X lo tl) (hu : PO X hi th) (hst : PE X est tst) : PE X (.Subscript e (.Slice lo hi (some est) p2) pos) (tSl3 X.K st te tl th tst) := by
  refine ⟨fun pins s σ H Q I h => Subscript_ (thn (he.run pins s σ H _ I h) fun v s1 ⟨x, H1, I1, r1, q1⟩ => wpAny_Slice (thn (hl.run pins s1 σ H1 _ I1 q1) fun vl s2 ⟨l, H2, I2, pl, q2⟩ => thn (hu.run pins s2 σ H2 _ I2 q2) fun vu s3 ⟨u, H3, I3, pu, q3⟩ => ?_))⟩
  rw [evalPart_some]
  refine thn (hst.run pins s3 σ H3 _ I3 q3) fun vz s4 ⟨z, H4, I4, r4, q4⟩ => ?_
  obtain ⟨a, xs, rfl, rfl, hx, hz, q⟩ := q4
  obtain ⟨tk, rfl⟩ := r4
  cases r1
  have I5 : Inv X pins σ H4 { s4 with heap := s4.heap.push { cls := .type "slice", data := .fields #[vl, vu, .int st tk] } } := I4.kept (t' := s4.toks) fun b ob z => Heap.get?_push_of_some _ z
  obtain ⟨us, ru, ht, _⟩ := I5.tuple hx
  have rs := vals_step ru l u st
  show wpAny (model X.prog X.w) X.A (subscriptTail e (.Slice lo hi (some est) p2) (.ref a) (.ref s4.heap.objs.size)) (EP X pins σ Q) X.xe { s4 with heap := s4.heap.push { cls := .type "slice", data := .fields #[vl, vu, .int st tk] } }
  refine tail_any (ops := [.ref a, .ref s4.heap.objs.size]) ht.typeIs PyProof.Rows.slot_tuple_getitem.lookup (getItem_step ht (Heap.IsSliceOf.new ..) pl pu h0 h1 ?_ (by rw [← Vals.length rs]; exact hz)) (by with_unfolding_all rfl)
  exact ⟨.ref _, upd H4 _ (.tup (stepL xs l u st)), I5.laid (t' := s4.toks) (fun b o e => Heap.get?_push_of_some _ e) (Nat.le_refl _) ⟨hz, stepL us l u st, rs, ⟨_, Heap.get?_push_size _ rfl, rfl, _, rfl⟩⟩, rfl, q _ (I5.hok.fresh (Nat.le_refl _))⟩
end
end WT

set_option Elab.async false
set_option linter.all false
set_option maxRecDepth 100000
set_option maxHeartbeats 4000000
namespace WT
open PySem PySem.Spec PyProof.Rows L2
/-! ### a path as a tuple; the search through all paths: its state -/
def pathV (one : Str) (l : List (Str × Str)) : List V := V.str one :: l.flatMap fun p => [V.str p.1, V.str p.2]
theorem pathV_len (one : Str) (l : List (Str × Str)) : (pathV one l).length = 2 * l.length + 1 := by
  unfold pathV
  rw [List.length_cons, List.length_flatMap]
  have : ((l.map fun p => [V.str p.1, V.str p.2].length)).sum = 2 * l.length := by
    induction l with
    | nil => rfl
    | cons p l ih =>
      rw [List.map_cons, List.sum_cons, ih]
      simp only [List.length_cons, List.length_nil]
      omega
  rw [this]
theorem pathV_cons (one n z : Str) (l : List (Str × Str)) : pathV one ((n, z) :: l) = V.str one :: V.str n :: pathV z l := by
  unfold pathV
  rw [List.flatMap_cons]
  rfl
theorem pathV_snoc (one n z : Str) (l : List (Str × Str)) : pathV one (l ++ [(n, z)]) = pathV one l ++ [V.str n, V.str z] := by
  unfold pathV
  rw [List.flatMap_append]
  rfl
theorem pathV_even : ∀ (l : List (Str × Str)) (one : Str) (i : Nat), (pathV one l)[2 * i]? = ((one :: l.map (·.2)).map V.str)[i]?
  | [], one, 0 => rfl
  | [], one, i + 1 => by
    unfold pathV
    rw [show 2 * (i + 1) = (2 * i + 1) + 1 by omega]
    rfl
  | (n, z) :: l, one, 0 => rfl
  | (n, z) :: l, one, i + 1 => by
    rw [pathV_cons, show 2 * (i + 1) = 2 * i + 1 + 1 by omega, List.getElem?_cons_succ, List.getElem?_cons_succ, pathV_even l z i]
    rfl
theorem pathV_odd : ∀ (l : List (Str × Str)) (one : Str) (i : Nat), (pathV one l)[2 * i + 1]? = ((l.map (·.1)).map V.str)[i]?
  | [], one, i => by
    unfold pathV
    rfl
  | (n, z) :: l, one, 0 => rfl
  | (n, z) :: l, one, i + 1 => by
    rw [pathV_cons, show 2 * (i + 1) + 1 = 2 * i + 1 + 1 + 1 by omega, List.getElem?_cons_succ, List.getElem?_cons_succ, pathV_odd l z i]
    rfl
theorem pathV_last (one : Str) (l : List (Str × Str)) : atI (pathV one l) (-1) = some (V.str (lastOf one l)) := by
  rcases List.eq_nil_or_concat l with rfl | ⟨m, p, rfl⟩
  · exact atI_last [] _
  · obtain ⟨n, z⟩ := p
    rw [List.concat_eq_append, pathV_snoc, lastOf_snoc, show ([V.str n, V.str z] : List V) = [V.str n] ++ [V.str z] from rfl, ← List.append_assoc]
    exact atI_last _ _
theorem pick_all {α : Type} (ys : List α) : (List.range ys.length).filterMap (fun m => ys[m]?) = ys := by
  induction ys with
  | nil => rfl
  | cons y ys ih =>
    rw [List.length_cons, List.range_succ_eq_map, List.filterMap_cons]
    simp only [List.getElem?_cons_zero, List.filterMap_map]
    congr 1
theorem step_even (one : Str) (l : List (Str × Str)) : stepL (pathV one l) none none 2 = (one :: l.map (·.2)).map V.str := by
  have h := pick_all ((one :: l.map (·.2)).map V.str)
  have e : Builtin.Slice.slicePlaces (Builtin.Slice.sliceAdjust none none 2 ((pathV one l).length : Int)).1 (Builtin.Slice.sliceAdjust none none 2 ((pathV one l).length : Int)).2 2 = ((one :: l.map (·.2)).map V.str).length := by
    rw [pathV_len]
    unfold Builtin.Slice.slicePlaces Builtin.Slice.sliceAdjust
    simp
    omega
  unfold stepL
  rw [e]
  refine Eq.trans ?_ h
  congr 1
  funext m
  have : (Builtin.Slice.sliceAdjust none none 2 ((pathV one l).length : Int)).1 = 0 := rfl
  rw [this, show ((0 : Int) + (m : Int) * 2).toNat = 2 * m by omega]
  exact pathV_even l one m
theorem step_odd (one : Str) (l : List (Str × Str)) : stepL (pathV one l) (some 1) none 2 = (l.map (·.1)).map V.str := by
  have h := pick_all ((l.map (·.1)).map V.str)
  have e0 : (Builtin.Slice.sliceAdjust (some 1) none 2 ((pathV one l).length : Int)).1 = 1 := by
    rw [pathV_len]
    unfold Builtin.Slice.sliceAdjust
    simp
    omega
  have e : Builtin.Slice.slicePlaces (Builtin.Slice.sliceAdjust (some 1) none 2 ((pathV one l).length : Int)).1 (Builtin.Slice.sliceAdjust (some 1) none 2 ((pathV one l).length : Int)).2 2 = ((l.map (·.1)).map V.str).length := by
    rw [e0, pathV_len]
    unfold Builtin.Slice.slicePlaces Builtin.Slice.sliceAdjust
    simp
    split <;> omega
  unfold stepL
  rw [e]
  refine Eq.trans ?_ h
  congr 1
  funext m
  rw [e0, show ((1 : Int) + (m : Int) * 2).toNat = 2 * m + 1 by omega]
  exact pathV_odd l one m
section
variable {gs : List Gt} {bar rs : List Str} {one other : Str}
theorem weigh_kidsD {l : List (Str × Str)} {M D : Nat} (hm : ∀ g ∈ gs, ∀ z ∈ g.2.1, z ∈ rs) (hD : ∀ k, GoodP gs bar rs one k → k.length ≤ D) (h : GoodP gs bar rs one l) (hM : (kids gs bar one l).length ≤ M) : weigh M D (kids gs bar one l) < weigh M D [l] := by
  have e : weigh M D [l] = (M + 1) ^ (D - l.length) := by simp [weigh]
  rw [weigh_same M D (l.length + 1) _ fun k hk => (kids_good hm h hk).2, e]
  have p : ∀ n, 0 < (M + 1) ^ n := fun n => Nat.pow_pos (Nat.succ_pos M)
  cases hk : kids gs bar one l with
  | nil => simp only [List.length_nil, Nat.zero_mul]; exact p _
  | cons k ks =>
    have hk1 : k ∈ kids gs bar one l := by rw [hk]; exact List.mem_cons_self
    have h1 := kids_good hm h hk1
    have h2 := hD k h1.1
    rw [hk] at hM
    rw [show D - l.length = (D - (l.length + 1)) + 1 by omega, Nat.pow_succ]
    calc (k :: ks).length * (M + 1) ^ (D - (l.length + 1)) ≤ M * (M + 1) ^ (D - (l.length + 1)) := Nat.mul_le_mul_right _ hM
      _ < (M + 1) * (M + 1) ^ (D - (l.length + 1)) := Nat.mul_lt_mul_of_pos_right (Nat.lt_succ_self M) (p _)
      _ = (M + 1) ^ (D - (l.length + 1)) * (M + 1) := Nat.mul_comm _ _
theorem weigh_ge (M D : Nat) : ∀ ls : List (List (Str × Str)), ls.length ≤ weigh M D ls
  | [] => Nat.zero_le _
  | l :: ls => by
    have ih := weigh_ge M D ls
    have p : 0 < (M + 1) ^ (D - l.length) := Nat.pow_pos (Nat.succ_pos M)
    unfold weigh at ih ⊢
    rw [List.map_cons, List.sum_cons, List.length_cons]
    omega
/-- the search's state: what waits, what was found -/
structure Srch (gs : List Gt) (bar rs : List Str) (one other : Str) (M D : Nat) (ls fs : List (List (Str × Str))) : Prop where
  wait : ∀ l ∈ ls, GoodP gs bar rs one l
  good : ∀ l ∈ fs, GoodP gs bar rs one l ∧ lastOf one l = other
  all : ∀ m, GoodP gs bar rs one m → lastOf one m = other → m ∈ fs ∨ ∃ l ∈ ls, ∃ r, m = l ++ r
  wt : fs.length + weigh M D ls ≤ (M + 1) ^ D
theorem GoodP.nil : GoodP gs bar rs one [] := ⟨⟨one, .nil one⟩, by simp, by simp, fun z hz => (nomatch hz)⟩
theorem Srch.first (M D : Nat) : Srch gs bar rs one other M D [[]] [] :=
  ⟨fun l hl => by rw [List.mem_singleton.mp hl]; exact .nil, fun l hl => (nomatch hl), fun m _ _ => .inr ⟨[], by simp, m, rfl⟩, by simp [weigh]⟩
theorem Srch.take {M D : Nat} {ls fs : List (List (Str × Str))} {l : List (Str × Str)} (h : Srch gs bar rs one other M D (ls ++ [l]) fs) (e : lastOf one l = other) : Srch gs bar rs one other M D ls (fs ++ [l]) := by
  have hl := h.wait l (by simp)
  refine ⟨fun k hk => h.wait k (by simp [hk]), fun k hk => ?_, fun m hm em => ?_, ?_⟩
  · rcases List.mem_append.mp hk with hk | hk
    · exact h.good k hk
    · rw [List.mem_singleton.mp hk]
      exact ⟨hl, e⟩
  · rcases h.all m hm em with q | ⟨k, hk, r, rfl⟩
    · exact .inl (List.mem_append_left _ q)
    · rcases List.mem_append.mp hk with hk | hk
      · exact .inr ⟨k, hk, r, rfl⟩
      · rw [List.mem_singleton.mp hk] at hm em ⊢
        rcases List.eq_nil_or_concat r with rfl | ⟨s, p, rfl⟩
        · exact .inl (by simp)
        · exfalso
          have r1 := hm.reg
          obtain ⟨n, z⟩ := p
          rw [List.concat_eq_append, ← List.append_assoc, lastOf_snoc] at em
          rw [List.concat_eq_append, ← List.append_assoc, List.map_append, ← List.cons_append] at r1
          have r2 := (List.nodup_append.mp r1).2.2
          have mem : lastOf one l ∈ one :: (l ++ s).map (·.2) := by
            unfold lastOf
            cases hl2 : l.map (·.2) with
            | nil => simp
            | cons a b =>
              rw [List.map_append, hl2]
              have : (a :: b).getLastD one ∈ a :: b := by
                rw [List.getLastD_cons]
                cases b with
                | nil => simp
                | cons c d =>
                  have : (c :: d).getLastD a ∈ c :: d := by
                    rw [List.getLastD_eq_getLast?, List.getLast?_eq_some_getLast (by simp)]
                    exact List.getLast_mem _
                  exact List.mem_cons_of_mem _ this
              exact List.mem_cons_of_mem _ (List.mem_append_left _ this)
          exact r2 _ mem z (by simp) (e.trans em.symm)
  · have w := h.wt
    rw [weigh_app] at w
    have g := weigh_ge M D [l]
    rw [List.length_append]
    simp only [List.length_cons, List.length_nil] at g ⊢
    omega
theorem Srch.grow {M D : Nat} {ls fs : List (List (Str × Str))} {l : List (Str × Str)} (hm : ∀ g ∈ gs, ∀ z ∈ g.2.1, z ∈ rs) (hD : ∀ k, GoodP gs bar rs one k → k.length ≤ D) (hM : (kids gs bar one l).length ≤ M) (h : Srch gs bar rs one other M D (ls ++ [l]) fs) (e : lastOf one l ≠ other) :
    Srch gs bar rs one other M D (ls ++ kids gs bar one l) fs ∧ weigh M D (ls ++ kids gs bar one l) < weigh M D (ls ++ [l]) := by
  have hl := h.wait l (by simp)
  have lt : weigh M D (ls ++ kids gs bar one l) < weigh M D (ls ++ [l]) := by
    rw [weigh_app, weigh_app]
    have := weigh_kidsD hm hD hl hM
    omega
  refine ⟨⟨fun k hk => ?_, h.good, fun m hg em => ?_, ?_⟩, lt⟩
  · rcases List.mem_append.mp hk with hk | hk
    · exact h.wait k (by simp [hk])
    · exact (kids_good hm hl hk).1
  · rcases h.all m hg em with q | ⟨k, hk, r, rfl⟩
    · exact .inl q
    · rcases List.mem_append.mp hk with hk | hk
      · exact .inr ⟨k, List.mem_append_left _ hk, r, rfl⟩
      · rw [List.mem_singleton.mp hk] at hg em ⊢
        cases r with
        | nil =>
          rw [List.append_nil] at em
          exact absurd em e
        | cons p r =>
          obtain ⟨n, z⟩ := p
          exact .inr ⟨l ++ [(n, z)], List.mem_append_right _ (kids_has hg), r, by simp⟩
  · have := h.wt
    omega
/-- what the search found in the end -/
structure AllP (gs : List Gt) (bar rs : List Str) (one other : Str) (fs : List (List (Str × Str))) : Prop where
  good : ∀ l ∈ fs, GoodP gs bar rs one l ∧ lastOf one l = other
  all : ∀ m, GoodP gs bar rs one m → lastOf one m = other → m ∈ fs
theorem Srch.done {M D : Nat} {fs : List (List (Str × Str))} (h : Srch gs bar rs one other M D [] fs) : AllP gs bar rs one other fs ∧ fs.length ≤ (M + 1) ^ D := by
  refine ⟨⟨h.good, fun m hm em => ?_⟩, ?_⟩
  · rcases h.all m hm em with q | ⟨k, hk, _⟩
    · exact q
    · cases hk
  · have := h.wt
    omega
theorem SPath.sub {x y : Str} {l : List (Str × Str)} (hm : ∀ g ∈ gs, ∀ z ∈ g.2.1, z ∈ rs) (h : SPath gs bar x l y) : ∀ z ∈ l.map (·.2), z ∈ rs := by
  induction h with
  | nil => intro z hz; cases hz
  | cons s _ ih =>
    obtain ⟨g, hg, _, _, _, h2⟩ := s
    intro z hz
    rw [List.map_cons] at hz
    rcases List.mem_cons.mp hz with e | hz
    · rw [e]
      exact hm g hg _ h2
    · exact ih z hz
theorem AllP.iff {fs : List (List (Str × Str))} (nd : (gs.map (·.1)).Nodup) (hm : ∀ g ∈ gs, ∀ z ∈ g.2.1, z ∈ rs) (h : AllP gs bar rs one other fs) : fs ≠ [] ↔ Conn gs bar one other := by
  constructor
  · intro q
    obtain ⟨l, hl⟩ := List.exists_mem_of_ne_nil _ q
    obtain ⟨g, e⟩ := h.good l hl
    rw [← e]
    exact g.last.conn
  · intro c q
    obtain ⟨m, h1, h2, h3⟩ := c.simple nd
    have := h.all m ⟨⟨_, h1⟩, h2, h3, h1.sub hm⟩ (by
      unfold lastOf
      exact h1.end_.symm)
    rw [q] at this
    cases this
end
/-- lists of tuples of texts as data -/
theorem lay_tups : ∀ tss : List (List Str), (∀ ts ∈ tss, ∀ s ∈ ts, PyData.strOk s = true) → PyData.canLayAll0 (tss.map fun ts => PyData.tuple (ts.map PyData.str)) = true ∧ PyData.depthAll (tss.map fun ts => PyData.tuple (ts.map PyData.str)) ≤ 1
  | [], _ => ⟨by rw [List.map_nil, PyData.canLayAll0], by rw [List.map_nil, PyData.depthAll]; exact Nat.zero_le _⟩
  | ts :: tss, h => by
    obtain ⟨h1, h2⟩ := lay_tups tss fun x hx => h x (List.mem_cons_of_mem _ hx)
    obtain ⟨g1, g2⟩ := lay_strs ts (h ts List.mem_cons_self)
    rw [List.map_cons, PyData.canLayAll0, PyData.depthAll, h1, PyData.canLay0, PyData.depth, g1, g2]
    exact ⟨rfl, Nat.max_le.mpr ⟨by decide, h2⟩⟩
theorem shaped_tups (tss : List (List Str)) (h : ∀ ts ∈ tss, ∀ s ∈ ts, PyData.strOk s = true) : SeqAt.shaped (.list (tss.map fun ts => PyData.tuple (ts.map PyData.str))) = true := by
  obtain ⟨h1, h2⟩ := lay_tups tss h
  unfold SeqAt.shaped
  rw [PyData.canLay0, PyData.depth, h1]
  simp
  omega
theorem eqv_nilD : ∀ ds : List PyData, PyData.eqv (.list ds) (.list []) = ds.isEmpty
  | [] => by decide +kernel
  | s :: ss => by
    rw [PyData.eqv, PyData.eqvAll]
    rfl
/-- the texts of a path -/
def pathS (one : Str) (l : List (Str × Str)) : List Str := one :: l.flatMap fun p => [p.1, p.2]
theorem pathS_V (one : Str) (l : List (Str × Str)) : (pathS one l).map V.str = pathV one l := by
  unfold pathS pathV
  rw [List.map_cons, List.map_flatMap]
  rfl
theorem dp_paths {K : PySem.W.Frag} {H : Hp} {one : Str} : ∀ {ws : List Addr} {ls : List (List (Str × Str))}, Paired (fun a l => H a = some (.tup (pathV one l))) ws ls → DpAll K H (ws.map V.ref) (ls.map fun l => PyData.tuple ((pathS one l).map PyData.str))
  | _, _, .nil => .nil
  | _, _, .cons h t => .cons (.tup (SqT.of h) (by rw [← pathS_V]; exact dp_strs _)) (dp_paths t)
section
variable {X : Cx} {K : PySem.W.Frag}
theorem op_catTK (hK : X.K = K := by rfl) : OpR X (binaryOp .Add) (rCatT K) := by
  subst hK
  exact op_catT
theorem op_notInK (hK : X.K = K := by rfl) : OpR X (compareOp .NotIn) (rIn K true) := by
  subst hK
  exact op_notIn_seq
theorem op_inK (hK : X.K = K := by rfl) : OpR X (compareOp .In) (rIn K false) := by
  subst hK
  exact op_in_seq
theorem op_neDK (hu : X.A.units + 64 < cLine) (hK : X.K = K := by rfl) : OpR X (compareOp .NotEq) (rNeD K) := by
  subst hK
  exact op_neD hu
theorem pe_slice3K {e est : Expr} {lo hi : Option Expr} {te tst : TE} {tl th : TO} {p2 pos : Pos} (st : Int) (h0 : st ≠ 0) (h1 : st ≠ 1) (he : PE X e te) (hl : PO X lo tl) (hu : PO X hi th) (hst : PE X est tst) (hK : X.K = K := by rfl) : PE X (.Subscript e (.Slice lo hi (some est) p2) pos) (tSl3 K st te tl th tst) := by
  subst hK
  exact pe_slice3 st h0 h1 he hl hu hst
end
end WT

set_option Elab.async false
set_option linter.all false
set_option maxRecDepth 100000
set_option maxHeartbeats 4000000
/-! sorted of a list of alike data. -/
namespace WT
open PySem PySem.Spec PyProof.Rows L2 PySem.W
section
variable {X : Cx}
theorem each_vals : ∀ {bs : List (V × PyData)} {us : List Value}, Vals (bs.map (·.1)) us → EachIs (fun v (b : V × PyData) => RelV b.1 v) us bs
  | [], _, r => by
    cases r
    exact .nil
  | b :: bs, _, r => by
    cases r with
    | cons h t => exact .cons h (each_vals t)
theorem vals_each : ∀ {bs : List (V × PyData)} {us : List Value}, EachIs (fun v (b : V × PyData) => RelV b.1 v) us bs → Vals (bs.map (·.1)) us
  | _, _, .nil => .nil
  | _, _, .cons h t => .cons h (vals_each t)
theorem each_reads {pins : List (Addr × Obj)} {σ : L2.St} {H : Hp} {s : Shared} (I : Inv X pins σ H s) : ∀ {bs : List (V × PyData)} {us : List Value}, EachIs (fun v (b : V × PyData) => RelV b.1 v) us bs → (∀ b ∈ bs, Dp X.K H b.1 b.2) → EachIs (fun v (b : V × PyData) => ∃ as, Reads s.heap v b.2 as) us bs
  | _, _, .nil, _ => .nil
  | _, _, .cons h t, d => .cons (Dp.reads I _ _ _ (d _ List.mem_cons_self) h) (each_reads I t fun b hb => d b (List.mem_cons_of_mem _ hb))
/-- sorted(xs), the items alike data: the stable sort by Python's order -/
def rSortedD (K : PySem.W.Frag) : List V → Hp → VK → Prop := fun vs H Q => ∃ (a : Addr) (bs : List (V × PyData)), vs = [.ref a] ∧ SqL K H a (bs.map (·.1)) ∧ (∀ b ∈ bs, Dp K H b.1 b.2) ∧ AllAlike (bs.map (·.2)) ∧ Sortable (bs.map (·.2)) ∧ (∀ b ∈ bs, b.2.depth ≤ 60) ∧
  ∀ p, H p = none → Q (.ref p) (upd H p (.lst ((bs.mergeSort (dataLe false fun b => b.2)).map (·.1))))
theorem cr_sortedD (hu : X.A.units + 64 < cLine) : CallR X (.builtin "sorted") (rSortedD X.K) := by
  intro pins s σ H vs us Q I r h
  obtain ⟨a, bs, rfl, hs, hd, hal, hk, hde, q⟩ := h
  obtain ⟨its, rv, hl, hz⟩ := I.list hs
  rw [Vals.ref1 r]
  have e := each_vals rv
  have hlen : bs.length ≤ sizeLine := by
    have := e.length
    have h2 := hz
    rw [List.length_map] at h2
    omega
  refine sorted_data (enc := fun b : V × PyData => b.2) hl.isList e (each_reads I e hd) hal hk hlen (fun b hb => by have := hde b hb; omega) fun out ho he => ?_
  obtain ⟨ep, he'⟩ := PyProof.Rows.sortedAll_at s.heap its out.toArray
  have hl2 : ((bs.mergeSort (dataLe false fun b => b.2)).map (·.1)).length ≤ sizeLine := by
    rw [List.length_map, List.length_mergeSort]
    exact hlen
  exact ⟨.ref _, upd H (s.heap.objs.size + 1) (.lst ((bs.mergeSort (dataLe false fun b => b.2)).map (·.1))), I.laid (t' := s.toks) (fun _ _ => PyProof.Rows.sortedAll_old) (Nat.le_succ _) ⟨hl2, out, ep, vals_each he, he'⟩, rfl, q _ (I.hok.fresh (Nat.le_succ _))⟩
end
end WT

set_option Elab.async false
set_option linter.all false
namespace WT
open PySem
/-- data that repr can show, of at most that depth and length -/
structure Fit (n L : Nat) (d : PyData) : Prop where
  sh : d.showable = true
  de : d.depth ≤ n
  ln : d.shown.length ≤ L
theorem Fit.mono {n L n' L' : Nat} {d : PyData} (f : Fit n L d) (h1 : n ≤ n') (h2 : L ≤ L') : Fit n' L' d := ⟨f.sh, Nat.le_trans f.de h1, Nat.le_trans f.ln h2⟩
theorem fits_all {n L : Nat} : ∀ {ds : List PyData}, (∀ d ∈ ds, Fit n L d) → PyData.showableAll ds = true ∧ PyData.depthAll ds ≤ n ∧ ((PyData.shownAll ds).map (·.length)).sum + 2 * (PyData.shownAll ds).length ≤ ds.length * (L + 2)
  | [], _ => by
    refine ⟨rfl, ?_, ?_⟩
    · rw [PyData.depthAll]
      exact Nat.zero_le _
    · rw [PyData.shownAll]
      simp
  | d :: ds, h => by
    obtain ⟨a, b, c⟩ := fits_all fun x hx => h x (List.mem_cons_of_mem _ hx)
    have f := h d List.mem_cons_self
    refine ⟨?_, ?_, ?_⟩
    · rw [PyData.showableAll, f.sh, a]
      rfl
    · rw [PyData.depthAll]
      exact Nat.max_le.mpr ⟨f.de, b⟩
    · rw [PyData.shownAll]
      have q := f.ln
      simp only [List.map_cons, List.sum_cons, List.length_cons] at c ⊢
      rw [Nat.add_mul]
      omega
theorem fit_list {n L : Nat} {ds : List PyData} (h : ∀ d ∈ ds, Fit n L d) : Fit (n + 1) (ds.length * (L + 2) + 3) (.list ds) := by
  obtain ⟨a, b, c⟩ := fits_all h
  refine ⟨?_, ?_, ?_⟩
  · rw [PyData.showable]
    exact a
  · rw [PyData.depth]
    omega
  · rw [PyData.shown]
    have := listText_len_le (PyData.shownAll ds)
    omega
theorem fit_tuple {n L : Nat} {ds : List PyData} (h : ∀ d ∈ ds, Fit n L d) : Fit (n + 1) (ds.length * (L + 2) + 3) (.tuple ds) := by
  obtain ⟨a, b, c⟩ := fits_all h
  refine ⟨?_, ?_, ?_⟩
  · rw [PyData.showable]
    exact a
  · rw [PyData.depth]
    omega
  · rw [PyData.shown]
    have := tupleText_len_le (PyData.shownAll ds)
    omega
end WT

set_option Elab.async false
set_option linter.all false
set_option maxRecDepth 100000
set_option maxHeartbeats 4000000
/-! Calls with a keyword, and calls that leave a keyword-only parameter out. -/
namespace WT
open PySem PySem.Spec PyProof.Rows L2
section
variable {X : Cx} {cx : CXT} {k n m : Nat} {f : Addr} {fd : FuncData} {ps ks : List Str} {sp : Sp} {E : XK} {x : Str} {p pos : Pos} {e : Expr} {es : List Expr} {kws : List Keyword} {t tk : TA}
theorem run_fnB {pins : List (Addr × Obj)} {σ : L2.St} {H : Hp} {s : Shared} {Q : VK} {us : List Value} {kw : List (Str × Value)} {bs : List Value} {vs : List V} (hgd : X.A.guards = some []) (G : FnG X.prog X.w X.K X.mg X.base cx k f fd ps sp) (hr : Room k X.A)
    (hx : Passes cx X E) (I : Inv X pins σ H s) (hb : BindsTo s fd ⟨us, kw⟩ (ps.zip bs)) (r : Vals vs bs) (h : sp vs H Q E) : wpAny (model X.prog X.w) X.A (call (.ref f) us kw) (EP X pins σ Q) X.xe s := by
  refine wpAny_call (codeAny_mono (G.run X.A X.stack s H ⟨us, kw⟩ bs vs Q E hgd hr I.env0 hb r h) fun r s' hq => ?_)
  cases r with
  | error e => exact hx pins σ H s e s' I hq
  | ok fl =>
    cases fl with
    | ret u => exact I.after hq
    | next => exact hq.elim
    | brk => exact hq.elim
    | cont => exact hq.elim
/-- f(e, .., k = v, ..), the keywords behind the others in the parameters' order -/
def tCallKG (n m : Nat) (sp : Sp) (E : XK) (t tk : TA) : TE := fun σ H Q => t σ H fun vs H1 => tk σ H1 fun zs H2 => vs.length = n ∧ zs.length = m ∧ sp (vs ++ zs) H2 Q E
theorem pe_callKG (hgd : X.A.guards = some []) (G : FnG X.prog X.w X.K X.mg X.base cx k f fd ps sp) (hr : Room k X.A) (hg : Gl X x) (hm : X.mg x = some (.ref f)) (hk : PySem.W.keepIn X.K (.ref f) = true)
    (hb : ∀ (s1 : Shared) (us ws : List Value), X.K.In s1.heap → us.length = n → ws.length = m → BindsTo s1 fd ⟨us, ks.zip ws⟩ (ps.zip (us ++ ws))) (hx : Passes cx X E) (ha : PA X (e :: es) t) (hkw : PK X kws tk)
    (hall : (backToKw pos (keywordEach kws X.env)).all (·.1.isSome) = true := by rfl) (hks : (backToKw pos (keywordEach kws X.env)).filterMap (·.1) = ks := by rfl) (hdb : (x == ("__debug__" : Str)) = false := by decide)
    (he : starEach (e :: es) X.env = (false, eval e X.env) :: starEach es X.env := by rfl) (hpl : ((backTo pos (starEach (e :: es) X.env)).any (·.1) || (backToKw pos (keywordEach kws X.env)).any (·.1.isNone)) = false := by rfl) :
    PE X (.Call (.Name x p) (e :: es) kws pos) (tCallKG n m sp E t tk) := by
  refine ⟨fun pins s σ H Q I h => ?_⟩
  refine wpAny_Call_Name_kw (ld_glob I hg hm ?_ hdb)
  refine PySem.W.callWith_KW (h₀ := X.base) I.ok.mod.kin hk hall (thn (ha.run pos pins s σ H _ I h) fun us s1 ⟨vs, H1, I1, r, q⟩ => ?_) hpl he
  refine thn (hkw.run pos pins s1 σ H1 _ I1 q) fun ws s2 ⟨zs, H2, I2, rz, l1, l2, q2⟩ => ⟨I2.kIn, ?_⟩
  rw [hks]
  exact run_fnB hgd G hr hx I2 (hb s2 us ws I2.kIn ((Vals.length r).symm.trans l1) ((Vals.length rz).symm.trans l2)) (r.append rz) q2
/-- f(e, ..) where defaults fill up -/
def tCallDG (sp : Sp) (dvs : List V) (E : XK) (t : TA) : TE := fun σ H Q => t σ H fun vs H1 => sp (vs ++ dvs) H1 Q E
theorem pe_callDG {dvs : List V} {ds : List Value} (hgd : X.A.guards = some []) (G : FnG X.prog X.w X.K X.mg X.base cx k f fd ps sp) (hr : Room k X.A) (hg : Gl X x) (hm : X.mg x = some (.ref f)) (hk : PySem.W.keepIn X.K (.ref f) = true)
    (hb : Binds X.K fd ps ds) (hd : Vals dvs ds) (hx : Passes cx X E) (ha : PA X (e :: es) t) (hdb : (x == ("__debug__" : Str)) = false := by decide)
    (he : starEach (e :: es) X.env = (false, eval e X.env) :: starEach es X.env := by rfl) (hpl : (backTo pos (starEach es X.env)).any (·.1) = false := by rfl) : PE X (.Call (.Name x p) (e :: es) [] pos) (tCallDG sp dvs E t) := by
  refine ⟨fun pins s σ H Q I h => ?_⟩
  refine wpAny_Call_Name_kw (ld_glob I hg hm ?_ hdb)
  refine PySem.W.callWith_K (h₀ := X.base) I.ok.mod.kin hk (thn (ha.run pos pins s σ H _ I h) fun us s1 ⟨vs, H1, I1, r, q⟩ => ⟨I1.kIn, ?_⟩) he hpl
  have r2 : Vals (vs ++ dvs) (us ++ ds) := r.append hd
  exact run_fnB hgd G hr hx I1 (hb s1 us I1.kIn (by rw [← Vals.length r2]; exact G.len _ _ _ _ q)) r2 q
end
/-- a def with one keyword-only parameter: called with it, called without it -/
structure Dk (P : Program) (w : World) (K : PySem.W.Frag) (mg : Str → Option Value) (base : Heap) (x : Str) (k : Nat) (f : Addr) (fd : FuncData) (ps : List Str) (n : Nat) (kw : Str) (dv : V) (sp : Sp) : Prop where
  g : mg x = some (.ref f)
  kp : PySem.W.keepIn K (.ref f) = true
  G : FnG P w K mg base CX0 k f fd ps sp
  kb : ∀ (s1 : Shared) (us ws : List Value), K.In s1.heap → us.length = n → ws.length = 1 → BindsTo s1 fd ⟨us, ([kw] : List Str).zip ws⟩ (ps.zip (us ++ ws))
  bd : ∃ ds, Vals [dv] ds ∧ Binds K fd ps ds
end WT

set_option Elab.async false
set_option linter.all false
set_option maxRecDepth 100000
set_option maxHeartbeats 4000000
namespace WT
open PySem PySem.Spec PyProof.Rows L2
/-- what comes behind is proved once -/
theorem use_post {α : Type} {T : (α → Hp → Prop) → Prop} {Q : α → Hp → Prop} (G : α → Hp → Prop) (h : ∀ Q' : α → Hp → Prop, (∀ x H', G x H' → Q' x H') → T Q') (q : ∀ x H', G x H' → Q x H') : T Q := h Q q
theorem use_seq {f u : TS} {D : Ends} {σ : L2.St} {H : Hp} (G : L2.St → Hp → Prop) (h : ∀ N : L2.St → Hp → Prop, (∀ σ' H', G σ' H' → N σ' H') → f { D with nx := N } σ H) (q : ∀ σ' H', G σ' H' → u D σ' H') {r b c} : Ends.nx { nx := tSeq f u D, rt := r, bk := b, ct := c } σ H := h (u D) q
theorem call_reprK {X : Cx} {K : PySem.W.Frag} (hgd : X.A.guards = some []) (hu : X.A.units + 64 < cLine) (hK : X.K = K := by rfl) : CallR X (.builtin "repr") (rRepr K) := by
  subst hK
  exact call_repr hgd hu
theorem names_nodup {n : Nat} {ys : List Str} (h : NamesOf n ys) : ys.Nodup := by
  obtain ⟨s, f, rfl, _⟩ := h.ex
  unfold nameList
  refine List.pairwise_map.mpr (List.Pairwise.imp (fun {i j} hij e => hij ?_) List.nodup_range)
  have e := congrArg (fun z : Str => z.cps.toList) e
  simp only [app_cps] at e
  have e := List.append_cancel_left e
  have e : [97 + f + i] = [97 + f + j] := e
  simp at e
  omega
theorem fit_bool (b : Bool) : (PyData.bool b).showable = true ∧ (PyData.bool b).depth ≤ 60 ∧ (PyData.bool b).shown.length ≤ sizeLine ∧ PyData.strOk (PyData.bool b).shown = true := by
  cases b <;> decide +kernel
theorem pot_upd {H : Hp} {a c : Addr} {n : Nat} {o : HO} (h : PotAt H a n) (hc : a ≠ c) : PotAt (upd H c o) a n := by
  obtain ⟨u0, u1, u2, e1, e2⟩ := h
  exact ⟨u0, u1, u2, by rw [upd_ne hc]; exact e1, e2⟩
theorem but_free {H H' : Hp} {a c : Addr} (h : But a H H') (hc : c ≠ a) (n : H' c = none) : H c = none := by
  cases e : H c with
  | none => rfl
  | some o =>
    rw [h _ _ hc e] at n
    cases n
theorem iff_same {b c : Bool} {p : Prop} (h : b = true ↔ p) (k : c = true ↔ p) : b = c := by
  cases b <;> cases c <;> simp_all
theorem gate_len {rs : List Str} {g : Gt} (h : GateOk rs g) : g.2.1 ≠ [] ∧ g.2.1.length ≤ rs.length := by
  obtain ⟨ys, k, h1, h2, h3, h4⟩ := h.from_
  have e1 := h2.length_eq
  have e2 := h1.length_eq
  rw [List.length_take] at e1
  refine ⟨fun z => ?_, by omega⟩
  rw [z] at e1
  simp at e1
  omega

theorem use_seq1 {f u : TS} {D : Ends} {σ : L2.St} {H : Hp} (G : L2.St → Hp → Prop) (h : ∀ N : L2.St → Hp → Prop, (∀ σ' H', G σ' H' → N σ' H') → f { D with nx := N } σ H) (q : ∀ σ' H', G σ' H' → u D σ' H') : tSeq f u D σ H := h (u D) q
theorem perm_map_inv {α β : Type} {f : α → β} {l' m : List β} (h : l'.Perm m) : ∀ {l : List α}, m = l.map f → ∃ k : List α, k.Perm l ∧ l' = k.map f := by
  induction h with
  | nil =>
    intro l e
    cases l with
    | nil => exact ⟨[], .nil, rfl⟩
    | cons _ _ => cases e
  | cons x _ ih =>
    intro l e
    cases l with
    | nil => cases e
    | cons y l =>
      cases e
      obtain ⟨k, h1, h2⟩ := ih rfl
      exact ⟨y :: k, h1.cons y, by rw [h2]; rfl⟩
  | swap x y r =>
    intro l e
    cases l with
    | nil => cases e
    | cons a l =>
      cases l with
      | nil => cases e
      | cons b l =>
        cases e
        exact ⟨b :: a :: l, .swap _ _ _, rfl⟩
  | trans _ _ ih1 ih2 =>
    intro l e
    obtain ⟨k, h1, h2⟩ := ih2 e
    obtain ⟨k2, h3, h4⟩ := ih1 h2
    exact ⟨k2, h3.trans h1, h4⟩
theorem paired_zip {α β : Type} {R : α → β → Prop} : ∀ {l : List α} {m : List β}, Paired R l m → ∀ p ∈ l.zip m, R p.1 p.2
  | _, _, .nil, p, h => by cases h
  | _, _, .cons r t, p, h => by
    rw [List.zip_cons_cons] at h
    rcases List.mem_cons.mp h with e | h
    · rw [e]
      exact r
    · exact paired_zip t p h
theorem zip_paired {α β : Type} {R : α → β → Prop} : ∀ {l : List (α × β)}, (∀ p ∈ l, R p.1 p.2) → Paired R (l.map (·.1)) (l.map (·.2))
  | [], _ => .nil
  | p :: l, h => .cons (h p List.mem_cons_self) (zip_paired fun q hq => h q (List.mem_cons_of_mem _ hq))
theorem zip_fst {α β : Type} {R : α → β → Prop} : ∀ {l : List α} {m : List β}, Paired R l m → (l.zip m).map (·.1) = l ∧ (l.zip m).map (·.2) = m
  | _, _, .nil => ⟨rfl, rfl⟩
  | _, _, .cons r t => by
    obtain ⟨h1, h2⟩ := zip_fst t
    rw [List.zip_cons_cons, List.map_cons, List.map_cons, h1, h2]
    exact ⟨rfl, rfl⟩
/-! gateways and worlds as data -/
def gateD (g : Gt) : PyData := .tuple [.str g.1, .tuple (g.2.1.map PyData.str), .str g.2.2]
def worldD (rs : List Str) (gs : List Gt) : PyData := .tuple [.tuple (rs.map PyData.str), .tuple (gs.map gateD)]
theorem dp_gate {K : PySem.W.Frag} {H : Hp} {a : Addr} {g : Gt} (h : GateAt H a g) : Dp K H (.ref a) (gateD g) := by
  obtain ⟨i, h1, h2⟩ := h
  exact .tup (SqT.of h1) (.cons (.str _) (.cons (.tup (SqT.of h2) (dp_strs _)) (.cons (.str _) .nil)))
theorem alikeAll_strs : ∀ xs ys : List Str, PySem.W.alikeAll (xs.map PyData.str) (ys.map PyData.str) = true
  | [], _ => by rw [List.map_nil, PySem.W.alikeAll]
  | _ :: _, [] => by rw [List.map_cons, List.map_nil, PySem.W.alikeAll]
  | x :: xs, y :: ys => by
    rw [List.map_cons, List.map_cons, PySem.W.alikeAll, alikeAll_strs xs ys, PySem.W.alike]
    rfl
theorem alike_gate (g g' : Gt) : PySem.W.alike (gateD g) (gateD g') = true := by
  unfold gateD
  rw [PySem.W.alike, PySem.W.alikeAll, PySem.W.alikeAll, PySem.W.alikeAll, PySem.W.alike, PySem.W.alike, PySem.W.alike, alikeAll_strs, PySem.W.alikeAll]
  rfl
theorem depthAll_strs : ∀ ss : List Str, PyData.depthAll (ss.map PyData.str) = 0
  | [] => by rw [List.map_nil, PyData.depthAll]
  | s :: ss => by
    rw [List.map_cons, PyData.depthAll, depthAll_strs ss, PyData.depth]
    rfl
theorem depth_gate (g : Gt) : (gateD g).depth ≤ 2 := by
  unfold gateD
  rw [PyData.depth, PyData.depthAll, PyData.depthAll, PyData.depthAll, PyData.depthAll, PyData.depth, PyData.depth, PyData.depth, depthAll_strs]
  decide
mutual
theorem Dp.dt {K : PySem.W.Frag} {H : Hp} : ∀ {v : V} {d : PyData}, Dp K H v d → Dt K H v d
  | _, _, .non => .non
  | _, _, .bl b => .bl b
  | _, _, .int i => .int i
  | _, _, .str x => .str x
  | _, _, .lst h t => .lst h (DpAll.dt t)
  | _, _, .tup h t => .tup h (DpAll.dt t)
theorem DpAll.dt {K : PySem.W.Frag} {H : Hp} : ∀ {vs : List V} {ds : List PyData}, DpAll K H vs ds → DtAll K H vs ds
  | _, _, .nil => .nil
  | _, _, .cons h t => .cons (Dp.dt h) (DpAll.dt t)
end
theorem dp_gates {K : PySem.W.Frag} {H : Hp} : ∀ {as : List Addr} {gs : List Gt}, Paired (GateAt H) as gs → DpAll K H (as.map V.ref) (gs.map gateD)
  | _, _, .nil => .nil
  | _, _, .cons r t => .cons (dp_gate r) (dp_gates t)
theorem dp_world {K : PySem.W.Frag} {H : Hp} {a r g : Addr} {as : List Addr} {rs : List Str} {gs : List Gt} (h : WorldAt H a r g as rs gs) : Dp K H (.ref a) (worldD rs gs) :=
  .tup (SqT.of h.top) (.cons (.tup (SqT.of h.reg) (dp_strs _)) (.cons (.tup (SqT.of h.gat) (dp_gates h.each)) .nil))
end WT

set_option Elab.async false
set_option linter.all false
set_option maxRecDepth 100000
set_option maxHeartbeats 4000000
namespace WT
open PySem PySem.Spec PyProof.Rows L2
theorem lastD_mem {α : Type} : ∀ (l : List α) (d : α), l.getLastD d ∈ d :: l
  | [], d => by simp
  | a :: l, d => by
    rw [List.getLastD_cons]
    exact List.mem_cons_of_mem _ (lastD_mem l a)
theorem lastOf_mem (one : Str) (l : List (Str × Str)) : lastOf one l ∈ one :: l.map (·.2) := lastD_mem _ _
section
variable {gs : List Gt} {bar rs : List Str} {one : Str}
theorem SPath.names {x y : Str} {l : List (Str × Str)} (h : SPath gs bar x l y) : ∀ n ∈ l.map (·.1), n ∈ gs.map (·.1) := by
  induction h with
  | nil => intro n hn; cases hn
  | cons s _ ih =>
    obtain ⟨g, hg, e, _⟩ := s
    intro n hn
    rw [List.map_cons] at hn
    rcases List.mem_cons.mp hn with e2 | hn
    · rw [e2]
      exact List.mem_map.mpr ⟨g, hg, e⟩
    · exact ih n hn
theorem GoodP.lenG {l : List (Str × Str)} (h : GoodP gs bar rs one l) : l.length ≤ gs.length := by
  obtain ⟨z, hz⟩ := h.path
  have := nodup_le (rs := gs.map (·.1)) h.gat hz.names
  rw [List.length_map, List.length_map] at this
  exact this
theorem kidsOf_len {B : Nat} {g : Gt} (hg : g.2.1.length ≤ B + 1) (l : List (Str × Str)) : (kidsOf bar one l g).length ≤ B := by
  unfold kidsOf
  by_cases c : lastOf one l ∈ g.2.1 ∧ g.1 ∉ l.map (·.1) ∧ g.1 ∉ bar
  · rw [if_pos c, List.length_map]
    have : (g.2.1.filter fun z => decide (z ∉ one :: l.map (·.2))).length < g.2.1.length :=
      List.length_filter_lt_length_iff_exists.mpr ⟨lastOf one l, c.1, by
        have := lastOf_mem one l
        simp only [decide_eq_true_eq]
        exact fun z => z this⟩
    omega
  · rw [if_neg c]
    exact Nat.zero_le _
theorem kids_lenX {B : Nat} {gx : Gt} (hx : gx ∈ gs) (hB : ∀ g ∈ gs, g.2.1.length ≤ B + 1) (l : List (Str × Str)) : (kids gs [gx.1] one l).length ≤ (gs.length - 1) * B := by
  have gen : ∀ (hs : List Gt), (∀ g ∈ hs, g.2.1.length ≤ B + 1) → (kids hs [gx.1] one l).length ≤ hs.length * B := fun hs => by
    induction hs with
    | nil => intro _; exact Nat.zero_le _
    | cons g hs ih =>
      intro h
      have a := ih fun y hy => h y (List.mem_cons_of_mem _ hy)
      have b := kidsOf_len (bar := [gx.1]) (one := one) (h g List.mem_cons_self) l
      unfold kids at a ⊢
      rw [List.flatMap_cons, List.length_append, List.length_cons, Nat.add_mul]
      omega
  obtain ⟨g1, g2, rfl⟩ := List.append_of_mem hx
  have e : kids (g1 ++ gx :: g2) [gx.1] one l = kids (g1 ++ g2) [gx.1] one l := by
    unfold kids
    rw [List.flatMap_append, List.flatMap_append, List.flatMap_cons]
    have : kidsOf [gx.1] one l gx = [] := by
      unfold kidsOf
      rw [if_neg fun z => z.2.2 (by simp)]
    rw [this, List.nil_append]
  rw [e]
  have := gen (g1 ++ g2) fun g hg => hB g (by
    rcases List.mem_append.mp hg with h | h
    · exact List.mem_append_left _ h
    · exact List.mem_append_right _ (List.mem_cons_of_mem _ h))
  rw [List.length_append] at this ⊢
  rw [List.length_cons]
  rw [show g1.length + (g2.length + 1) - 1 = g1.length + g2.length by omega]
  exact this
end
/-- a world that is small enough for the search through all paths -/
def Small (rs : List Str) (gs : List Gt) : Prop := ∃ M D : Nat, (M + 1) ^ D < sizeLine ∧ ∀ gx ∈ gs, gx.2.1.length * gx.2.1.length * (M + 1) ^ D < sizeLine ∧ ∀ one ∈ rs, (∀ k, GoodP gs [gx.1] rs one k → k.length ≤ D) ∧ ∀ l, (kids gs [gx.1] one l).length ≤ M
theorem small_of {rs : List Str} {gs : List Gt} (hr : rs.length ≤ 6) (hg : gs.length ≤ 4) (hm : ∀ g ∈ gs, g.2.1.length ≤ rs.length) : Small rs gs := by
  refine ⟨15, 4, by decide, fun gx hx => ⟨?_, fun one ho => ⟨fun k hk => Nat.le_trans hk.lenG hg, fun l => Nat.le_trans (kids_lenX (B := 5) hx (fun g h => Nat.le_trans (hm g h) hr) l) ?_⟩⟩⟩
  · have h6 : gx.2.1.length ≤ 6 := Nat.le_trans (hm gx hx) hr
    have : gx.2.1.length * gx.2.1.length ≤ 6 * 6 := Nat.mul_le_mul h6 h6
    exact Nat.lt_of_le_of_lt (Nat.mul_le_mul_right _ this) (by decide)
  · omega
theorem small_ring {rs : List Str} {gs : List Gt} (hr : rs.length = 8) (hg : gs.length = 8) (hm : ∀ g ∈ gs, g.2.1.length = 2) : Small rs gs := by
  refine ⟨7, 7, by decide, fun gx hx => ⟨?_, fun one ho => ⟨fun k hk => ?_, fun l => Nat.le_trans (kids_lenX (B := 1) hx (fun g h => by rw [hm g h]; decide) l) ?_⟩⟩⟩
  · rw [hm gx hx]
    decide
  · have := hk.len ho
    omega
  · omega
/-! what repr shows of names, gateways, worlds -/
theorem nm_of {s : Str} (h : s.length ≤ 8) (k : s.cps.toList.all (fun c => decide (97 ≤ c) && decide (c ≤ 122)) = true) : NmOk s := by
  refine ⟨h, fun c hc => ?_⟩
  have := List.all_eq_true.mp k c hc
  rw [Bool.and_eq_true] at this
  exact ⟨of_decide_eq_true this.1, of_decide_eq_true this.2⟩
theorem nm_wrap : NmOk "wrap" := nm_of (by decide +kernel) (by decide +kernel)
theorem nm_open : NmOk "open" := nm_of (by decide +kernel) (by decide +kernel)
theorem fit_str {s : Str} (h : NmOk s) : Fit 0 200 (.str s) := by
  refine ⟨rfl, by rw [PyData.depth]; exact Nat.le_refl _, ?_⟩
  have h1 := PyData.shown_le 8 (by decide) (.str s) (by
    rw [PyData.leavesShort, List.all_eq_true]
    intro c hc
    have := h.low c hc
    unfold Low at this
    have e : (16 : Nat) ^ 8 = 4294967296 := by decide
    exact decide_eq_true (by omega))
  have h2 : s.cps.size ≤ 8 := h.len
  rw [PyData.weight] at h1
  omega
theorem fit_strs {ss : List Str} (h : ∀ s ∈ ss, NmOk s) : Fit 1 (ss.length * 202 + 3) (.tuple (ss.map PyData.str)) := by
  have := fit_tuple (n := 0) (L := 200) (ds := ss.map PyData.str) fun d hd => by
    obtain ⟨s, hs, rfl⟩ := List.mem_map.mp hd
    exact fit_str (h s hs)
  rw [List.length_map] at this
  exact this
/-- a world as laws draw it -/
structure WFine (rs : List Str) (gs : List Gt) : Prop where
  rl : rs.length ≤ 10
  gl : gs.length ≤ 10
  rok : ∀ s ∈ rs, NmOk s
  nd : (gs.map (·.1)).Nodup
  each : ∀ g ∈ gs, NmOk g.1 ∧ g.2.1.length ≤ 10 ∧ (∀ y ∈ g.2.1, y ∈ rs) ∧ NmOk g.2.2
theorem fit_gate {rs : List Str} {gs : List Gt} (h : WFine rs gs) {g : Gt} (hg : g ∈ gs) : Fit 2 7000 (gateD g) := by
  obtain ⟨h1, h2, h3, h4⟩ := h.each g hg
  have a := fit_strs fun s hs => h.rok s (h3 s hs)
  have := fit_tuple (n := 1) (L := 2100) (ds := [.str g.1, .tuple (g.2.1.map PyData.str), .str g.2.2]) fun d hd => by
    simp only [List.mem_cons, List.not_mem_nil, or_false] at hd
    rcases hd with rfl | rfl | rfl
    · exact (fit_str h1).mono (by decide) (by decide)
    · exact a.mono (by decide) (by omega)
    · exact (fit_str h4).mono (by decide) (by decide)
  exact this.mono (by decide) (by show 3 * (2100 + 2) + 3 ≤ 7000; decide)
theorem fit_world {rs : List Str} {gs : List Gt} (h : WFine rs gs) : Fit 60 sizeLine (worldD rs gs) := by
  have a := fit_strs h.rok
  have b := fit_tuple (n := 2) (L := 7000) (ds := gs.map gateD) fun d hd => by
    obtain ⟨g, hg, rfl⟩ := List.mem_map.mp hd
    exact fit_gate h hg
  rw [List.length_map] at b
  have l1 := h.rl
  have l2 := h.gl
  have := fit_tuple (n := 3) (L := 80000) (ds := [.tuple (rs.map PyData.str), .tuple (gs.map gateD)]) fun d hd => by
    simp only [List.mem_cons, List.not_mem_nil, or_false] at hd
    rcases hd with rfl | rfl
    · exact a.mono (by decide) (by omega)
    · exact b.mono (by decide) (by omega)
  exact this.mono (by decide) (by show 2 * (80000 + 2) + 3 ≤ sizeLine; decide)
theorem WorldOk.fine {rs : List Str} {gs : List Gt} (h : WorldOk rs gs) : WFine rs gs := by
  obtain ⟨n, h1, h2, h3⟩ := h.reg
  obtain ⟨m, h4, h5⟩ := h.gat
  have l1 := h3.length
  have l2 := h5.length
  rw [List.length_map] at l2
  refine ⟨by omega, by omega, h3.nm, names_nodup h5, fun g hg => ?_⟩
  have k := h.each g hg
  refine ⟨k.nm, by have := k.len; omega, k.sub, ?_⟩
  rcases k.kind with e | e
  · rw [e]
    exact nm_wrap
  · rw [e]
    exact nm_open
theorem lay_ints : ∀ ns : List Int, PyData.canLayAll0 (ns.map PyData.int) = true ∧ PyData.depthAll (ns.map PyData.int) = 0
  | [] => ⟨by rw [List.map_nil, PyData.canLayAll0], by rw [List.map_nil, PyData.depthAll]⟩
  | n :: ns => by
    obtain ⟨h1, h2⟩ := lay_ints ns
    rw [List.map_cons, PyData.canLayAll0, PyData.depthAll, h1, h2, PyData.canLay0, PyData.depth]
    exact ⟨rfl, rfl⟩
theorem shaped_ints (ns : List Int) : SeqAt.shaped (.list (ns.map PyData.int)) = true := by
  obtain ⟨h1, h2⟩ := lay_ints ns
  unfold SeqAt.shaped
  rw [PyData.canLay0, PyData.depth, h1, h2]
  rfl
theorem dp_ints {K : PySem.W.Frag} {H : Hp} : ∀ ns : List Int, DpAll K H (ns.map V.int) (ns.map PyData.int)
  | [] => .nil
  | n :: ns => .cons (.int n) (dp_ints ns)
theorem str_tri (a b : Str) : a.cps.toList < b.cps.toList ∨ a = b ∨ b.cps.toList < a.cps.toList := by
  by_cases h1 : a.cps.toList < b.cps.toList
  · exact .inl h1
  · by_cases h2 : b.cps.toList < a.cps.toList
    · exact .inr (.inr h2)
    · have e : a.cps.toList = b.cps.toList := List.le_antisymm (List.not_lt.mp h2) (List.not_lt.mp h1)
      refine .inr (.inl ?_)
      obtain ⟨⟨x⟩⟩ := a
      obtain ⟨⟨y⟩⟩ := b
      have e : x = y := e
      rw [e]
theorem str_irrefl {a b : Str} (h : a.cps.toList < b.cps.toList) : a ≠ b := fun e => by
  rw [e] at h
  exact List.lt_irrefl _ h
end WT

set_option Elab.async false
set_option linter.all false
set_option maxRecDepth 100000
set_option maxHeartbeats 4000000
namespace WT
open PySem PySem.Spec PyProof.Rows L2
/-! ### the search for a shortest path: what it does, as a function, and that what it finds is shortest -/
abbrev Pth := List (Str × Str)
abbrev Tab := List (Str × Pth)
def keysT (t : Tab) : List Str := t.map (·.1)
def tabGet : Tab → Str → Option Pth
  | [], _ => none
  | p :: t, x => if p.1 = x then some p.2 else tabGet t x
def bfsOne (lr : Pth) (st : Tab × List Str) (e : Str × Str) : Tab × List Str := if e.2 ∈ keysT st.1 then st else (st.1 ++ [(e.2, lr ++ [e])], st.2 ++ [e.2])
def bfsReg (gs : List Gt) (bar : List Str) (st : Tab × List Str) (r : Str) : Tab × List Str := (exitsL gs bar r).foldl (bfsOne ((tabGet st.1 r).getD [])) st
def bfsLev (gs : List Gt) (bar : List Str) (t : Tab) (far : List Str) : Tab × List Str := far.foldl (bfsReg gs bar) (t, [])
def bfs (gs : List Gt) (bar : List Str) (other : Str) : Nat → Tab → List Str → Tab
  | 0, t, _ => t
  | n + 1, t, far => if far = [] ∨ other ∈ keysT t then t else bfs gs bar other n (bfsLev gs bar t far).1 (bfsLev gs bar t far).2
/-- the path that shortest_path hands back -/
def spath (gs : List Gt) (bar rs : List Str) (one other : Str) : Option Pth := tabGet (bfs gs bar other (2 * rs.length + 2) [(one, [])] [one]) other
theorem get_mem : ∀ {t : Tab} {x : Str} {l : Pth}, tabGet t x = some l → (x, l) ∈ t
  | [], _, _, h => by cases h
  | p :: t, x, l, h => by
    unfold tabGet at h
    by_cases c : p.1 = x
    · rw [if_pos c] at h
      cases h
      rw [← c]
      exact List.mem_cons_self
    · rw [if_neg c] at h
      exact List.mem_cons_of_mem _ (get_mem h)
theorem get_some : ∀ {t : Tab} {x : Str}, x ∈ keysT t → ∃ l, tabGet t x = some l
  | [], _, h => by cases h
  | p :: t, x, h => by
    unfold tabGet
    by_cases c : p.1 = x
    · exact ⟨_, by rw [if_pos c]⟩
    · rw [if_neg c]
      rcases List.mem_cons.mp h with e | h
      · exact absurd e.symm c
      · exact get_some h
theorem get_none : ∀ {t : Tab} {x : Str}, x ∉ keysT t → tabGet t x = none
  | [], _, _ => rfl
  | p :: t, x, h => by
    unfold tabGet
    rw [if_neg fun e => h (by rw [← e]; exact List.mem_cons_self)]
    exact get_none fun z => h (List.mem_cons_of_mem _ z)
theorem get_app {t u : Tab} {x : Str} (h : x ∈ keysT t) : tabGet (t ++ u) x = tabGet t x := by
  induction t with
  | nil => cases h
  | cons p t ih =>
    rw [List.cons_append]
    unfold tabGet
    by_cases c : p.1 = x
    · rw [if_pos c, if_pos c]
    · rw [if_neg c, if_neg c]
      rcases List.mem_cons.mp h with e | h
      · exact absurd e.symm c
      · exact ih h
theorem keys_app (t u : Tab) : keysT (t ++ u) = keysT t ++ keysT u := List.map_append
theorem mem_keys {t : Tab} {p : Str × Pth} (h : p ∈ t) : p.1 ∈ keysT t := List.mem_map.mpr ⟨p, h, rfl⟩
section
variable {gs : List Gt} {bar rs : List Str} {one other : Str}
/-- the table after d rounds -/
structure BOk (gs : List Gt) (bar rs : List Str) (one : Str) (d : Nat) (t : Tab) (far : List Str) : Prop where
  nod : (keysT t).Nodup
  sub : ∀ x ∈ keysT t, x ∈ rs
  ok : ∀ p ∈ t, SPath gs bar one p.2 p.1 ∧ p.2.length ≤ d ∧ ∀ m, SPath gs bar one m p.1 → p.2.length ≤ m.length
  all : ∀ x m, SPath gs bar one m x → m.length ≤ d → x ∈ keysT t
  ffar : ∀ p ∈ t, p.1 ∈ far ↔ p.2.length = d
  fsub : ∀ x ∈ far, x ∈ keysT t
/-- what a round has added so far -/
structure BMid (gs : List Gt) (bar rs : List Str) (one : Str) (d : Nat) (t add : Tab) : Prop where
  nod : (keysT (t ++ add)).Nodup
  sub : ∀ x ∈ keysT add, x ∈ rs
  ok : ∀ p ∈ add, SPath gs bar one p.2 p.1 ∧ p.2.length = d + 1
theorem BOk.first (h : one ∈ rs) : BOk gs bar rs one 0 [(one, [])] [one] := by
  refine ⟨by simp [keysT], fun x hx => ?_, fun p hp => ?_, fun x m hm hl => ?_, fun p hp => ?_, fun x hx => ?_⟩
  · rw [List.mem_singleton.mp hx]
    exact h
  · rw [List.mem_singleton.mp hp]
    exact ⟨.nil one, Nat.le_refl _, fun m _ => Nat.zero_le _⟩
  · have : m = [] := List.length_eq_zero_iff.mp (by omega)
    subst this
    cases hm
    exact List.mem_cons_self
  · rw [List.mem_singleton.mp hp]
    simp
  · exact hx
theorem BMid.first {d : Nat} {t : Tab} {far : List Str} (h : BOk gs bar rs one d t far) : BMid gs bar rs one d t [] := ⟨by rw [List.append_nil]; exact h.nod, fun x hx => (nomatch hx), fun p hp => (nomatch hp)⟩
theorem exits_step {x : Str} {e : Str × Str} (h : e ∈ exitsL gs bar x) : Step gs bar x e.1 e.2 := by
  unfold exitsL at h
  obtain ⟨g, hg, he⟩ := List.mem_flatMap.mp h
  by_cases c : x ∈ g.2.1 ∧ g.1 ∉ bar
  · rw [if_pos c] at he
    obtain ⟨y, hy, rfl⟩ := List.mem_map.mp he
    exact ⟨g, hg, rfl, c.2, c.1, (List.mem_filter.mp hy).1⟩
  · rw [if_neg c] at he
    cases he
theorem BMid.one_ {d : Nat} {t add : Tab} {far : List Str} {r : Str} {lr : Pth} {e : Str × Str} (hm : ∀ g ∈ gs, ∀ z ∈ g.2.1, z ∈ rs) (B : BOk gs bar rs one d t far) (h : BMid gs bar rs one d t add) (hr : (r, lr) ∈ t) (hl : lr.length = d) (he : e ∈ exitsL gs bar r) :
    ∃ add', bfsOne lr (t ++ add, keysT add) e = (t ++ add', keysT add') ∧ BMid gs bar rs one d t add' ∧ e.2 ∈ keysT (t ++ add') ∧ ∀ x ∈ keysT (t ++ add), x ∈ keysT (t ++ add') := by
  unfold bfsOne
  by_cases c : e.2 ∈ keysT (t ++ add)
  · rw [if_pos c]
    exact ⟨add, rfl, h, c, fun x hx => hx⟩
  · rw [if_neg c]
    refine ⟨add ++ [(e.2, lr ++ [e])], ?_, ⟨?_, fun x hx => ?_, fun p hp => ?_⟩, ?_, fun x hx => ?_⟩
    · rw [List.append_assoc, keys_app]
      rfl
    · rw [← List.append_assoc, keys_app]
      refine List.nodup_append.mpr ⟨h.nod, by simp [keysT], fun a ha b hb q => ?_⟩
      have hb : b = e.2 := by simpa [keysT] using hb
      exact c (hb ▸ q ▸ ha)
    · rw [keys_app] at hx
      rcases List.mem_append.mp hx with hx | hx
      · exact h.sub x hx
      · have hx : x = e.2 := by simpa [keysT] using hx
        obtain ⟨g, hg, _, _, _, h4⟩ := exits_step he
        rw [hx]
        exact hm g hg _ h4
    · rcases List.mem_append.mp hp with hp | hp
      · exact h.ok p hp
      · rw [List.mem_singleton.mp hp]
        refine ⟨(B.ok _ hr).1.app ?_, by simp [hl]⟩
        have := exits_step he
        exact .cons this (.nil _)
    · rw [← List.append_assoc, keys_app]
      exact List.mem_append_right _ (by simp [keysT])
    · rw [← List.append_assoc, keys_app]
      exact List.mem_append_left _ hx
/-- a region's exits, j of them -/
theorem BMid.reg {d : Nat} {t add : Tab} {far : List Str} {r : Str} {lr : Pth} (hm : ∀ g ∈ gs, ∀ z ∈ g.2.1, z ∈ rs) (B : BOk gs bar rs one d t far) (h : BMid gs bar rs one d t add) (hr : (r, lr) ∈ t) (hl : lr.length = d) :
    ∀ es : List (Str × Str), (∀ e ∈ es, e ∈ exitsL gs bar r) → ∃ add', es.foldl (bfsOne lr) (t ++ add, keysT add) = (t ++ add', keysT add') ∧ BMid gs bar rs one d t add' ∧ (∀ e ∈ es, e.2 ∈ keysT (t ++ add')) ∧ ∀ x ∈ keysT (t ++ add), x ∈ keysT (t ++ add') := by
  intro es
  induction es generalizing add with
  | nil => exact fun _ => ⟨add, rfl, h, fun e he => (nomatch he), fun x hx => hx⟩
  | cons e es ih =>
    intro hes
    obtain ⟨a1, e1, h1, k1, s1⟩ := BMid.one_ hm B h hr hl (hes e List.mem_cons_self)
    obtain ⟨a2, e2, h2, k2, s2⟩ := ih h1 fun x hx => hes x (List.mem_cons_of_mem _ hx)
    refine ⟨a2, by rw [List.foldl_cons, e1, e2], h2, fun x hx => ?_, fun x hx => s2 x (s1 x hx)⟩
    rcases List.mem_cons.mp hx with q | hx
    · rw [q]
      exact s2 _ k1
    · exact k2 x hx
theorem BOk.at_far {d : Nat} {t : Tab} {far : List Str} (B : BOk gs bar rs one d t far) {r : Str} (h : r ∈ far) : ∃ lr, tabGet t r = some lr ∧ (r, lr) ∈ t ∧ lr.length = d := by
  obtain ⟨lr, e⟩ := get_some (B.fsub r h)
  have m := get_mem e
  exact ⟨lr, e, m, (B.ffar _ m).mp h⟩
theorem BMid.lev {d : Nat} {t add : Tab} {far : List Str} (hm : ∀ g ∈ gs, ∀ z ∈ g.2.1, z ∈ rs) (B : BOk gs bar rs one d t far) (h : BMid gs bar rs one d t add) :
    ∀ fs : List Str, (∀ r ∈ fs, r ∈ far) → ∃ add', fs.foldl (bfsReg gs bar) (t ++ add, keysT add) = (t ++ add', keysT add') ∧ BMid gs bar rs one d t add' ∧ (∀ r ∈ fs, ∀ e ∈ exitsL gs bar r, e.2 ∈ keysT (t ++ add')) ∧ ∀ x ∈ keysT (t ++ add), x ∈ keysT (t ++ add') := by
  intro fs
  induction fs generalizing add with
  | nil => exact fun _ => ⟨add, rfl, h, fun e he => (nomatch he), fun x hx => hx⟩
  | cons r fs ih =>
    intro hf
    obtain ⟨lr, e0, m0, l0⟩ := B.at_far (hf r List.mem_cons_self)
    obtain ⟨a1, e1, h1, k1, s1⟩ := BMid.reg hm B h m0 l0 (exitsL gs bar r) fun e he => he
    obtain ⟨a2, e2, h2, k2, s2⟩ := ih h1 fun x hx => hf x (List.mem_cons_of_mem _ hx)
    have er : bfsReg gs bar (t ++ add, keysT add) r = (t ++ a1, keysT a1) := by
      unfold bfsReg
      rw [get_app (B.fsub r (hf r List.mem_cons_self)), e0]
      exact e1
    refine ⟨a2, by rw [List.foldl_cons, er, e2], h2, fun x hx e he => ?_, fun x hx => s2 x (s1 x hx)⟩
    rcases List.mem_cons.mp hx with q | hx
    · rw [q] at he
      exact s2 _ (k1 e he)
    · exact k2 x hx e he
theorem BOk.next {d : Nat} {t : Tab} {far : List Str} (hm : ∀ g ∈ gs, ∀ z ∈ g.2.1, z ∈ rs) (B : BOk gs bar rs one d t far) : ∃ add, bfsLev gs bar t far = (t ++ add, keysT add) ∧ BOk gs bar rs one (d + 1) (t ++ add) (keysT add) := by
  obtain ⟨add, e, h, k, _⟩ := BMid.lev hm B (.first B) far fun r hr => hr
  rw [List.append_nil] at e
  refine ⟨add, e, h.nod, fun x hx => ?_, fun p hp => ?_, fun x m hx hl => ?_, fun p hp => ?_, fun x hx => ?_⟩
  · rw [keys_app] at hx
    rcases List.mem_append.mp hx with hx | hx
    · exact B.sub x hx
    · exact h.sub x hx
  · rcases List.mem_append.mp hp with hp | hp
    · obtain ⟨h1, h2, h3⟩ := B.ok p hp
      exact ⟨h1, by omega, h3⟩
    · obtain ⟨h1, h2⟩ := h.ok p hp
      refine ⟨h1, by omega, fun m hq => ?_⟩
      rcases Nat.lt_or_ge d m.length with q | q
      · omega
      · exfalso
        have n := h.nod
        rw [keys_app] at n
        exact (List.nodup_append.mp n).2.2 _ (B.all _ m hq q) _ (mem_keys hp) rfl
  · rw [keys_app]
    rcases Nat.lt_or_ge d m.length with q | q
    · rcases List.eq_nil_or_concat m with rfl | ⟨m', p, rfl⟩
      · simp at q
      · obtain ⟨n, z⟩ := p
        rw [List.concat_eq_append] at hx hl q
        obtain ⟨y, h1, h2⟩ := hx.split
        cases h2 with
        | cons s s2 =>
          cases s2
          have ml : m'.length = d := by
            simp at hl q
            omega
          obtain ⟨ly, ey⟩ := get_some (B.all y m' h1 (by omega))
          have my := get_mem ey
          obtain ⟨o1, o2, o3⟩ := B.ok _ my
          rcases Nat.lt_or_ge ly.length d with q2 | q2
          · exact List.mem_append_left _ (B.all _ (ly ++ [(n, x)]) (o1.app (.cons s (.nil _))) (by simp; omega))
          · have q3 : ly.length = d := Nat.le_antisymm o2 q2
            have yf : y ∈ far := (B.ffar _ my).mpr q3
            by_cases c : x = y
            · rw [c]
              exact List.mem_append_left _ (mem_keys my)
            · obtain ⟨g, hg, e1, e2, e3, e4⟩ := s
              obtain ⟨ex, hex, q4⟩ := adj_exits (gs := gs) (bar := bar) (x := y) (y := x) ⟨g, hg, by rw [e1]; exact e2, e3, e4⟩ c
              have := k y yf ex hex
              rw [q4, keys_app] at this
              exact this
    · exact List.mem_append_left _ (B.all x m hx q)
  · rcases List.mem_append.mp hp with hp | hp
    · obtain ⟨h1, h2, h3⟩ := B.ok p hp
      constructor
      · intro z
        have n := h.nod
        rw [keys_app] at n
        exact absurd rfl ((List.nodup_append.mp n).2.2 _ (mem_keys hp) _ z)
      · intro z
        omega
    · exact ⟨fun _ => (h.ok p hp).2, fun _ => mem_keys hp⟩
  · rw [keys_app]
    exact List.mem_append_right _ hx
/-- how far the search still can go -/
def bmeas (rs : List Str) (t : Tab) (far : List Str) : Nat := 2 * (rs.length - t.length) + (if far = [] then 0 else 1)
theorem BOk.len {d : Nat} {t : Tab} {far : List Str} (B : BOk gs bar rs one d t far) : t.length ≤ rs.length := by
  have := nodup_le B.nod B.sub
  unfold keysT at this
  rw [List.length_map] at this
  exact this
theorem BOk.less {d : Nat} {t add : Tab} {far : List Str} (B : BOk gs bar rs one d t far) (hf : far ≠ []) (C : BOk gs bar rs one (d + 1) (t ++ add) (keysT add)) : bmeas rs (t ++ add) (keysT add) < bmeas rs t far := by
  have l1 := C.len
  unfold bmeas
  rw [if_neg hf]
  rw [List.length_append] at l1 ⊢
  by_cases e : add = []
  · subst e
    simp [keysT]
  · have : keysT add ≠ [] := fun z => e (by unfold keysT at z; exact List.map_eq_nil_iff.mp z)
    rw [if_neg this]
    have : 0 < add.length := List.length_pos_iff.mpr e
    omega
theorem bfs_stop {t : Tab} {far : List Str} (h : far = [] ∨ other ∈ keysT t) : ∀ n, bfs gs bar other n t far = t
  | 0 => rfl
  | n + 1 => by
    unfold bfs
    rw [if_pos h]
/-- where the search stops, it has found what there is -/
theorem BOk.stop {d : Nat} {t : Tab} {far : List Str} (B : BOk gs bar rs one d t far) (h : far = [] ∨ other ∈ keysT t) : Conn gs bar one other → other ∈ keysT t := by
  intro c
  rcases h with h | h
  · obtain ⟨l, hl⟩ := c.path
    clear c
    have key : ∀ {x : Str} {l : Pth}, SPath gs bar one l x → x ∈ keysT t := fun {x l} h' => by
      have : ∀ (k : Nat) (x : Str) (l : Pth), l.length = k → SPath gs bar one l x → x ∈ keysT t := fun k => by
        induction k with
        | zero => exact fun x l e hx => B.all x l hx (by omega)
        | succ k ih =>
          intro x l e hx
          rcases List.eq_nil_or_concat l with rfl | ⟨m', p, rfl⟩
          · simp at e
          · obtain ⟨n, z⟩ := p
            rw [List.concat_eq_append] at hx e
            obtain ⟨y, h1, h2⟩ := hx.split
            cases h2 with
            | cons s s2 =>
              cases s2
              have yk := ih y m' (by simp at e; omega) h1
              obtain ⟨ly, ey⟩ := get_some yk
              have my := get_mem ey
              obtain ⟨o1, o2, o3⟩ := B.ok _ my
              have nf : ly.length ≠ d := fun q => by
                have := (B.ffar _ my).mpr q
                rw [h] at this
                cases this
              have o2 : ly.length ≤ d := o2
              exact B.all _ (ly ++ [(n, x)]) (o1.app (.cons s (.nil _))) (by simp; omega)
      exact this _ x l rfl h'
    exact key hl
  · exact h
/-- the mirror's run is the invariant's -/
theorem bfs_ok (hm : ∀ g ∈ gs, ∀ z ∈ g.2.1, z ∈ rs) : ∀ (n d : Nat) (t : Tab) (far : List Str), BOk gs bar rs one d t far → bmeas rs t far ≤ n → ∃ d' far', BOk gs bar rs one d' (bfs gs bar other n t far) far' ∧ (far' = [] ∨ other ∈ keysT (bfs gs bar other n t far))
  | 0, d, t, far, B, h => by
    refine ⟨d, far, B, .inl ?_⟩
    unfold bmeas at h
    by_cases c : far = []
    · exact c
    · rw [if_neg c] at h
      omega
  | n + 1, d, t, far, B, h => by
    by_cases c : far = [] ∨ other ∈ keysT t
    · rw [bfs_stop c]
      exact ⟨d, far, B, c⟩
    · obtain ⟨add, e, C⟩ := B.next hm
      have l := B.less (fun z => c (.inl z)) C
      unfold bfs
      rw [if_neg c, e]
      exact bfs_ok hm n (d + 1) (t ++ add) (keysT add) C (Nat.le_of_lt_succ (Nat.lt_of_lt_of_le l h))
theorem bmeas_first : bmeas rs [(one, [])] [one] ≤ 2 * rs.length + 2 := by
  unfold bmeas
  simp
  omega
/-- shortest, or none where there is no path -/
theorem spath_none (hm : ∀ g ∈ gs, ∀ z ∈ g.2.1, z ∈ rs) (ho : one ∈ rs) : spath gs bar rs one other = none ↔ ¬ Conn gs bar one other := by
  obtain ⟨d, far, B, s⟩ := bfs_ok (other := other) hm _ 0 _ _ (BOk.first (gs := gs) (bar := bar) ho) bmeas_first
  unfold spath
  constructor
  · intro h c
    obtain ⟨l, e⟩ := get_some (B.stop s c)
    rw [e] at h
    cases h
  · intro h
    refine get_none fun z => h ?_
    obtain ⟨l, e⟩ := get_some z
    exact (B.ok _ (get_mem e)).1.conn
theorem spath_some (hm : ∀ g ∈ gs, ∀ z ∈ g.2.1, z ∈ rs) (ho : one ∈ rs) {l : Pth} (h : spath gs bar rs one other = some l) : SPath gs bar one l other ∧ ∀ m, SPath gs bar one m other → l.length ≤ m.length := by
  obtain ⟨d, far, B, s⟩ := bfs_ok (other := other) hm _ 0 _ _ (BOk.first (gs := gs) (bar := bar) ho) bmeas_first
  obtain ⟨h1, _, h3⟩ := B.ok _ (get_mem h)
  exact ⟨h1, h3⟩
theorem SPath.good (nd : (gs.map (·.1)).Nodup) {x y : Str} {l : Pth} (h : SPath gs bar x l y) (hl : ∀ m, SPath gs bar x m y → l.length ≤ m.length) : (x :: l.map (·.2)).Nodup ∧ (l.map (·.1)).Nodup := by
  obtain ⟨m, h1, h2, h3⟩ := simple_of nd l.length l rfl h
  by_cases c1 : (x :: l.map (·.2)).Nodup
  · by_cases c2 : (l.map (·.1)).Nodup
    · exact ⟨c1, c2⟩
    · exfalso
      obtain ⟨n, l1, l2, l3, e⟩ := twice c2
      obtain ⟨m1, p, r, rfl, e1, e2, e3⟩ := cut_map e
      obtain ⟨m2, p', m3, rfl, e4, e5, e6⟩ := cut_map e3
      obtain ⟨u, hu, hr⟩ := h.split
      obtain ⟨n1, z1⟩ := p
      obtain ⟨n2, z2⟩ := p'
      cases hr with
      | cons s1 t1 =>
        obtain ⟨v, hv, hr2⟩ := t1.split
        cases hr2 with
        | cons s2 t2 =>
          obtain ⟨g1, hg1, a1, b1, c1, d1⟩ := s1
          obtain ⟨g2, hg2, a2, b2, c2, d2⟩ := s2
          have en : n1 = n2 := by
            have e2 : n1 = n := e2
            have e5 : n2 = n := e5
            rw [e2, e5]
          obtain rfl : g1 = g2 := by_name nd hg1 hg2 (by rw [a1, a2, en])
          have := hl (m1 ++ (n1, z2) :: m3) (hu.app (.cons ⟨g1, hg1, a1, b1, c1, d2⟩ t2))
          simp at this
          omega
  · exfalso
    obtain ⟨z, l1, l2, l3, e⟩ := twice c1
    cases l1 with
    | nil =>
      rw [List.nil_append] at e
      obtain ⟨ex, er⟩ := List.cons.inj e
      subst ex
      obtain ⟨m1, p, m2, rfl, e1, e2, e3⟩ := cut_map er
      obtain ⟨n1, z1⟩ := p
      obtain rfl : z1 = x := e2
      obtain ⟨u, hu, hr⟩ := h.split
      cases hr with
      | cons s1 t1 =>
        have := hl m2 t1
        simp at this
        omega
    | cons a l1 =>
      obtain ⟨_, er⟩ := List.cons.inj e
      obtain ⟨m1, p, r, rfl, e1, e2, e3⟩ := cut_map er
      obtain ⟨m2, p', m3, rfl, e4, e5, e6⟩ := cut_map e3
      obtain ⟨n1, z1⟩ := p
      obtain ⟨n2, z2⟩ := p'
      obtain rfl : z1 = z := e2
      obtain rfl : z2 = z1 := e5
      obtain ⟨u, hu, hr⟩ := h.split
      cases hr with
      | cons s1 t1 =>
        obtain ⟨v, hv, hr2⟩ := t1.split
        cases hr2 with
        | cons s2 t2 =>
          have := hl (m1 ++ (n1, z2) :: m3) (hu.app (.cons s1 t2))
          simp at this
          omega
/-- a shortest path is a path in which nothing comes twice -/
theorem spath_good (nd : (gs.map (·.1)).Nodup) (hm : ∀ g ∈ gs, ∀ z ∈ g.2.1, z ∈ rs) (ho : one ∈ rs) {l : Pth} (h : spath gs bar rs one other = some l) : GoodP gs bar rs one l ∧ lastOf one l = other := by
  obtain ⟨h1, h2⟩ := spath_some hm ho h
  obtain ⟨h3, h4⟩ := h1.good nd h2
  exact ⟨⟨⟨_, h1⟩, h3, h4, h1.sub hm⟩, h1.end_.symm⟩
end
end WT

set_option Elab.async false
set_option linter.all false
namespace WT
open PySem PySem.Spec PyProof.Rows L2
/-- the dict of the search in memory -/
def TabAt (one : Str) (H : Hp) (kvs : List (Key × V)) (t : Tab) : Prop := Paired (fun (kv : Key × V) (p : Str × Pth) => kv.1 = Sum.inr p.1 ∧ ∃ a, kv.2 = .ref a ∧ H a = some (.tup (pathV one p.2))) kvs t
theorem TabAt.same {one : Str} {H H' : Hp} {kvs : List (Key × V)} {t : Tab} (h : TabAt one H kvs t) (s : ∀ c xs, H c = some (.tup xs) → H' c = some (.tup xs)) : TabAt one H' kvs t :=
  Paired.mapP h fun _ _ ⟨e, a, e1, e2⟩ => ⟨e, a, e1, s _ _ e2⟩
theorem TabAt.none_ {one : Str} {H : Hp} {x : Str} : ∀ {kvs : List (Key × V)} {t : Tab}, TabAt one H kvs t → x ∉ keysT t → valV kvs (Sum.inr x) = none
  | _, _, .nil, _ => rfl
  | _, _, .cons (a := kv) (b := p) r t, h => by
    rw [valV_neg fun e => h (by
      rw [r.1] at e
      cases e
      exact List.mem_cons_self)]
    exact TabAt.none_ t fun z => h (List.mem_cons_of_mem _ z)
theorem TabAt.some_ {one : Str} {H : Hp} {x : Str} {l : Pth} : ∀ {kvs : List (Key × V)} {t : Tab}, TabAt one H kvs t → tabGet t x = some l → ∃ a, valV kvs (Sum.inr x) = some (.ref a) ∧ H a = some (.tup (pathV one l))
  | _, _, .nil, h => by cases h
  | _, _, .cons (a := kv) (b := p) r t, h => by
    unfold tabGet at h
    by_cases c : p.1 = x
    · rw [if_pos c] at h
      cases h
      obtain ⟨e, a, e1, e2⟩ := r
      exact ⟨a, by rw [valV_pos (by rw [e, c]), e1], e2⟩
    · rw [if_neg c] at h
      rw [valV_neg fun e => c (by
        rw [r.1] at e
        cases e
        rfl)]
      exact TabAt.some_ t h
theorem TabAt.put {one : Str} {H : Hp} {kvs : List (Key × V)} {t : Tab} {x : Str} {l : Pth} {a : Addr} (h : TabAt one H kvs t) (hx : x ∉ keysT t) (ha : H a = some (.tup (pathV one l))) : putK kvs (Sum.inr x) (.ref a) = kvs ++ [(Sum.inr x, .ref a)] ∧ TabAt one H (kvs ++ [(Sum.inr x, .ref a)]) (t ++ [(x, l)]) :=
  ⟨putK_new _ (h.none_ hx), pair_snoc h ⟨rfl, a, rfl, ha⟩⟩
theorem BMid.len {gs : List Gt} {bar rs : List Str} {one : Str} {d : Nat} {t add : Tab} {far : List Str} (h : BMid gs bar rs one d t add) (B : BOk gs bar rs one d t far) : (t ++ add).length ≤ rs.length := by
  have := nodup_le (rs := rs) h.nod fun x hx => by
    rw [keys_app] at hx
    rcases List.mem_append.mp hx with hx | hx
    · exact B.sub x hx
    · exact h.sub x hx
  unfold keysT at this
  rw [List.length_map] at this
  exact this
/-- a path, or None -/
def PathRes (one : Str) (H : Hp) (v : V) : Option Pth → Prop
  | none => v = .non
  | some l => ∃ t, v = .ref t ∧ H t = some (.tup (pathV one l))
theorem PathRes.same {one : Str} {H H' : Hp} {v : V} {o : Option Pth} (h : PathRes one H v o) (s : Same H H') : PathRes one H' v o := by
  cases o with
  | none => exact h
  | some l =>
    obtain ⟨t, e1, e2⟩ := h
    exact ⟨t, e1, s _ _ e2⟩
end WT

set_option Elab.async false
set_option linter.all false
set_option maxRecDepth 100000
set_option maxHeartbeats 4000000
namespace K12
open PySem PySem.Spec PyProof.Rows L2 WT
abbrev st_shortest_path : Stmt := top 13
theorem sc_shortest_path : FnScope ["world", "one", "other", "without", "paths", "farthest", "reached", "region", "name", "behind"] ["world", "one", "other", "without"] (defScope st_shortest_path) := ⟨rfl, rfl, rfl, by decide +kernel, rfl, by decide +kernel, by decide +kernel⟩
section
variable {P : Program} {w : World} {K : PySem.W.Frag} {mg : Str → Option Value} {base : Heap} {f fE : Addr} {fd fdE : FuncData}
/-- shortest_path(world, one, other, without): the path that the search finds -/
def spShort (K : PySem.W.Frag) : Sp := fun vs H Q _ => ∃ (wa r g wo : Addr) (as : List Addr) (rs : List Str) (gs : List Gt) (one other : Str) (bar : List Str), vs = [.ref wa, .str one, .str other, .ref wo] ∧ WorldAt H wa r g as rs gs ∧ SqT K H wo (bar.map V.str) ∧ rs.length ≤ 100 ∧ gs.length ≤ 100 ∧ (gs.map (·.1)).Nodup ∧
  (∀ g ∈ gs, g.2.1.length ≤ 100 ∧ ∀ y ∈ g.2.1, y ∈ rs) ∧ one ∈ rs ∧ ∀ (H' : Hp) (v : V), Same H H' → PathRes one H' v (spath gs bar rs one other) → Q v H'
theorem ok_shortest_path (F : Fun K "shortest_path" "shortest_path" st_shortest_path f fd) (F_exits : Df P w K mg base "exits" 1 fE fdE ["world", "region", "without"] (spExits K)) : FnG P w K mg base CX0 2 f fd ["world", "one", "other", "without"] (spShort K) := by
  refine okG F sc_shortest_path (fun vs H Q E h => ?_) (fun cdv A outer s H vs Q E hgd hr h => ?_)
  · obtain ⟨_, _, _, _, _, _, _, _, _, _, rfl, _⟩ := h
    rfl
  · obtain ⟨wa, r, g, wo, as, rs, gs, one, other, bar, rfl, hw, hwo, hrl, hgl, nd0, hil, hone, q⟩ := h
    refine ⟨_, (pss_cons (ps_set (i := 4) sc_shortest_path.nd rfl (.inl rfl) (pe_disp (pps_cons (pv 1) (pe_tup (pa_cons (pv 1) pa_nil)) pps_nil) (by rfl) (by rfl) (fun z => by cases z) (by decide)))
      (pss_cons (ps_set (i := 5) sc_shortest_path.nd rfl (.inl rfl) (pe_lst (pa_cons (pv 1) pa_nil)))
      (pss_cons (ps_while PassesOwn.never (PW.pt (pw_and (pt_truth (pv 5) (by intro _; rfl)) (pw_and1 (pt_cmp (pc_dnotin (hu_of hr) (pv 2) (pv 4))))))
       (pss_cons (ps_set (i := 6) sc_shortest_path.nd rfl (.inl rfl) (pe_lst pa_nil))
       (pss_cons (ps_for PassesOwn.never rfl (pi_list (pv 5)) (pg_name (i := 7) sc_shortest_path.nd rfl (.inl rfl))
        (pss_one (ps_for PassesOwn.never rfl (pi_list (pe_callG hgd F_exits.G (hr.mono (by decide)) (by rfl) F_exits.g F_exits.kp F_exits.bd pass0 (pa_cons (pv 0) (pa_cons (pv 7) (pa_cons (pv 3) pa_nil))))) (pg_tup rfl (pgs_cons (pg_name (i := 8) sc_shortest_path.nd rfl (.inl rfl)) (pgs_cons (pg_name (i := 9) sc_shortest_path.nd rfl (.inl rfl)) pgs_nil)))
         (pss_one (ps_if (pt_cmp (pc_dnotin (hu_of hr) (pv 9) (pv 4)))
          (pss_cons (ps_dput (hu_of hr) (pv 4) (pv 9) (pe_op op_catT (pe_dget (hu_of hr) (pv 4) (pv 7) (fun _ _ => rfl)) (pe_tup (pa_cons (pv 8) (pa_cons (pv 9) pa_nil)))) rfl)
          (pss_one (ps_expr (pe_bm PySem.F.plainAttrs_list PySem.F.slot_list_append PySem.F.type_list_append mt_append (pv 6) (pa_cons (pv 9) pa_nil)))))
          pss_nil)))))
       (pss_one (ps_set (i := 5) sc_shortest_path.nd rfl (.inl rfl) (pv 6))))))
      (pss_one (ps_ret (pe_dget1 (hu_of hr) (pv 4) (pv 2) ⟨by rfl, by rfl, by rfl, by rfl⟩)))))), ?_⟩
    have hm : ∀ g ∈ gs, ∀ z ∈ g.2.1, z ∈ rs := fun g hg => (hil g hg).2
    -- paths = {one: (one,)}
    intro d nd
    refine ⟨_, rfl, _, rfl, (by show 1 ≤ sizeLine; decide), fun t0 nt0 => ?_⟩
    have z0 := same_new nd (o := .dK [])
    have z1 := same_new nt0 (o := .tup [.str one])
    have hd1 := z1 _ _ (show (upd H d (.dK [])) d = some (.dK []) from upd_same)
    refine ⟨hd1, [(Sum.inr one, .ref t0)], rfl, (by show 1 ≤ 15; decide), ?_⟩
    -- farthest = [one]
    refine ⟨_, rfl, (by show 1 ≤ sizeLine; decide), fun fl0 nfl0 => ?_⟩
    have ntd : t0 ≠ d := Ne.symm (ne_of_none (show (upd H d (.dK [])) d = some (.dK []) from upd_same) nt0)
    have ht2 : (upd (upd (upd H d (.dK [])) t0 (.tup [.str one])) d (.dK (mergeK [] [(Sum.inr one, .ref t0)]))) t0 = some (.tup [.str one]) := by
      rw [upd_ne ntd]
      exact upd_same
    have z2 := same_new nfl0 (o := .lst [.str one])
    have sm0 : Same H (upd (upd (upd (upd H d (.dK [])) t0 (.tup [.str one])) d (.dK (mergeK [] [(Sum.inr one, .ref t0)]))) fl0 (.lst [.str one])) := fun c o e => by
      refine z2 _ _ ?_
      rw [upd_ne (ne_of_none e nd)]
      exact z1 _ _ (z0 _ _ e)
    refine ⟨fun m σ H' => ∃ (kvs : List (Key × V)) (t : Tab) (far : List Str) (dd n : Nat) (fl : Addr) (v6 v7 v8 v9 : Option V), σ = [some (.ref wa), some (.str one), some (.str other), some (.ref wo), some (.ref d), some (.ref fl), v6, v7, v8, v9] ∧ Same H H' ∧ H fl = none ∧ H' d = some (.dK kvs) ∧ H' fl = some (.lst (far.map V.str)) ∧
        TabAt one H' kvs t ∧ BOk gs bar rs one dd t far ∧ bmeas rs t far ≤ n ∧ bfs gs bar other n t far = bfs gs bar other (2 * rs.length + 2) [(one, [])] [one] ∧ m = bmeas rs t far,
      ⟨_, [(Sum.inr one, .ref t0)], [(one, [])], [one], 0, _, fl0, none, none, none, none, rfl, sm0, ?_, ?_, upd_same, .cons ⟨rfl, t0, rfl, z2 _ _ ht2⟩ .nil, .first hone, bmeas_first, rfl, rfl⟩, fun m σ H' hW => ?_⟩
    · cases e : H fl0 with
      | none => rfl
      | some o =>
        have : (upd (upd (upd H d (.dK [])) t0 (.tup [.str one])) d (.dK (mergeK [] [(Sum.inr one, .ref t0)]))) fl0 = some o := by
          rw [upd_ne (ne_of_none e nd)]
          exact z1 _ _ (z0 _ _ e)
        rw [nfl0] at this
        cases this
    · exact z2 _ _ upd_same
    obtain ⟨kvs, t, far, dd, n, fl, v6, v7, v8, v9, rfl, sm, nfl, hd, hfl, tb, BO, hn, hR, rfl⟩ := hW
    -- while farthest and other not in paths
    have ret : (far = [] ∨ other ∈ keysT t) → Q ((valV kvs (Sum.inr other)).getD .non) H' := fun hdn => q _ _ sm (by
      have e : spath gs bar rs one other = tabGet t other := by
        unfold spath
        rw [← hR, bfs_stop hdn]
      rw [e]
      by_cases ho : other ∈ keysT t
      · obtain ⟨l, el⟩ := get_some ho
        obtain ⟨a, ea, ha⟩ := tb.some_ el
        rw [el, ea]
        exact ⟨a, rfl, ha⟩
      · rw [get_none ho, tb.none_ ho]
        rfl)
    refine ⟨_, rfl, _, .inl ⟨_, SqL.of hfl, rfl⟩, ?_⟩
    cases far with
    | nil =>
      refine ifF rfl (ifF rfl ?_)
      exact ⟨_, rfl, d, rfl, .inl ⟨_, .inl hd⟩, _, rfl, _, DGet.k (k := Sum.inr other) hd, ret (.inl rfl)⟩
    | cons y far =>
      refine ifT rfl ⟨_, rfl, _, rfl, d, _, rfl, DGet.k (k := Sum.inr other) hd, _, rfl, ?_⟩
      by_cases ho : other ∈ keysT t
      · obtain ⟨l, el⟩ := get_some ho
        obtain ⟨a, ea, ha⟩ := tb.some_ el
        refine ifF (by rw [ea]; rfl) ?_
        exact ⟨_, rfl, d, rfl, .inl ⟨_, .inl hd⟩, _, rfl, _, DGet.k (k := Sum.inr other) hd, ret (.inr ho)⟩
      · refine ifT (by rw [tb.none_ ho]; rfl) ?_
        generalize hfr : y :: far = fr at *
        have frn : fr ≠ [] := by
          rw [← hfr]
          simp
        clear hfr
        refine ⟨fun σ' H2 => ∃ (kvs2 : List (Key × V)) (add : Tab) (rl : Addr) (v6 v7 v8 v9 : Option V), σ' = [some (.ref wa), some (.str one), some (.str other), some (.ref wo), some (.ref d), some (.ref rl), v6, v7, v8, v9] ∧ Same H H2 ∧ H rl = none ∧ H2 d = some (.dK kvs2) ∧ H2 rl = some (.lst ((keysT add).map V.str)) ∧
            TabAt one H2 kvs2 (t ++ add) ∧ bfsLev gs bar t fr = (t ++ add, keysT add), ?_, ?_⟩
        · intro σ' H2 hN
          obtain ⟨kvs2, add, rl, u6, u7, u8, u9, rfl, sm2, nrl, hd2, hrl2, tb2, hlev⟩ := hN
          obtain ⟨add', e', C⟩ := BO.next hm
          rw [hlev] at e'
          have ea : t ++ add = t ++ add' := congrArg Prod.fst e'
          obtain rfl : add = add' := List.append_cancel_left ea
          have less := BO.less frn C
          have nn : n ≠ 0 := by omega
          obtain ⟨n', rfl⟩ : ∃ n', n = n' + 1 := ⟨n - 1, by omega⟩
          refine ⟨_, less, kvs2, t ++ add, keysT add, dd + 1, n', rl, u6, u7, u8, u9, rfl, sm2, nrl, hd2, hrl2, tb2, C, by omega, ?_, rfl⟩
          rw [← hR]
          conv => rhs; unfold bfs
          rw [if_neg (fun z => z.elim frn ho), hlev]
        -- reached = []
        refine ⟨(by show 0 ≤ sizeLine; decide), fun rl nrl => ?_⟩
        have z3 := same_new nrl (o := .lst [])
        have nrlH : H rl = none := sm.free nrl
        have nlf : fl ≠ rl := ne_of_none hfl nrl
        have nld : d ≠ rl := ne_of_none hd nrl
        have nfd : fl ≠ d := ne_of hfl hd (by intro z; cases z)
        refine ⟨_, rfl, fl, rfl, ⟨_, SqL.of (z3 _ _ hfl)⟩, for_it (walk_list (xs := fr.map V.str))
          (fun i σ' H2 => ∃ (kvs2 : List (Key × V)) (add : Tab) (v7 v8 v9 : Option V), σ' = [some (.ref wa), some (.str one), some (.str other), some (.ref wo), some (.ref d), some (.ref fl), some (.ref rl), v7, v8, v9] ∧ Same H H2 ∧ H2 d = some (.dK kvs2) ∧ H2 fl = some (.lst (fr.map V.str)) ∧ H2 rl = some (.lst ((keysT add).map V.str)) ∧
            TabAt one H2 kvs2 (t ++ add) ∧ BMid gs bar rs one dd t add ∧ (fr.take i).foldl (bfsReg gs bar) (t, []) = (t ++ add, keysT add))
          ⟨kvs, [], v7, v8, v9, rfl, sm.trans z3, z3 _ _ hd, z3 _ _ hfl, upd_same, by rw [List.append_nil]; exact tb.same fun t xs e => z3 _ _ e, .first BO, by rw [List.append_nil]; rfl⟩ (fun i σ' H2 _ ⟨_, _, _, _, _, _, _, _, h, _⟩ => SqL.of h) (fun i v σ' H2 H3 hi hP hY => ?_) (fun σ' H2 hP => ?_)⟩
        · obtain ⟨kvs2, add, u7, u8, u9, rfl, sm2, hd2, hfl2, hrl2, tb2, md2, fo2⟩ := hP
          obtain ⟨rfl, hv⟩ := hY
          rw [List.getElem?_map] at hv
          obtain ⟨x, hx, rfl⟩ := Option.map_eq_some_iff.mp hv
          have hxf : x ∈ fr := List.mem_of_getElem? hx
          obtain ⟨lr, el, ml, ll⟩ := BO.at_far hxf
          have xk := BO.fsub x hxf
          have lrl : lr.length + 1 ≤ rs.length := by
            obtain ⟨o1, o2, o3⟩ := BO.ok _ ml
            obtain ⟨g1, g2⟩ := o1.good nd0 o3
            exact GoodP.len ⟨⟨_, o1⟩, g1, g2, o1.sub hm⟩ hone
          refine ⟨_, rfl, _, rfl, _, rfl, wa, r, g, wo, as, rs, gs, x, bar, rfl, hw.same sm2, sameT sm2 hwo, hgl, fun g hg => (hil g hg).1, fun H4 p ts s4 np hp prs => ?_⟩
          have hlp := Paired.length prs
          refine ⟨p, rfl, ⟨_, SqL.of hp⟩, for_it (walk_list (xs := ts.map V.ref))
            (fun j σ' H5 => ∃ (kvs5 : List (Key × V)) (ad5 : Tab) (v8 v9 : Option V), σ' = [some (.ref wa), some (.str one), some (.str other), some (.ref wo), some (.ref d), some (.ref fl), some (.ref rl), some (.str x), v8, v9] ∧ Same H H5 ∧ H5 d = some (.dK kvs5) ∧ H5 fl = some (.lst (fr.map V.str)) ∧ H5 rl = some (.lst ((keysT ad5).map V.str)) ∧ H5 p = some (.lst (ts.map V.ref)) ∧
              Paired (PairAt H5) ts (exitsL gs bar x) ∧ TabAt one H5 kvs5 (t ++ ad5) ∧ BMid gs bar rs one dd t ad5 ∧ ((exitsL gs bar x).take j).foldl (bfsOne lr) (t ++ add, keysT add) = (t ++ ad5, keysT ad5))
            ⟨kvs2, add, u8, u9, rfl, sm2.trans s4, s4 _ _ hd2, s4 _ _ hfl2, s4 _ _ hrl2, hp, prs, tb2.same fun t xs e => s4 _ _ e, md2, rfl⟩ (fun j σ' H5 _ ⟨_, _, _, _, _, _, _, _, _, h, _⟩ => SqL.of h) (fun j v σ' H5 H6 hj hP hY => ?_) (fun σ' H5 hP => ?_)⟩
          · obtain ⟨kvs5, ad5, w8, w9, rfl, sm5, hd5, hfl5, hrl5, hp5, prs5, tb5, md5, fo5⟩ := hP
            obtain ⟨rfl, hv⟩ := hY
            rw [List.getElem?_map] at hv
            obtain ⟨u, hu, rfl⟩ := Option.map_eq_some_iff.mp hv
            obtain ⟨e, he, het⟩ := pair_at prs5 hu
            have hem : e ∈ exitsL gs bar x := List.mem_of_getElem? he
            obtain ⟨ad6, eq6, md6, k6, s6⟩ := BMid.one_ hm BO md5 ml ll hem
            have fo6 : ((exitsL gs bar x).take (j + 1)).foldl (bfsOne lr) (t ++ add, keysT add) = (t ++ ad6, keysT ad6) := by
              rw [List.take_add_one, he, List.foldl_append, fo5]
              exact eq6
            have l5 := md5.len BO
            refine ⟨u, [.str e.1, .str e.2], rfl, SqT.of het, rfl, .str e.1, _, rfl, .str e.2, [], rfl, rfl, ?_⟩
            refine ⟨_, rfl, _, rfl, d, _, rfl, DGet.k (k := Sum.inr e.2) hd5, _, rfl, ?_⟩
            by_cases hin : e.2 ∈ keysT (t ++ ad5)
            · obtain ⟨le, ele⟩ := get_some hin
              obtain ⟨ae, ee, _⟩ := tb5.some_ ele
              refine ifF (by rw [ee]; rfl) ?_
              have same6 : ad6 = ad5 := by
                unfold bfsOne at eq6
                rw [if_pos hin] at eq6
                exact (List.append_cancel_left (congrArg Prod.fst eq6)).symm
              rw [same6] at fo6
              exact ⟨kvs5, ad5, _, _, rfl, sm5, hd5, hfl5, hrl5, hp5, prs5, tb5, md5, fo6⟩
            · have is6 : ad6 = ad5 ++ [(e.2, lr ++ [e])] := by
                unfold bfsOne at eq6
                rw [if_neg hin] at eq6
                have := congrArg Prod.fst eq6
                dsimp only at this
                rw [List.append_assoc] at this
                exact (List.append_cancel_left this).symm
              refine ifT (by rw [tb5.none_ hin]; rfl) ?_
              obtain ⟨tp, ev, htp⟩ := tb5.some_ (x := x) (l := lr) (by rw [get_app xk]; exact el)
              have hxl := pathV_len one lr
              have hkl := Paired.length tb5
              -- paths[behind] = paths[region] + (name, behind)
              refine ⟨_, rfl, _, rfl, d, .ref tp, rfl, by rw [← ev]; exact DGet.k (k := Sum.inr x) hd5, _, rfl, _, rfl, (by show 2 ≤ sizeLine; decide), fun t7 n7 => ?_⟩
              have z7 := same_new n7 (o := .tup [.str e.1, .str e.2])
              refine ⟨tp, t7, pathV one lr, [.str e.1, .str e.2], rfl, rfl, SqT.of (z7 _ _ htp), SqT.of upd_same, (by unfold pathV; simp), ?_, fun z => (List.cons_ne_nil _ _ z).elim, fun _ t8 n8 => ?_⟩
              · show (pathV one lr).length + 2 ≤ sizeLine
                exact Nat.le_trans (show (pathV one lr).length + 2 ≤ 300 by omega) (by decide)
              have z8 := same_new n8 (o := .tup (pathV one lr ++ [.str e.1, .str e.2]))
              have z78 := z7.trans z8
              have ht8 : upd (upd H6 t7 (.tup [.str e.1, .str e.2])) t8 (.tup (pathV one lr ++ [.str e.1, .str e.2])) t8 = some (.tup (pathV one (lr ++ [e]))) := by
                rw [upd_same, ← pathV_snoc]
              generalize upd (upd H6 t7 (.tup [.str e.1, .str e.2])) t8 (.tup (pathV one lr ++ [.str e.1, .str e.2])) = H8 at z78 ht8 ⊢
              have hd8 := z78 _ _ hd5
              refine ⟨_, rfl, _, rfl, d, _, rfl, DPut.k (k := Sum.inr e.2) hd8 ?_, ?_⟩
              · exact Nat.lt_of_le_of_lt (show kvs5.length ≤ 100 by omega) (by decide)
              have tb8 : TabAt one H8 kvs5 (t ++ ad5) := tb5.same fun c xs ec => z78 _ _ ec
              obtain ⟨hput, tb9⟩ := tb8.put hin ht8
              rw [hput]
              rw [List.append_assoc, ← is6] at tb9
              have hrl8 := z78 _ _ hrl5
              have keepd : ∀ (c : Addr) (xs' : List V) (o : HO), H8 c = some (.tup xs') → upd H8 d o c = some (.tup xs') := fun c xs' o ec => by
                rw [upd_ne (ne_of ec hd8 (by intro z; cases z))]
                exact ec
              have hrl9 : upd H8 d (.dK (kvs5 ++ [(Sum.inr e.2, .ref t8)])) rl = some (.lst ((keysT ad5).map V.str)) := by
                rw [upd_ne (Ne.symm nld)]
                exact hrl8
              have hd9 : upd H8 d (.dK (kvs5 ++ [(Sum.inr e.2, .ref t8)])) d = some (.dK (kvs5 ++ [(Sum.inr e.2, .ref t8)])) := upd_same
              have tb10 := tb9.same fun c xs ec => keepd c xs (.dK (kvs5 ++ [(Sum.inr e.2, .ref t8)])) ec
              have prs9 : Paired (PairAt (upd H8 d (.dK (kvs5 ++ [(Sum.inr e.2, .ref t8)])))) ts (exitsL gs bar x) := Paired.mapP prs5 fun c e' hc => keepd _ _ _ (z78 _ _ hc)
              have fl9 : upd H8 d (.dK (kvs5 ++ [(Sum.inr e.2, .ref t8)])) fl = some (.lst (fr.map V.str)) := by
                rw [upd_ne nfd]
                exact z78 _ _ hfl5
              have npd : p ≠ d := fun z => by
                rw [z, hd2] at np
                cases np
              have npr : p ≠ rl := fun z => by
                rw [z, hrl2] at np
                cases np
              have p9 : upd H8 d (.dK (kvs5 ++ [(Sum.inr e.2, .ref t8)])) p = some (.lst (ts.map V.ref)) := by
                rw [upd_ne npd]
                exact z78 _ _ hp5
              have sm9 : Same H (upd H8 d (.dK (kvs5 ++ [(Sum.inr e.2, .ref t8)]))) := fun c o ec => by
                rw [upd_ne (ne_of_none ec nd)]
                exact z78 _ _ (sm5 _ _ ec)
              generalize upd H8 d (.dK (kvs5 ++ [(Sum.inr e.2, .ref t8)])) = H9 at hrl9 hd9 tb10 prs9 fl9 p9 sm9 ⊢
              refine ⟨_, rfl, .inl ⟨rfl, _, SqL.of hrl9⟩, _, rfl, rl, _, _, rfl, rfl, hrl9, ?_, ?_⟩
              · rw [List.length_map]
                unfold keysT
                rw [List.length_map]
                rw [List.length_append] at l5
                exact Nat.lt_of_le_of_lt (show ad5.length ≤ 100 by omega) (by decide)
              · have keepr : ∀ (c : Addr) (xs' : List V) (o : HO), H9 c = some (.tup xs') → upd H9 rl o c = some (.tup xs') := fun c xs' o ec => by
                  rw [upd_ne (ne_of ec hrl9 (by intro z; cases z))]
                  exact ec
                refine ⟨kvs5 ++ [(Sum.inr e.2, .ref t8)], ad6, _, _, rfl, ?_, ?_, ?_, ?_, ?_, ?_, ?_, md6, fo6⟩
                · intro c o ec
                  rw [upd_ne (ne_of_none ec nrlH)]
                  exact sm9 _ _ ec
                · rw [upd_ne nld]
                  exact hd9
                · rw [upd_ne nlf]
                  exact fl9
                · rw [upd_same, is6, keys_app, List.map_append]
                  rfl
                · rw [upd_ne npr]
                  exact p9
                · exact Paired.mapP prs9 fun c e' hc => keepr _ _ _ hc
                · exact tb10.same fun c xs ec => keepr _ _ _ ec
          · obtain ⟨kvs5, ad5, w8, w9, rfl, sm5, hd5, hfl5, hrl5, hp5, prs5, tb5, md5, fo5⟩ := hP
            rw [List.length_map, hlp, List.take_length] at fo5
            refine ⟨kvs5, ad5, _, _, _, rfl, sm5, hd5, hfl5, hrl5, tb5, md5, ?_⟩
            rw [List.take_add_one, hx, List.foldl_append, fo2]
            show bfsReg gs bar (t ++ add, keysT add) x = _
            unfold bfsReg
            rw [get_app xk, el]
            exact fo5
        · obtain ⟨kvs2, add, u7, u8, u9, rfl, sm2, hd2, hfl2, hrl2, tb2, md2, fo2⟩ := hP
          rw [List.length_map, List.take_length] at fo2
          exact ⟨_, rfl, kvs2, add, rl, _, _, _, _, rfl, sm2, nrlH, hd2, hrl2, tb2, fo2⟩
end
end K12

set_option Elab.async false
set_option linter.all false
set_option maxRecDepth 100000
set_option maxHeartbeats 4000000
/-! enumerate over a tuple. -/
namespace PySem
open Sem (wp)
theorem newEnumOne {x : Value} {io : Obj} {Hh : Heap → Prop} (Bg : Begins x io Hh) :
    Meets (Builtin.«enumerate.__new__» ⟨[.type "enumerate", x], []⟩) (fun _ Rr st => Hh st.heap ∧
      Rr (.ok (.ret (.ref (st.heap.push io).objs.size))) { st with heap := (st.heap.push io).push { cls := .type "enumerate", data := .fields #[.none, .bool false, .ref st.heap.objs.size, rawInt 0, .none, .none] } }) :=
  .of_wp fun pr wd Ar Rr st hyp => by
    obtain ⟨hh, gg, dd, tt, oo⟩ := st
    obtain ⟨hb, hyp⟩ := hyp
    have hsb := sub_enumerate
    have itr : ∀ {A2 : Around} {E2 : Value → Shared → Prop} {Q2 : Value → Shared → Prop}, Q2 (.ref hh.objs.size) ⟨hh.push io, gg, dd, tt, oo⟩ → wpAny (model pr wd) A2 (pyIter x) Q2 E2 ⟨hh, gg, dd, tt, oo⟩ :=
      fun r => Bg.iter pr wd _ _ ⟨hh, gg, dd, tt, oo⟩ _ hb r
    wp_walk using itr
    refine wpAny_stack_any fun stk => wpAny_pure ?_
    split
    · rename_i cc _ _ _ _ _
      cases (cc == Value.type "enumerate") <;> (wp_walk using itr; exact ⟨_, rfl, hyp⟩)
    · wp_walk using itr
      exact ⟨_, rfl, hyp⟩
theorem enumOne_begins {pr : Program} {wd : World} {Ar : Around} {Er : Value → Shared → Prop} {st : Shared} {x : Value} {io : Obj} {Hh : Heap → Prop} {Q : Value → Shared → Prop} (Bg : Begins x io Hh) (hb : Hh st.heap)
    (h : ∀ h2, IsEnum h2 (st.heap.objs.size + 1) st.heap.objs.size 0 .none → h2.get? st.heap.objs.size = some io → (∀ c oc, st.heap.get? c = some oc → h2.get? c = some oc) → Q (.ref (st.heap.objs.size + 1)) { st with heap := h2 }) :
    wpAny (model pr wd) Ar (call (.type "enumerate") [x]) Q Er st := by
  refine callType_new F.called_enumerate (by decide) (F.typeCall_enumerate_1 _) (F.newCall_enumerate_1 _) (fun ob => F.args_object_init_2 ob _) F.entry_enumerate_new (newEnumOne Bg) ⟨hb, ?_⟩
  have size1 : (st.heap.push io).objs.size = st.heap.objs.size + 1 := Heap.size_push ..
  show _ ∧ _
  rw [size1]
  have isE : IsEnum ((st.heap.push io).push { cls := .type "enumerate", data := .fields #[.none, .bool false, .ref st.heap.objs.size, rawInt 0, .none, .none] }) (st.heap.objs.size + 1) st.heap.objs.size 0 .none := by
    have z := Heap.get?_push_size (st.heap.push io) (o := { cls := .type "enumerate", data := .fields #[.none, .bool false, .ref st.heap.objs.size, rawInt 0, .none, .none] }) rfl
    rw [size1] at z
    exact z
  exact ⟨⟨_, isE, rfl⟩, h _ isE (Heap.get?_push_of_some _ (Heap.get?_push_size _ Bg.free)) fun c oc e => Heap.get?_push_of_some _ (Heap.get?_push_of_some _ e)⟩
end PySem
namespace WT
open PySem PySem.Spec PyProof.Rows L2
/-- the tuple at a, each item in a new pair with its number -/
def IteT (K : PySem.W.Frag) (a : Addr) : It where
  go i H := ∃ (xs : List V) (x : V), SqT K H a xs ∧ xs[i]? = some x
  yld i H v H' := ∃ T x, v = .ref T ∧ H T = none ∧ H' = upd H T (.tup [.int (i : Nat), x]) ∧ ∀ xs, SqT K H a xs → xs[i]? = some x
  stop i H := ∃ xs : List V, SqT K H a xs ∧ i = xs.length
theorem turn_enumT {P : Program} {w : World} {K : PySem.W.Frag} {ets : List Expr} {q : Nat} {tp : Pos} (a e it : Addr) :
    Turn P w K (.Tuple ets q tp) (IteT K a) [e, it] e (fun i h => ((∃ old, IsEnum h e it ((i : Nat) : Int) old) ∧ h.IsTupleIter it a i) ∧ e ≠ it ∧ a ≠ it ∧ a ≠ e) where
  mem := List.mem_cons_self
  obj := fun i h st b hb => by
    obtain ⟨⟨⟨old, he⟩, ⟨o, ho, hc, hd⟩⟩, _⟩ := st
    rcases List.mem_cons.mp hb with rfl | hb
    · exact ⟨_, he, fun v z => nomatch z⟩
    · rw [List.mem_singleton.mp hb]
      exact ⟨o, ho, fun v z => by rw [hd] at z; cases z⟩
  keep := fun i h h' st k => ⟨⟨⟨st.1.1.choose, k e List.mem_cons_self _ st.1.1.choose_spec⟩, st.1.2.at fun o z => k it (by simp) o z⟩, st.2⟩
  item := by
    intro X hP hw hK hc i pins s σ H E I hf st hg
    subst hP hw hK
    obtain ⟨⟨⟨old, he⟩, hit⟩, hne, hai, hae⟩ := st
    obtain ⟨xs, x, hq, hx⟩ := hg
    obtain ⟨its, rv, p, hz⟩ := I.tuple hq
    obtain ⟨u, hu, ru⟩ := rv.get hx
    have le : e < s.heap.objs.size := Heap.lt_size he
    have li : it < s.heap.objs.size := by
      obtain ⟨_, z, _⟩ := hit
      exact Heap.lt_size z
    have hp : s.heap.IsTuple a its.toArray := p
    have hlt : i < its.toArray.size := by
      have := (List.getElem?_eq_some_iff.mp hu).1
      simpa using this
    refine wpAny_pyNext_enum_itemD (Draws.tuple (A := X.A.in1) (show X.A.in1.handled = none from I.ok.hd hc) it a hai its.toArray) he ⟨hit, hp⟩ hlt hne (by simp only [List.mem_cons, List.not_mem_nil, or_false, not_or]; exact ⟨hne, Ne.symm hae⟩) fun y h' tk hy ho hst' hT hsz hk => ?_
    have ey : y = u := by
      have h1 : its.toArray[i]? = some y := hy
      have h2 : its.toArray[i]? = some u := by simpa using hu
      rw [h1] at h2
      exact Option.some.inj h2
    subst ey
    refine ⟨_, rfl, wpAny_letOwnedTupleGo_enum (s := { s with heap := h', toks := tk + 1 }) ho fun h2 he2 sb => ?_⟩
    have hT2 : h2.get? s.heap.objs.size = some { cls := .type "tuple", data := .seq #[.int i tk, y] } := (sb.2 _ (Nat.ne_of_gt le)).trans hT
    have nw : ObjOk X.prog X.w (upd H s.heap.objs.size (.tup [.int (i : Nat), x])) h2 s.heap.objs.size (.tup [.int (i : Nat), x]) :=
      ⟨by show 2 ≤ sizeLine; decide, [.int i tk, y], .cons ⟨_, rfl⟩ (.cons ru .nil), ⟨_, hT2, rfl, _, rfl⟩⟩
    have I1 : Inv X pins σ (upd H s.heap.objs.size (.tup [.int (i : Nat), x])) { s with heap := h2, toks := tk + 1 } :=
      I.turnedNew (ch := [e, it]) (fun b ob hb z => (sb.2 b fun y => hb (by simp [y])).trans (hk b ob (fun y => hb (by simp [y])) (fun y => hb (by simp [y])) z)) hf (Nat.le_refl _) nw
    refine ⟨.ref s.heap.objs.size, _, I1, rfl, ⟨_, x, rfl, I.hok.fresh (Nat.le_refl _), rfl, fun ys hy => by rw [I.tuple_inj hy hq]; exact hx⟩, ⟨⟨⟨y, ?_⟩, hst'.1.at fun o z => (sb.2 it (Ne.symm hne)).trans z⟩, hne, hai, hae⟩, fun b hb => ?_⟩
    · rw [show ((i + 1 : Nat) : Int) = (i : Int) + 1 by omega]
      exact he2
    · have hlb : b < s.heap.objs.size := by
        rcases List.mem_cons.mp hb with rfl | hb
        · exact le
        · rw [List.mem_singleton.mp hb]
          exact li
      rw [upd_ne (Nat.ne_of_lt hlb)]
      exact (hf b hb).1
  done := by
    intro X hP hw hK hc i pins s σ H E I hf st hg
    subst hP hw hK
    obtain ⟨⟨⟨old, he⟩, hit⟩, hne, hai, hae⟩ := st
    obtain ⟨xs, hq, rfl⟩ := hg
    obtain ⟨its, rv, p, hz⟩ := I.tuple hq
    obtain ⟨f0, f1, f2, f3, f4, f5⟩ := hf it (by simp)
    have hp : s.heap.IsTuple a its.toArray := p
    have hl : xs.length = its.toArray.size := by
      have := rv.length
      simp
      omega
    exact wpAny_pyNext_enum_endD (Draws.tuple (A := X.A.in1) (show X.A.in1.handled = none from I.ok.hd hc) it a hai its.toArray) he ⟨hl ▸ hit, hp⟩ fun h' eb => ⟨rfl, I.turned (t' := s.toks) (fun b o hb z => eb b o hb z) f0 f1 f3 f4 f5⟩
  self := fun A i s Q E st h => wpAny_pyIter_enum st.1.1.choose_spec h
def iEnumT (K : PySem.W.Frag) (ta : TA) : TI := fun σ H R => ta σ H fun vs H1 => ∃ a xs, vs = [.ref a] ∧ SqT K H1 a xs ∧ R (IteT K a) H1
theorem pi_enumT {X : Cx} {e : Expr} {ta : TA} {p pos tp : Pos} {ets : List Expr} {q : Nat} (hg : Gl X "enumerate") (hm : X.mg "enumerate" = none) (ha : PA X [e] ta) (hs : starEach [e] X.env = [(false, eval e X.env)] := by rfl) :
    PI X (.Tuple ets q tp) (.Call (.Name "enumerate" p) [e] [] pos) (iEnumT X.K ta) := by
  refine ⟨fun pins s σ H R I h => Call_ (ld_blt I hg hm boot_enumerate (PyProof.Rows.callWith_type1 (thn (ha.run pos pins s σ H _ I h) fun us s1 ⟨vs, H1, I1, r1, q1⟩ => ?_) hs rfl))⟩
  obtain ⟨a, xs, rfl, hq, q⟩ := q1
  obtain ⟨its, rv, p', hz⟩ := I1.tuple hq
  have hp : s1.heap.IsTuple a its.toArray := p'
  cases r1 with
  | cons r rr =>
    cases rr
    cases r
    refine enumOne_begins (begins_tuple a its.toArray) hp fun h2 he hit hk => wpAny_pyIter_enum he ?_
    have la : a < s1.heap.objs.size := by
      obtain ⟨_, z, _⟩ := hp
      exact Heap.lt_size z
    refine ⟨s1.heap.objs.size + 1, [s1.heap.objs.size + 1, s1.heap.objs.size], _, _, H1, rfl, I1.kept (t' := s1.toks) hk, turn_enumT a (s1.heap.objs.size + 1) s1.heap.objs.size, ⟨⟨⟨.none, he⟩, _, hit, rfl, rfl⟩, Nat.succ_ne_self _, Nat.ne_of_lt la, Nat.ne_of_lt (Nat.lt_succ_of_lt la)⟩, fun b hb => ?_, q⟩
    have hle : s1.heap.objs.size ≤ b := by
      rcases List.mem_cons.mp hb with rfl | hb
      · exact Nat.le_succ _
      · rw [List.mem_singleton.mp hb]
        exact Nat.le_refl _
    exact I1.fpOk hle (I1.hok.fresh hle)
/-- a tuple of targets, within a comprehension -/
theorem pg_tupK {X : Cx} {K : PySem.W.Frag} {es : List Expr} {q : Nat} {t : TGs} {n : Nat} {pos : Pos} (hc : X.calm = true) (h : PGs X es t) (hn : (assignEach es X.env).length = n := by rfl) (hst : (assignEach es X.env).findIdx? (·.1) = none := by rfl) (hK : X.K = K := by rfl) :
    PG X (.Tuple es q pos) (gTup K n t) := by
  subst hK
  exact pg_tup hc h hn hst
theorem walk_enumT {K : PySem.W.Frag} {a : Addr} {xs : List V} : Walk (IteT K a) xs.length (fun H => SqT K H a xs) (YPair (fun i => some (.int (i : Nat))) (fun i => xs[i]?)) where
  goes i _ hi h := ⟨xs, xs[i], h, by simp [hi]⟩
  stops _ h := ⟨xs, h, rfl⟩
  yields i H v H' _ h y := by
    obtain ⟨T, x, h1, h2, h3, h4⟩ := y
    exact ⟨T, .int (i : Nat), x, h1, h2, h3, rfl, h4 xs h⟩
end WT

set_option Elab.async false
set_option linter.all false
set_option maxRecDepth 100000
set_option maxHeartbeats 4000000
namespace K12
open PySem PySem.Spec PyProof.Rows L2 WT
abbrev st_gateway_names : Stmt := top 4
theorem sc_gateway_names : FnScope ["world", "gateway"] ["world"] (defScope st_gateway_names) := ⟨rfl, rfl, rfl, by decide +kernel, rfl, by decide +kernel, by decide +kernel⟩
abbrev st_wrapping_names : Stmt := top 5
theorem sc_wrapping_names : FnScope ["world", "name", "those", "kind"] ["world"] (defScope st_wrapping_names) := ⟨rfl, rfl, rfl, by decide +kernel, rfl, by decide +kernel, by decide +kernel⟩
abbrev st_members : Stmt := top 6
theorem sc_members : FnScope ["world", "name", "gateway"] ["world", "name"] (defScope st_members) := ⟨rfl, rfl, rfl, by decide +kernel, rfl, by decide +kernel, by decide +kernel⟩
theorem ix_tupK {X : Cx} {K : PySem.W.Frag} (hK : X.K = K := by rfl) : IxR X (rIxT K) := by
  subst hK
  exact ix_tup
section
variable {P : Program} {w : World} {K : PySem.W.Frag} {mg : Str → Option Value} {base : Heap} {f : Addr} {fd : FuncData}
/-- gateway_names(world) -/
def spGnames : Sp := fun vs H Q _ => ∃ (wa r g : Addr) (as : List Addr) (rs : List Str) (gs : List Gt), vs = [.ref wa] ∧ WorldAt H wa r g as rs gs ∧ gs.length ≤ 100 ∧
  ∀ (H' : Hp) (p : Addr), Same H H' → H' p = some (.tup ((gs.map (·.1)).map V.str)) → Q (.ref p) H'
theorem ok_gateway_names (F : Fun K "gateway_names" "gateway_names" st_gateway_names f fd) (B : Blt mg) : FnG P w K mg base CX0 1 f fd ["world"] spGnames := by
  refine okG F sc_gateway_names (fun vs H Q E h => ?_) (fun cdv A outer s H vs Q E hgd hr h => ?_)
  · obtain ⟨_, _, _, _, _, _, rfl, _⟩ := h
    rfl
  · obtain ⟨wa, r, g, as, rs, gs, rfl, hw, hgl, q⟩ := h
    refine ⟨_, (pss_one (ps_ret (pe_callTy call_tuple_of (by rfl) B.tuple (by decide +kernel) (pa_cons (pe_lc (own := [("gateway", 1)]) (by rfl) sc_gateway_names.nd (pi_tup (pe_ix ix_tup (pv 0) pe_int (fun _ _ => rfl))) (blkOk_by (own := [("gateway", 1)]) (N := ["world", "gateway"]) (sc := defScope st_gateway_names) (by decide +kernel)) (fun _ _ _ _ _ => (pg_name (i := 1) sc_gateway_names.nd rfl (.inl rfl))) (fun _ _ _ _ _ => pts_nil) (fun _ _ _ _ _ => (pe_ix (ix_tupK (K := K)) (pv 1) pe_int (fun _ _ => rfl)))) pa_nil)))), ?_⟩
    have hlen := Paired.length hw.each
    refine ⟨_, rfl, wa, _, 1, .ref g, rfl, rfl, SqT.of hw.top, atI_nat (j := 1) rfl, g, rfl, ⟨_, SqT.of hw.gat⟩, fun N nN => lc_tup (K := K) (a := g) (xs := as.map V.ref) (fun m H' => Same H H' ∧ H' N = some (.lst (((gs.map (·.1)).take m).map V.str)))
      ⟨same_new nN, upd_same⟩ (fun m H' _ ⟨s', _⟩ => SqT.of (s' _ _ hw.gat)) (fun m v H2 hm hP => ?_) fun H2 hP => ?_⟩
    · obtain ⟨s2, hN⟩ := hP
      rw [List.getElem?_map] at hm
      obtain ⟨t, ht, rfl⟩ := Option.map_eq_some_iff.mp hm
      obtain ⟨gg, hgg, ia, e1, e2⟩ := pair_at (hw.same s2).each ht
      refine ⟨rfl, _, rfl, t, _, 0, .str gg.1, rfl, rfl, SqT.of e1, atI_nat (j := 0) rfl, _, hN, ?_, ?_, ?_⟩
      · rw [List.length_map, List.length_take, List.length_map]
        exact Nat.lt_of_le_of_lt (show min m gs.length ≤ 100 by omega) (by decide)
      · intro c o ec
        rw [upd_ne (ne_of_none ec nN)]
        exact s2 _ _ ec
      · have e : (gs.map (·.1))[m]? = some gg.1 := by
          rw [List.getElem?_map, hgg]
          rfl
        rw [upd_same, List.take_add_one, e, List.map_append]
        rfl
    · obtain ⟨s2, hN⟩ := hP
      rw [List.length_map, List.take_of_length_le (by rw [List.length_map]; omega)] at hN
      exact ⟨N, _, rfl, .inl ⟨SqL.of hN, fun t nt => q _ t (s2.trans (same_new nt)) upd_same⟩⟩
/-- the wrapping gateways -/
def wraps (gs : List Gt) : List Str := (gs.filter fun g : Gt => decide (g.2.2 = ("wrap" : Str))).map (·.1)
def spWnames : Sp := fun vs H Q _ => ∃ (wa r g : Addr) (as : List Addr) (rs : List Str) (gs : List Gt), vs = [.ref wa] ∧ WorldAt H wa r g as rs gs ∧ gs.length ≤ 100 ∧
  ∀ (H' : Hp) (p : Addr), Same H H' → H' p = some (.tup ((wraps gs).map V.str)) → Q (.ref p) H'
theorem ok_wrapping_names (F : Fun K "wrapping_names" "wrapping_names" st_wrapping_names f fd) (B : Blt mg) : FnG P w K mg base CX0 1 f fd ["world"] spWnames := by
  refine okG F sc_wrapping_names (fun vs H Q E h => ?_) (fun cdv A outer s H vs Q E hgd hr h => ?_)
  · obtain ⟨_, _, _, _, _, _, rfl, _⟩ := h
    rfl
  · obtain ⟨wa, r, g, as, rs, gs, rfl, hw, hgl, q⟩ := h
    refine ⟨_, (pss_one (ps_ret (pe_callTy call_tuple_of (by rfl) B.tuple (by decide +kernel) (pa_cons (pe_lc (own := [("name", 1), ("those", 2), ("kind", 3)]) (by rfl) sc_wrapping_names.nd (pi_tup (pe_ix ix_tup (pv 0) pe_int (fun _ _ => rfl))) (blkOk_by (own := [("name", 1), ("those", 2), ("kind", 3)]) (N := ["world", "name", "those", "kind"]) (sc := defScope st_wrapping_names) (by decide +kernel)) (fun _ _ _ _ _ => (pg_tupK (K := K) (n := 3) rfl (pgs_cons (pg_name (i := 1) sc_wrapping_names.nd rfl (.inl rfl)) (pgs_cons (pg_name (i := 2) sc_wrapping_names.nd rfl (.inl rfl)) (pgs_cons (pg_name (i := 3) sc_wrapping_names.nd rfl (.inl rfl)) pgs_nil))))) (fun _ _ _ _ _ => (pts_one (pt_cmpR op_eq (pv 3) pe_str (nomark _)))) (fun _ _ _ _ _ => (pv 1))) pa_nil)))), ?_⟩
    have hlen := Paired.length hw.each
    refine ⟨_, rfl, wa, _, 1, .ref g, rfl, rfl, SqT.of hw.top, atI_nat (j := 1) rfl, g, rfl, ⟨_, SqT.of hw.gat⟩, fun N nN => lc_tup (K := K) (a := g) (xs := as.map V.ref) (fun m H' => Same H H' ∧ H' N = some (.lst ((wraps (gs.take m)).map V.str)))
      ⟨same_new nN, by rw [upd_same]; rfl⟩ (fun m H' _ ⟨s', _⟩ => SqT.of (s' _ _ hw.gat)) (fun m v H2 hm hP => ?_) fun H2 hP => ?_⟩
    · obtain ⟨s2, hN⟩ := hP
      rw [List.getElem?_map] at hm
      obtain ⟨t, ht, rfl⟩ := Option.map_eq_some_iff.mp hm
      obtain ⟨gg, hgg, ia, e1, e2⟩ := pair_at (hw.same s2).each ht
      have stp : wraps (gs.take (m + 1)) = wraps (gs.take m) ++ (if gg.2.2 = ("wrap" : Str) then [gg.1] else []) := by
        unfold wraps
        rw [List.take_add_one, hgg, List.filter_append, List.map_append]
        by_cases c : gg.2.2 = ("wrap" : Str)
        · rw [if_pos c]
          simp [c]
        · rw [if_neg c]
          simp [c]
      refine ⟨t, [.str gg.1, .ref ia, .str gg.2.2], rfl, SqT.of e1, rfl, .str gg.1, _, rfl, .ref ia, _, rfl, .str gg.2.2, [], rfl, rfl, rfl, _, rfl, rfl, _, rfl, ?_⟩
      by_cases c : gg.2.2 = ("wrap" : Str)
      · refine ifT (by simp [c]) ⟨_, rfl, _, hN, ?_, ?_, ?_⟩
        · have l1 : (wraps (gs.take m)).length ≤ gs.length := by
            unfold wraps
            rw [List.length_map]
            refine Nat.le_trans (List.length_filter_le _ _) ?_
            rw [List.length_take]
            exact Nat.min_le_right _ _
          rw [List.length_map]
          exact Nat.lt_of_le_of_lt (show (wraps (gs.take m)).length ≤ 100 by omega) (by decide)
        · intro c o ec
          rw [upd_ne (ne_of_none ec nN)]
          exact s2 _ _ ec
        · rw [upd_same, stp, if_pos c, List.map_append]
          rfl
      · refine ifF (by simp [c]) ⟨s2, ?_⟩
        rw [stp, if_neg c, List.append_nil]
        exact hN
    · obtain ⟨s2, hN⟩ := hP
      rw [List.length_map, hlen, List.take_length] at hN
      exact ⟨N, _, rfl, .inl ⟨SqL.of hN, fun t nt => q _ t (s2.trans (same_new nt)) upd_same⟩⟩
/-- members(world, name), name a gateway -/
def spMembers : Sp := fun vs H Q _ => ∃ (wa r g : Addr) (as : List Addr) (rs : List Str) (gs : List Gt) (x : Str), vs = [.ref wa, .str x] ∧ WorldAt H wa r g as rs gs ∧ (∃ g ∈ gs, g.1 = x) ∧
  ∀ (i : Addr) (g : Gt), g ∈ gs → g.1 = x → H i = some (.tup (g.2.1.map V.str)) → Q (.ref i) H
theorem ok_members (F : Fun K "members" "members" st_members f fd) : FnG P w K mg base CX0 1 f fd ["world", "name"] spMembers := by
  refine okG F sc_members (fun vs H Q E h => ?_) (fun cdv A outer s H vs Q E hgd hr h => ?_)
  · obtain ⟨_, _, _, _, _, _, _, rfl, _⟩ := h
    rfl
  · obtain ⟨wa, r, g, as, rs, gs, x, rfl, hw, hx, q⟩ := h
    refine ⟨_, (pss_cons (ps_for PassesOwn.never rfl (pi_tup (pe_ix ix_tup (pv 0) pe_int (fun _ _ => rfl))) (pg_name (i := 2) sc_members.nd rfl (.inl rfl))
       (pss_one (ps_if (pt_cmpR op_eq (pe_ix ix_tup (pv 2) pe_int (fun _ _ => rfl)) (pv 1) (nomark _))
        (pss_one (ps_ret (pe_ix ix_tup (pv 2) pe_int (fun _ _ => rfl))))
        pss_nil)))
      (pss_one ps_never)), ?_⟩
    have hlen := Paired.length hw.each
    refine ⟨_, rfl, wa, _, 1, .ref g, rfl, rfl, SqT.of hw.top, atI_nat (j := 1) rfl, g, rfl, ⟨_, SqT.of hw.gat⟩, for_it (walk_tup (xs := as.map V.ref)) (fun j σ H' => ∃ v2 : Option V, σ = [some (.ref wa), some (.str x), v2] ∧ H' = H ∧ ∀ g ∈ gs.take j, g.1 ≠ x)
      ⟨none, rfl, rfl, fun g hg => nomatch hg⟩ (fun j σ H' _ ⟨_, _, e, _⟩ => by rw [e]; exact SqT.of hw.gat) (fun j v σ H2 H3 hj hP hY => ?_) (fun σ H2 hP => ?_)⟩
    · obtain ⟨v2, rfl, rfl, hno⟩ := hP
      obtain ⟨rfl, hv⟩ := hY
      rw [List.getElem?_map] at hv
      obtain ⟨t, ht, rfl⟩ := Option.map_eq_some_iff.mp hv
      obtain ⟨gg, hgg, ia, e1, e2⟩ := pair_at hw.each ht
      refine ⟨_, rfl, t, _, 0, .str gg.1, rfl, rfl, SqT.of e1, atI_nat (j := 0) rfl, _, rfl, rfl, _, rfl, ?_⟩
      by_cases c : gg.1 = x
      · exact ifT (by simp [c]) ⟨_, rfl, t, _, 1, .ref ia, rfl, rfl, SqT.of e1, atI_nat (j := 1) rfl, q ia gg (List.mem_of_getElem? hgg) c e2⟩
      · refine ifF (by simp [c]) ⟨_, rfl, rfl, fun g hg => ?_⟩
        rw [List.take_add_one, hgg] at hg
        rcases List.mem_append.mp hg with hg | hg
        · exact hno g hg
        · have : g = gg := by simpa using hg
          rw [this]
          exact c
    · obtain ⟨v2, rfl, rfl, hno⟩ := hP
      rw [List.length_map, hlen, List.take_length] at hno
      obtain ⟨g, hg, e⟩ := hx
      exact absurd e (hno g hg)
end
end K12

set_option Elab.async false
set_option linter.all false
set_option maxRecDepth 100000
set_option maxHeartbeats 4000000
/-! min(xs, key=len, default=None), xs a list of tuples. -/
namespace WT
open PySem PySem.Spec PyProof.Rows L2
def lenAt (ts : List (Addr × List V)) (i : Nat) : Int := ((ts[i]?).map fun t => (t.2.length : Int)).getD 0
/-- the first of the shortest, or None -/
def tMinLen (K : PySem.W.Frag) (ta : TA) : TE := fun σ H Q => ta σ H fun vs H1 => ∃ (a : Addr) (ts : List (Addr × List V)), vs = [.ref a] ∧ SqL K H1 a (ts.map fun t => V.ref t.1) ∧ (∀ t ∈ ts, SqT K H1 t.1 t.2) ∧ (ts = [] → Q .non H1) ∧ ∀ t ∈ ts, (∀ u ∈ ts, t.2.length ≤ u.2.length) → Q (.ref t.1) H1
section
variable {X : Cx}
/-- what stood, stands -/
def Grown (s s' : Shared) : Prop := ∃ (h' : Heap) (tk : Nat), s' = { s with heap := h', toks := tk } ∧ ∀ b o, s.heap.get? b = some o → h'.get? b = some o
theorem Grown.moved {s s1 s2 : Shared} {ch : List Addr} (g : Grown s s1) (m : Moved ch (fun a b => b = a) s1 s2) (hc : ∀ b ∈ ch, s.heap.objs.size ≤ b) : Grown s s2 := by
  obtain ⟨h', tk, rfl, k⟩ := g
  refine ⟨s2.heap, s2.toks, ?_, fun b o e => m.heap b o (fun hb => absurd (Heap.lt_size e) (Nat.not_lt.mpr (hc b hb))) (k b o e)⟩
  obtain ⟨h2, g2, d2, t2, o2⟩ := s2
  have e1 := m.gens
  have e2 := m.drawn
  have e3 := m.os
  simp only at e1 e2 e3
  subst e1 e2 e3
  rfl
theorem run_minLen {pins : List (Addr × Obj)} {σ : L2.St} {H : Hp} {s : Shared} {Q : VK} {a : Addr} {ts : List (Addr × List V)} (hh : X.A.handled = none) (I : Inv X pins σ H s) (hl : SqL X.K H a (ts.map fun t => V.ref t.1)) (ht : ∀ t ∈ ts, SqT X.K H t.1 t.2)
    (h0 : ts = [] → Q .non H) (h1 : ∀ t ∈ ts, (∀ u ∈ ts, t.2.length ≤ u.2.length) → Q (.ref t.1) H) :
    wpAny (model X.prog X.w) X.A (call (.builtin "min") [.ref a] [(Str.ofString "key", .builtin "len"), (Str.ofString "default", .none)]) (EP X pins σ Q) X.xe s := by
  obtain ⟨its, rv, pl, hz⟩ := I.list hl
  have hlen : its.length = ts.length := by
    have := rv.length
    rw [List.length_map] at this
    exact this.symm
  have at_ : ∀ (i : Nat) (v : Value), its.toArray[i]? = some v → ∃ t, ts[i]? = some t ∧ v = .ref t.1 := fun i v hv => by
    have hv : its[i]? = some v := by simpa using hv
    have hi : i < ts.length := by
      have := (List.getElem?_eq_some_iff.mp hv).1
      omega
    obtain ⟨u, hu, ru⟩ := rv.get (i := i) (x := .ref ts[i].1) (by rw [List.getElem?_map, List.getElem?_eq_getElem hi]; rfl)
    rw [hv] at hu
    cases hu
    exact ⟨ts[i], List.getElem?_eq_getElem hi, ru⟩
  refine call_min_walkKBD (PySem.W.iter_listW (A := X.A.in1) hh pl.isList fun s2 e2 W hst hfp hnew hold => ?_)
  have hbig : ∀ b ∈ s2.heap.objs.size :: [s.heap.objs.size], s.heap.objs.size ≤ b := fun b hb => by
    rcases List.mem_cons.mp hb with rfl | hb
    · rw [e2]
      show s.heap.objs.size ≤ (s.heap.push _).objs.size
      rw [Heap.size_push]
      exact Nat.le_succ _
    · rw [List.mem_singleton.mp hb]
      exact Nat.le_refl _
  refine ⟨s.heap.objs.size, _, _, _, _, _, _, Grown s, fun i k _ => ∃ t, k = .int (lenAt ts i) t, fun i j => decide (lenAt ts i < lenAt ts j), rfl, W, hst, hfp, ?_, ⟨s2.heap, s2.toks, by rw [e2], hold⟩, fun hn s' g => ?_, fun hn v s' hv g => ?_⟩
  · refine ⟨fun s1 s' g m => g.moved m hbig, fun i k s1 s' h _ => h, fun i v s1 o Q' E' hi hv g st hS hQ => ?_, fun i j ki kj s1 Q' E' g hi hj hQ => ?_⟩
    · obtain ⟨t, hti, rfl⟩ := at_ i v hv
      obtain ⟨us, ru, pt, hz2⟩ := I.tuple (ht t (List.mem_of_getElem? hti))
      obtain ⟨h', tk, rfl, k⟩ := g
      refine len_tuple (pt.keeps k) ?_ (hQ _ _ ⟨h', tk + 1 + 1, rfl, k⟩ st hS ⟨tk + 1, ?_⟩ fun j k' hj => hj)
      · have l1 := ru.length
        have l2 := line63
        simp
        omega
      · have l1 := ru.length
        unfold lenAt
        rw [hti]
        simp [l1]
    · obtain ⟨t, rfl⟩ := hi
      obtain ⟨u, rfl⟩ := hj
      exact wpAny_lt_int hQ
  · have : ts = [] := by
      rw [List.size_toArray] at hn
      exact List.length_eq_zero_iff.mp (by omega)
    obtain ⟨h', tk, rfl, k⟩ := g
    exact ⟨.non, H, I.kept (t' := tk) k, rfl, h0 this⟩
  · obtain ⟨t, hti, rfl⟩ := at_ _ v hv
    obtain ⟨h', tk, rfl, k⟩ := g
    have best := argBest_lt (lenAt ts) (its.toArray.size - 1)
    refine ⟨.ref t.1, H, I.kept (t' := tk) k, rfl, h1 t (List.mem_of_getElem? hti) fun u hu => ?_⟩
    obtain ⟨j, hj, ej⟩ := List.getElem_of_mem hu
    have b := best.2 j (by rw [List.size_toArray]; omega)
    have e1 : lenAt ts j = (u.2.length : Int) := by
      unfold lenAt
      rw [List.getElem?_eq_getElem hj, ej]
      rfl
    have e2 : lenAt ts (argBest (fun i j => decide (lenAt ts i < lenAt ts j)) (its.toArray.size - 1)) = (t.2.length : Int) := by
      unfold lenAt at hti ⊢
      rw [hti]
      rfl
    rw [e1, e2] at b
    omega
theorem pe_minLen {e : Expr} {ta : TA} {p p2 k1 k2 k3 pos : Pos} {j : Nat} (hcalm : X.calm = true) (hg : Gl X "min") (hm : X.mg "min" = none) (hg2 : Gl X "len") (hm2 : X.mg "len" = none) (ha : PA X [e] ta)
    (hst : backTo pos (starEach [e] X.env) = (false, eval e X.env) :: backTo pos (starEach [] X.env) := by rfl) (hpl : (backTo pos (starEach [e] X.env)).any (·.1) = false := by rfl) :
    PE X (.Call (.Name "min" p) [e] [⟨some "key", .Name "len" p2, k1⟩, ⟨some "default", .Constant .none j k2, k3⟩] pos) (tMinLen X.K ta) := by
  refine ⟨fun pins s σ H Q I h => ?_⟩
  refine wpAny_Call_Name_kw (ld_blt I hg hm boot_min ?_)
  refine PyProof.Rows.callWith_kw (thn (ha.run pos pins s σ H _ I h) fun us s1 ⟨vs, H1, I1, r1, q1⟩ => ?_) hst hpl
  obtain ⟨a, ts, rfl, hl, ht, h0, h1⟩ := q1
  have ea := Vals.ref1 r1
  subst ea
  show wpAny _ _ (evalAll ((do let v ← eval (.Name "len" p2) X.env; standAt pos; pure v) :: (backToKw pos (keywordEach [⟨some "default", .Constant .none j k2, k3⟩] X.env)).map (·.2))) _ _ s1
  refine wpAny_evalAll_cons (wpAny_bind (ld_blt I1 hg2 hm2 boot_len (wpAny_bind (wpAny_standAt (wpAny_pure ?_)))))
  refine thn ((pk_cons pe_non pk_nil).run pos pins s1 σ H1 (fun vs H2 => vs = [.non] ∧ H2 = H1) I1 ⟨rfl, rfl⟩) fun ws s2 ⟨zs, H2, I2, r2, e2, e3⟩ => ?_
  subst e2 e3
  obtain ⟨u, rfl, ru⟩ := vals1 r2
  obtain rfl : u = Value.none := ru
  exact run_minLen (I2.ok.hd hcalm) I2 hl ht h0 h1
end
end WT

set_option Elab.async false
set_option linter.all false
set_option maxRecDepth 100000
set_option maxHeartbeats 4000000
/-! min(xs, key=len, default=None), told by the place: the first of the shortest. -/
namespace WT
open PySem PySem.Spec PyProof.Rows L2
def lenL (ns : List Nat) (i : Nat) : Int := ((ns[i]?).map fun n => (n : Int)).getD 0
/-- the place of the first of the least -/
def bestIx (ns : List Nat) : Nat := argBest (fun i j => decide (lenL ns i < lenL ns j)) (ns.length - 1)
theorem bestIx_ok (ns : List Nat) (h : ns ≠ []) : ∃ n, ns[bestIx ns]? = some n ∧ ∀ m ∈ ns, n ≤ m := by
  have b := argBest_lt (lenL ns) (ns.length - 1)
  have hl : 0 < ns.length := List.length_pos_iff.mpr h
  have hi : bestIx ns < ns.length := by
    have := b.1
    unfold bestIx
    omega
  refine ⟨ns[bestIx ns], List.getElem?_eq_getElem hi, fun m hm => ?_⟩
  obtain ⟨j, hj, ej⟩ := List.getElem_of_mem hm
  have c := b.2 j (by omega)
  have e1 : lenL ns j = (m : Int) := by
    unfold lenL
    rw [List.getElem?_eq_getElem hj, ej]
    rfl
  have e2 : lenL ns (bestIx ns) = (ns[bestIx ns] : Int) := by
    conv => lhs; unfold lenL
    rw [List.getElem?_eq_getElem hi]
    rfl
  have c2 : lenL ns (bestIx ns) ≤ lenL ns j := c
  rw [e1, e2] at c2
  omega
theorem lenAt_L (ts : List (Addr × List V)) : lenAt ts = lenL (ts.map fun t => t.2.length) := by
  funext i
  unfold lenAt lenL
  rw [List.getElem?_map]
  cases ts[i]? <;> rfl
def tMinLenI (K : PySem.W.Frag) (ta : TA) : TE := fun σ H Q => ta σ H fun vs H1 => ∃ (a : Addr) (ts : List (Addr × List V)), vs = [.ref a] ∧ SqL K H1 a (ts.map fun t => V.ref t.1) ∧ (∀ t ∈ ts, SqT K H1 t.1 t.2) ∧ (ts = [] → Q .non H1) ∧ ∀ t, ts[bestIx (ts.map fun t => t.2.length)]? = some t → Q (.ref t.1) H1
section
variable {X : Cx}
theorem run_minLenI {pins : List (Addr × Obj)} {σ : L2.St} {H : Hp} {s : Shared} {Q : VK} {a : Addr} {ts : List (Addr × List V)} (hh : X.A.handled = none) (I : Inv X pins σ H s) (hl : SqL X.K H a (ts.map fun t => V.ref t.1)) (ht : ∀ t ∈ ts, SqT X.K H t.1 t.2)
    (h0 : ts = [] → Q .non H) (h1 : ∀ t, ts[bestIx (ts.map fun t => t.2.length)]? = some t → Q (.ref t.1) H) :
    wpAny (model X.prog X.w) X.A (call (.builtin "min") [.ref a] [(Str.ofString "key", .builtin "len"), (Str.ofString "default", .none)]) (EP X pins σ Q) X.xe s := by
  obtain ⟨its, rv, pl, hz⟩ := I.list hl
  have hlen : its.length = ts.length := by
    have := rv.length
    rw [List.length_map] at this
    exact this.symm
  have at_ : ∀ (i : Nat) (v : Value), its.toArray[i]? = some v → ∃ t, ts[i]? = some t ∧ v = .ref t.1 := fun i v hv => by
    have hv : its[i]? = some v := by simpa using hv
    have hi : i < ts.length := by
      have := (List.getElem?_eq_some_iff.mp hv).1
      omega
    obtain ⟨u, hu, ru⟩ := rv.get (i := i) (x := .ref ts[i].1) (by rw [List.getElem?_map, List.getElem?_eq_getElem hi]; rfl)
    rw [hv] at hu
    cases hu
    exact ⟨ts[i], List.getElem?_eq_getElem hi, ru⟩
  refine call_min_walkKBD (PySem.W.iter_listW (A := X.A.in1) hh pl.isList fun s2 e2 W hst hfp hnew hold => ?_)
  have hbig : ∀ b ∈ s2.heap.objs.size :: [s.heap.objs.size], s.heap.objs.size ≤ b := fun b hb => by
    rcases List.mem_cons.mp hb with rfl | hb
    · rw [e2]
      show s.heap.objs.size ≤ (s.heap.push _).objs.size
      rw [Heap.size_push]
      exact Nat.le_succ _
    · rw [List.mem_singleton.mp hb]
      exact Nat.le_refl _
  refine ⟨s.heap.objs.size, _, _, _, _, _, _, Grown s, fun i k _ => ∃ t, k = .int (lenAt ts i) t, fun i j => decide (lenAt ts i < lenAt ts j), rfl, W, hst, hfp, ?_, ⟨s2.heap, s2.toks, by rw [e2], hold⟩, fun hn s' g => ?_, fun hn v s' hv g => ?_⟩
  · refine ⟨fun s1 s' g m => g.moved m hbig, fun i k s1 s' h _ => h, fun i v s1 o Q' E' hi hv g st hS hQ => ?_, fun i j ki kj s1 Q' E' g hi hj hQ => ?_⟩
    · obtain ⟨t, hti, rfl⟩ := at_ i v hv
      obtain ⟨us, ru, pt, hz2⟩ := I.tuple (ht t (List.mem_of_getElem? hti))
      obtain ⟨h', tk, rfl, k⟩ := g
      refine len_tuple (pt.keeps k) ?_ (hQ _ _ ⟨h', tk + 1 + 1, rfl, k⟩ st hS ⟨tk + 1, ?_⟩ fun j k' hj => hj)
      · have l1 := ru.length
        have l2 := line63
        simp
        omega
      · have l1 := ru.length
        unfold lenAt
        rw [hti]
        simp [l1]
    · obtain ⟨t, rfl⟩ := hi
      obtain ⟨u, rfl⟩ := hj
      exact wpAny_lt_int hQ
  · have : ts = [] := by
      rw [List.size_toArray] at hn
      exact List.length_eq_zero_iff.mp (by omega)
    obtain ⟨h', tk, rfl, k⟩ := g
    exact ⟨.non, H, I.kept (t' := tk) k, rfl, h0 this⟩
  · obtain ⟨t, hti, rfl⟩ := at_ _ v hv
    obtain ⟨h', tk, rfl, k⟩ := g
    refine ⟨.ref t.1, H, I.kept (t' := tk) k, rfl, h1 t ?_⟩
    unfold bestIx
    rw [← lenAt_L, List.length_map, ← hlen]
    exact hti
theorem pe_minLenI {e : Expr} {ta : TA} {p p2 k1 k2 k3 pos : Pos} {j : Nat} (hcalm : X.calm = true) (hg : Gl X "min") (hm : X.mg "min" = none) (hg2 : Gl X "len") (hm2 : X.mg "len" = none) (ha : PA X [e] ta)
    (hst : backTo pos (starEach [e] X.env) = (false, eval e X.env) :: backTo pos (starEach [] X.env) := by rfl) (hpl : (backTo pos (starEach [e] X.env)).any (·.1) = false := by rfl) :
    PE X (.Call (.Name "min" p) [e] [⟨some "key", .Name "len" p2, k1⟩, ⟨some "default", .Constant .none j k2, k3⟩] pos) (tMinLenI X.K ta) := by
  refine ⟨fun pins s σ H Q I h => ?_⟩
  refine wpAny_Call_Name_kw (ld_blt I hg hm boot_min ?_)
  refine PyProof.Rows.callWith_kw (thn (ha.run pos pins s σ H _ I h) fun us s1 ⟨vs, H1, I1, r1, q1⟩ => ?_) hst hpl
  obtain ⟨a, ts, rfl, hl, ht, h0, h1⟩ := q1
  have ea := Vals.ref1 r1
  subst ea
  show wpAny _ _ (evalAll ((do let v ← eval (.Name "len" p2) X.env; standAt pos; pure v) :: (backToKw pos (keywordEach [⟨some "default", .Constant .none j k2, k3⟩] X.env)).map (·.2))) _ _ s1
  refine wpAny_evalAll_cons (wpAny_bind (ld_blt I1 hg2 hm2 boot_len (wpAny_bind (wpAny_standAt (wpAny_pure ?_)))))
  refine thn ((pk_cons pe_non pk_nil).run pos pins s1 σ H1 (fun vs H2 => vs = [.non] ∧ H2 = H1) I1 ⟨rfl, rfl⟩) fun ws s2 ⟨zs, H2, I2, r2, e2, e3⟩ => ?_
  subst e2 e3
  obtain ⟨u, rfl, ru⟩ := vals1 r2
  obtain rfl : u = Value.none := ru
  exact run_minLenI (I2.ok.hd hcalm) I2 hl ht h0 h1
end
end WT

set_option Elab.async false
set_option linter.all false
set_option maxRecDepth 100000
set_option maxHeartbeats 4000000
namespace WT
open PySem PySem.Spec PyProof.Rows L2
/-! ### the cycle that cycle_through finds, as a function -/
def ltS (a b : Str) : Bool := decide (a.cps.toList < b.cps.toList)
def rowP (ms : List Str) (a : Str) : List (Str × Str) := (ms.filter (ltS a)).map fun b => (a, b)
def pairsP (ms : List Str) : List (Str × Str) := ms.flatMap (rowP ms)
def askP (gs : List Gt) (rs : List Str) (x : Str) (p : Str × Str) : Str × Option Pth := (p.1, spath gs [x] rs p.1 p.2)
def fsOf (ps : List (Str × Option Pth)) : List (Str × Pth) := ps.filterMap fun p => p.2.map fun l => (p.1, l)
def plen (f : Str × Pth) : Nat := (pathV f.1 f.2).length
def bestF (fs : List (Str × Pth)) : Option (Str × Pth) := fs[bestIx (fs.map plen)]?
def cycOf (x : Str) (f : Str × Pth) : List (Str × Str) := (lastOf f.1 f.2, x) :: ((f.1 :: f.2.map (·.2)).dropLast.zip (f.2.map (·.1)))
def cycT (gs : List Gt) (rs : List Str) (g : Gt) : Option (List (Str × Str)) := (bestF (fsOf ((pairsP g.2.1).map (askP gs rs g.1)))).map (cycOf g.1)
def wrapsG (gs : List Gt) : List Gt := gs.filter fun g : Gt => decide (g.2.2 = ("wrap" : Str))
def cycsW (gs : List Gt) (rs : List Str) : List (List (Str × Str)) := (wrapsG gs).filterMap (cycT gs rs)
def scyc (gs : List Gt) (rs : List Str) : Option (List (Str × Str)) := (cycsW gs rs)[bestIx ((cycsW gs rs).map List.length)]?
theorem best_none {fs : List (Str × Pth)} : bestF fs = none ↔ fs = [] := by
  constructor
  · intro h
    by_cases c : fs = []
    · exact c
    · obtain ⟨n, h1, _⟩ := bestIx_ok (fs.map plen) (by simpa using c)
      rw [List.getElem?_map] at h1
      unfold bestF at h
      rw [h] at h1
      cases h1
  · rintro rfl
    rfl
theorem best_some {fs : List (Str × Pth)} {f : Str × Pth} (h : bestF fs = some f) : f ∈ fs ∧ ∀ u ∈ fs, f.2.length ≤ u.2.length := by
  refine ⟨List.mem_of_getElem? h, fun u hu => ?_⟩
  obtain ⟨n, h1, h2⟩ := bestIx_ok (fs.map plen) (by
    intro z
    rw [List.map_eq_nil_iff.mp z] at hu
    cases hu)
  rw [List.getElem?_map] at h1
  unfold bestF at h
  rw [h] at h1
  cases h1
  have := h2 (plen u) (List.mem_map.mpr ⟨u, hu, rfl⟩)
  unfold plen at this
  rw [pathV_len, pathV_len] at this
  omega
theorem mem_pairs {ms : List Str} {a b : Str} : (a, b) ∈ pairsP ms ↔ a ∈ ms ∧ b ∈ ms ∧ a.cps.toList < b.cps.toList := by
  unfold pairsP rowP
  rw [List.mem_flatMap]
  constructor
  · rintro ⟨x, hx, h⟩
    obtain ⟨y, hy, e⟩ := List.mem_map.mp h
    cases e
    obtain ⟨h1, h2⟩ := List.mem_filter.mp hy
    exact ⟨hx, h1, of_decide_eq_true h2⟩
  · rintro ⟨h1, h2, h3⟩
    exact ⟨a, h1, List.mem_map.mpr ⟨b, List.mem_filter.mpr ⟨h2, decide_eq_true h3⟩, rfl⟩⟩
theorem mem_fs {gs : List Gt} {rs : List Str} {x : Str} {ms : List Str} {a : Str} {l : Pth} : (a, l) ∈ fsOf ((pairsP ms).map (askP gs rs x)) ↔ ∃ b, a ∈ ms ∧ b ∈ ms ∧ a.cps.toList < b.cps.toList ∧ spath gs [x] rs a b = some l := by
  unfold fsOf
  rw [List.mem_filterMap]
  constructor
  · rintro ⟨p, hp, h⟩
    obtain ⟨⟨a', b⟩, hq, rfl⟩ := List.mem_map.mp hp
    obtain ⟨l', e1, e2⟩ := Option.map_eq_some_iff.mp h
    cases e2
    obtain ⟨h1, h2, h3⟩ := mem_pairs.mp hq
    exact ⟨b, h1, h2, h3, e1⟩
  · rintro ⟨b, h1, h2, h3, h4⟩
    refine ⟨(a, some l), List.mem_map.mpr ⟨(a, b), mem_pairs.mpr ⟨h1, h2, h3⟩, ?_⟩, rfl⟩
    unfold askP
    rw [h4]
section
variable {gs : List Gt} {bar rs : List Str}
theorem Step.rev {x n z : Str} (h : Step gs bar x n z) : Step gs bar z n x := by
  obtain ⟨g, h1, h2, h3, h4, h5⟩ := h
  exact ⟨g, h1, h2, h3, h5, h4⟩
theorem SPath.rev {x y : Str} {l : Pth} (h : SPath gs bar x l y) : ∃ l', l'.length = l.length ∧ SPath gs bar y l' x := by
  induction h with
  | nil x => exact ⟨[], rfl, .nil x⟩
  | @cons x n z y l s _ ih =>
    obtain ⟨l', h1, h2⟩ := ih
    exact ⟨l' ++ [(n, x)], by simp [h1], h2.app (.cons s.rev (.nil _))⟩
theorem SPath.at_ {x y : Str} {l : Pth} (h : SPath gs bar x l y) : ∀ (i : Nat) (n z : Str), l[i]? = some (n, z) → ∃ u, (x :: l.map (·.2))[i]? = some u ∧ Step gs bar u n z := by
  induction h with
  | nil x => intro i n z h; cases h
  | @cons x n0 z0 y l s _ ih =>
    intro i n z h
    cases i with
    | zero =>
      cases h
      exact ⟨x, rfl, s⟩
    | succ i =>
      obtain ⟨u, h1, h2⟩ := ih i n z h
      exact ⟨u, h1, h2⟩
end
/-- the length of some cycle through the gateway -/
def CycLn (gs : List Gt) (rs : List Str) (g : Gt) (n : Nat) : Prop := ∃ a ∈ g.2.1, ∃ b ∈ g.2.1, b ≠ a ∧ ∃ l, GoodP gs [g.1] rs a l ∧ lastOf a l = b ∧ n = 1 + l.length
/-- the gateway called n has the regions a and b as members -/
def Has (gs : List Gt) (n a b : Str) : Prop := ∃ g ∈ gs, g.1 = n ∧ a ∈ g.2.1 ∧ b ∈ g.2.1
structure IsCyc (gs : List Gt) (rs : List Str) (c : List (Str × Str)) : Prop where
  two : 2 ≤ c.length
  reg : (c.map (·.1)).Nodup
  gat : (c.map (·.2)).Nodup
  join : ∀ (i : Nat) (q : Str × Str) (z : Str), c[i]? = some q → ((c.map (·.1)).tail ++ (c.map (·.1)).take 1)[i]? = some z → Has gs q.2 q.1 z
  short : c.length ≤ rs.length
theorem last_initD {α : Type} : ∀ (l : List α) (d : α), (d :: l).dropLast ++ [l.getLastD d] = d :: l
  | [], d => rfl
  | x :: l, d => by
    rw [List.getLastD_cons]
    show d :: ((x :: l).dropLast ++ [l.getLastD x]) = _
    rw [last_initD l x]
theorem last_init (a : Str) (l : Pth) : (a :: l.map (·.2)).dropLast ++ [lastOf a l] = a :: l.map (·.2) := last_initD _ _
theorem zip_maps (a : Str) (l : Pth) : ((a :: l.map (·.2)).dropLast.zip (l.map (·.1))).map (·.1) = (a :: l.map (·.2)).dropLast ∧ ((a :: l.map (·.2)).dropLast.zip (l.map (·.1))).map (·.2) = l.map (·.1) := by
  have e : (a :: l.map (·.2)).dropLast.length = (l.map (·.1)).length := by simp
  exact ⟨List.map_fst_zip (Nat.le_of_eq e), List.map_snd_zip (Nat.le_of_eq e.symm)⟩
section
variable {gs : List Gt} {rs : List Str}
theorem cycOf_len (x : Str) (f : Str × Pth) : (cycOf x f).length = 1 + f.2.length := by
  unfold cycOf
  rw [List.length_cons, List.length_zip]
  simp
  omega
theorem cycOf_ok (nd : (gs.map (·.1)).Nodup) (hm : ∀ g ∈ gs, ∀ z ∈ g.2.1, z ∈ rs) {g : Gt} (hg : g ∈ gs) {a b : Str} {l : Pth} (ha : a ∈ g.2.1) (hb : b ∈ g.2.1) (ne : a ≠ b) (G : GoodP gs [g.1] rs a l) (e : lastOf a l = b) : IsCyc gs rs (cycOf g.1 (a, l)) := by
  obtain ⟨m1, m2⟩ := zip_maps a l
  have i1 := last_init a l
  have lpos : 0 < l.length := by
    cases l with
    | nil => exact absurd e ne
    | cons _ _ => simp
  have sp : SPath gs [g.1] a l b := by
    rw [← e]
    exact G.last
  refine ⟨by rw [cycOf_len]; show 2 ≤ 1 + l.length; omega, ?_, ?_, fun i q z hq hz => ?_, ?_⟩
  · unfold cycOf
    rw [List.map_cons, m1]
    have p : (lastOf a l :: (a :: l.map (·.2)).dropLast).Perm (a :: l.map (·.2)) := by
      have := List.perm_append_comm (l₁ := [lastOf a l]) (l₂ := (a :: l.map (·.2)).dropLast)
      rw [i1] at this
      exact this
    exact p.nodup_iff.mpr G.reg
  · unfold cycOf
    rw [List.map_cons, m2]
    refine List.nodup_cons.mpr ⟨fun z => ?_, G.gat⟩
    obtain ⟨p, hp, ep⟩ := List.mem_map.mp z
    obtain ⟨i, hi, ei⟩ := List.getElem_of_mem hp
    obtain ⟨n, z2⟩ := p
    obtain ⟨u, _, g2, _, e3, e4, _⟩ := sp.at_ i n z2 (by rw [List.getElem?_eq_getElem hi, ei])
    have ep : n = g.1 := ep
    exact e4 (by rw [ep]; simp)
  · unfold cycOf at hq hz
    rw [List.map_cons, m1, List.tail_cons] at hz
    have hz : ((a :: l.map (·.2)).dropLast ++ [lastOf a l])[i]? = some z := hz
    rw [i1] at hz
    cases i with
    | zero =>
      cases hq
      cases hz
      refine ⟨g, hg, rfl, ?_, ha⟩
      show lastOf a l ∈ g.2.1
      rw [e]
      exact hb
    | succ i =>
      have hq : ((a :: l.map (·.2)).dropLast.zip (l.map (·.1)))[i]? = some q := hq
      have hz : (l.map (·.2))[i]? = some z := hz
      obtain ⟨h1, h2⟩ := List.getElem?_zip_eq_some.mp hq
      rw [List.getElem?_map] at hz h2
      obtain ⟨⟨n, z'⟩, e1, e2⟩ := Option.map_eq_some_iff.mp hz
      rw [e1] at h2
      have e2 : z' = z := e2
      have h2 : n = q.2 := Option.some.inj h2
      obtain ⟨u, e3, g2, f1, f2, f3, f4, f5⟩ := sp.at_ i n z' e1
      have hu : u = q.1 := by
        have : (a :: l.map (·.2)).dropLast[i]? = (a :: l.map (·.2))[i]? := by
          have hlt := (List.getElem?_eq_some_iff.mp h1).1
          rw [List.getElem?_dropLast]
          rw [if_pos]
          rw [List.length_dropLast] at hlt
          exact hlt
        rw [this, e3] at h1
        exact Option.some.inj h1
      exact ⟨g2, f1, by rw [f2, h2], by rw [← hu]; exact f4, by rw [← e2]; exact f5⟩
  · rw [cycOf_len]
    have := G.len (hm g hg a ha)
    show 1 + l.length ≤ rs.length
    omega
theorem cycT_none (hm : ∀ g ∈ gs, ∀ z ∈ g.2.1, z ∈ rs) {g : Gt} (hg : g ∈ gs) : cycT gs rs g = none ↔ ¬ ∃ a ∈ g.2.1, ∃ b ∈ g.2.1, a.cps.toList < b.cps.toList ∧ Conn gs [g.1] a b := by
  unfold cycT
  rw [Option.map_eq_none_iff, best_none]
  constructor
  · rintro h ⟨a, ha, b, hb, lt, c⟩
    cases e : spath gs [g.1] rs a b with
    | none => exact (spath_none hm (hm g hg a ha)).mp e c
    | some l =>
      have : (a, l) ∈ fsOf ((pairsP g.2.1).map (askP gs rs g.1)) := mem_fs.mpr ⟨b, ha, hb, lt, e⟩
      rw [h] at this
      cases this
  · intro h
    refine List.eq_nil_iff_forall_not_mem.mpr fun f hf => h ?_
    obtain ⟨a, l⟩ := f
    obtain ⟨b, h1, h2, h3, h4⟩ := mem_fs.mp hf
    exact ⟨a, h1, b, h2, h3, (spath_some hm (hm g hg a h1) h4).1.conn⟩
/-- what cycle_through finds is a shortest cycle through the gateway -/
theorem cycT_some (nd : (gs.map (·.1)).Nodup) (hm : ∀ g ∈ gs, ∀ z ∈ g.2.1, z ∈ rs) {g : Gt} (hg : g ∈ gs) {c : List (Str × Str)} (h : cycT gs rs g = some c) : IsCyc gs rs c ∧ g.1 ∈ c.map (·.2) ∧ CycLn gs rs g c.length ∧ ∀ n, CycLn gs rs g n → c.length ≤ n := by
  unfold cycT at h
  obtain ⟨⟨a, l⟩, hb, rfl⟩ := Option.map_eq_some_iff.mp h
  obtain ⟨hf, hmin⟩ := best_some hb
  obtain ⟨b, h1, h2, h3, h4⟩ := mem_fs.mp hf
  obtain ⟨G, e⟩ := spath_good nd hm (hm g hg a h1) h4
  refine ⟨cycOf_ok nd hm hg h1 h2 (str_irrefl h3) G e, by unfold cycOf; simp, ⟨a, h1, b, h2, (str_irrefl h3).symm, l, G, e, by rw [cycOf_len]⟩, fun n hn => ?_⟩
  obtain ⟨a', ha', b', hb', ne, m, Gm, em, rfl⟩ := hn
  have sp : SPath gs [g.1] a' m b' := by
    rw [← em]
    exact Gm.last
  rw [cycOf_len]
  show 1 + l.length ≤ 1 + m.length
  rcases str_tri a' b' with q | q | q
  · cases e2 : spath gs [g.1] rs a' b' with
    | none => exact absurd sp.conn ((spath_none hm (hm g hg a' ha')).mp e2)
    | some l2 =>
      have k1 := hmin (a', l2) (mem_fs.mpr ⟨b', ha', hb', q, e2⟩)
      have k2 := (spath_some hm (hm g hg a' ha') e2).2 m sp
      have k1 : l.length ≤ l2.length := k1
      omega
  · exact absurd q.symm ne
  · obtain ⟨m', el, sp'⟩ := sp.rev
    cases e2 : spath gs [g.1] rs b' a' with
    | none => exact absurd sp'.conn ((spath_none hm (hm g hg b' hb')).mp e2)
    | some l2 =>
      have k1 := hmin (b', l2) (mem_fs.mpr ⟨a', hb', ha', q, e2⟩)
      have k2 := (spath_some hm (hm g hg b' hb') e2).2 m' sp'
      have k1 : l.length ≤ l2.length := k1
      omega
theorem scyc_none : scyc gs rs = none ↔ ∀ g ∈ wrapsG gs, cycT gs rs g = none := by
  unfold scyc
  constructor
  · intro h g hg
    cases e : cycT gs rs g with
    | none => rfl
    | some c =>
      have hc : c ∈ cycsW gs rs := List.mem_filterMap.mpr ⟨g, hg, e⟩
      obtain ⟨n, h1, _⟩ := bestIx_ok ((cycsW gs rs).map List.length) (by
        intro z
        rw [List.map_eq_nil_iff.mp z] at hc
        cases hc)
      rw [List.getElem?_map, h] at h1
      cases h1
  · intro h
    have : cycsW gs rs = [] := by
      refine List.eq_nil_iff_forall_not_mem.mpr fun c hc => ?_
      obtain ⟨g, hg, e⟩ := List.mem_filterMap.mp hc
      rw [h g hg] at e
      cases e
    rw [this]
    rfl
theorem scyc_some {c : List (Str × Str)} (h : scyc gs rs = some c) : (∃ g ∈ wrapsG gs, cycT gs rs g = some c) ∧ ∀ g ∈ wrapsG gs, ∀ c', cycT gs rs g = some c' → c.length ≤ c'.length := by
  unfold scyc at h
  have hc := List.mem_of_getElem? h
  obtain ⟨g, hg, e⟩ := List.mem_filterMap.mp hc
  refine ⟨⟨g, hg, e⟩, fun g' hg' c' e' => ?_⟩
  have hc' : c' ∈ cycsW gs rs := List.mem_filterMap.mpr ⟨g', hg', e'⟩
  obtain ⟨n, h1, h2⟩ := bestIx_ok ((cycsW gs rs).map List.length) (by
    intro z
    rw [List.map_eq_nil_iff.mp z] at hc
    cases hc)
  rw [List.getElem?_map, h] at h1
  cases h1
  exact h2 _ (List.mem_map.mpr ⟨c', hc', rfl⟩)
end
theorem pick_same {α β : Type} {f g : α → Option β} : ∀ l : List α, (∀ m ∈ l, f m = g m) → l.filterMap f = l.filterMap g
  | [], _ => rfl
  | x :: l, h => by
    rw [List.filterMap_cons, List.filterMap_cons, h x List.mem_cons_self, pick_same l fun m hm => h m (List.mem_cons_of_mem _ hm)]
theorem step_init (one : Str) (l : Pth) : stepL (pathV one l) none (some (-1)) 2 = ((one :: l.map (·.2)).dropLast).map V.str := by
  have h := pick_all (((one :: l.map (·.2)).dropLast).map V.str)
  have dl : (((one :: l.map (·.2)).dropLast).map V.str).length = l.length := by simp
  have e0 : (Builtin.Slice.sliceAdjust none (some (-1)) 2 ((pathV one l).length : Int)).1 = 0 := rfl
  have e : Builtin.Slice.slicePlaces (Builtin.Slice.sliceAdjust none (some (-1)) 2 ((pathV one l).length : Int)).1 (Builtin.Slice.sliceAdjust none (some (-1)) 2 ((pathV one l).length : Int)).2 2 = l.length := by
    rw [e0, pathV_len]
    unfold Builtin.Slice.slicePlaces Builtin.Slice.sliceAdjust
    simp
    omega
  unfold stepL
  rw [e]
  rw [dl] at h
  refine Eq.trans (pick_same _ fun m hm => ?_) h
  have hm := List.mem_range.mp hm
  rw [e0, show ((0 : Int) + (m : Int) * 2).toNat = 2 * m by omega, pathV_even, List.getElem?_map, List.getElem?_map, List.getElem?_dropLast, if_pos (by simp; omega)]
/-- a cycle in memory, or None -/
def CycRes (H : Hp) (v : V) : Option (List (Str × Str)) → Prop
  | none => v = .non
  | some c => ∃ p us, v = .ref p ∧ H p = some (.tup (us.map V.ref)) ∧ Paired (fun u (q : Str × Str) => H u = some (.tup [.str q.1, .str q.2])) us c
theorem CycRes.same {H H' : Hp} {v : V} {o : Option (List (Str × Str))} (h : CycRes H v o) (s : Same H H') : CycRes H' v o := by
  cases o with
  | none => exact h
  | some l =>
    obtain ⟨p, us, e1, e2, e3⟩ := h
    exact ⟨p, us, e1, s _ _ e2, Paired.mapP e3 fun _ _ z => s _ _ z⟩
theorem pair_zip {H : Hp} : ∀ {us : List Addr} {rs ns : List Str}, Paired (fun t (q : V × V) => H t = some (.tup [q.1, q.2])) us ((rs.map V.str).zip (ns.map V.str)) → Paired (fun u (q : Str × Str) => H u = some (.tup [.str q.1, .str q.2])) us (rs.zip ns)
  | us, [], ns, h => by
    simp at h ⊢
    cases h
    exact .nil
  | us, r :: rs, [], h => by
    simp at h ⊢
    cases h
    exact .nil
  | us, r :: rs, n :: ns, h => by
    rw [List.map_cons, List.map_cons, List.zip_cons_cons] at h
    cases h with
    | cons h t => exact .cons h (pair_zip t)
end WT

set_option Elab.async false
set_option linter.all false
set_option maxRecDepth 100000
set_option maxHeartbeats 4000000
/-! zip over two tuples while the tuple that it gave out is still held. -/
namespace PySem
open Sem (wp)
section
variable {prog : Program} {w : World} {A : Around} {E : Value → Shared → Prop} {s : Shared} {z TI TO T i1 i2 a b : Addr} {f : Bool} {oT : Obj} {k1 k2 : Nat} {xs ys : Array Value}
theorem zipHeldT_item {x y : Value} {Q : Value → Shared → Prop} (D : ZipApart z TI TO i1 i2 a b) (hz : IsZipHeld s.heap z TI TO T f) (hT : s.heap.get? T = some oT) (hTI : IsPair s.heap TI (.ref i1) (.ref i2))
    (h1 : s.heap.IsTupleIter i1 a k1) (h2 : s.heap.IsTupleIter i2 b k2) (ha : s.heap.IsTuple a xs) (hb : s.heap.IsTuple b ys) (hx : xs[k1]? = some x) (hy : ys[k2]? = some y)
    (q : ∀ h', IsZipHeld h' z TI TO T true → h'.IsTupleIter i1 a (k1 + 1) → h'.IsTupleIter i2 b (k2 + 1) → IsPair h' s.heap.objs.size x y →
      (∀ c o, c ≠ z → c ≠ i1 → c ≠ i2 → s.heap.get? c = some o → h'.get? c = some o) → Q (.ref s.heap.objs.size) { s with heap := h' }) :
    wpAny (model prog w) A (Builtin.«zip.__next__» ⟨[.ref z], []⟩) (fun fin s' => ∃ v, fin = .done (.ret v) ∧ Q v s') E s := by
  show wpAny _ _ (field (.ref z) 2 >>= _) _ _ _
  refine wpAny_bind (wpAny_field hz rfl (x := .bool false) rfl ?_)
  show wpAny _ _ (field (.ref z) 3 >>= _) _ _ _
  refine wpAny_bind (wpAny_field hz rfl (x := .ref TI) rfl (wpAny_bind (wpAny_seqItems hTI rfl ?_)))
  show wpAny _ _ (Builtin.SmallTypes.ownedTupleIsFree (.ref z) >>= _) _ _ _
  refine wpAny_bind (wpAny_tupleHeld_zip hz hT fun ha1 hz1 sb1 => ?_)
  simp only [Bool.false_eq_true, if_false]
  refine wpAny_bind ?_
  rw [← Array.forIn_toList]
  simp only [List.forIn_cons, List.forIn_nil]
  refine wpAny_bind (wpAny_bind (wpAny_holding ?_))
  show wpAny _ _ (Builtin.SmallTypes.nextOf (.ref i1) >>= _) _ _ _
  refine wpAny_bind (wpAny_nextOf_tuple_item (s := { s with heap := ha1 }) (h1.at fun o e => sb1.extBut _ _ D.i1z e) (ha.extBut sb1.extBut D.l1z) hx fun ha2 it1 sb2 => wpAny_pure (wpAny_pure ?_))
  refine wpAny_bind (wpAny_bind (wpAny_holding ?_))
  show wpAny _ _ (Builtin.SmallTypes.nextOf (.ref i2) >>= _) _ _ _
  refine wpAny_bind (wpAny_nextOf_tuple_item (s := { s with heap := ha2 }) (h2.at fun o e => sb2.extBut _ _ D.i12.symm (sb1.extBut _ _ D.i2z e)) ((hb.extBut sb1.extBut D.l2z).extBut sb2.extBut D.l2i1) hy fun ha3 it2 sb3 => wpAny_pure (wpAny_pure (wpAny_pure ?_)))
  show wpAny _ _ (newTuple [x, y] >>= _) _ _ _
  refine wpAny_bind (wpAny_newTuple (wpAny_pure ⟨_, rfl, ?_⟩))
  have size3 : ha3.objs.size = s.heap.objs.size := by rw [sb3.1, sb2.1, sb1.1]
  have pair : IsPair (ha3.push { cls := .type "tuple", data := .seq #[x, y] }) ha3.objs.size x y := Heap.get?_push_size _ rfl
  show Q (.ref ha3.objs.size) _
  rw [size3] at pair ⊢
  exact q _ (Heap.get?_push_of_some _ (sb3.extBut _ _ D.i2z.symm (sb2.extBut _ _ D.i1z.symm hz1))) (it1.at fun o e => Heap.get?_push_of_some _ (sb3.extBut _ _ D.i12 e)) (it2.at fun o e => Heap.get?_push_of_some _ e) pair
    fun c o c1 c2 c3 e => Heap.get?_push_of_some _ (sb3.extBut _ _ c3 (sb2.extBut _ _ c2 (sb1.extBut _ _ c1 e)))
theorem zipHeldT_end {Q : Fin → Shared → Prop} (hh : A.handled = none) (D : ZipApart z TI TO i1 i2 a b) (hz : IsZipHeld s.heap z TI TO T f) (hT : s.heap.get? T = some oT) (hTI : IsPair s.heap TI (.ref i1) (.ref i2))
    (h1 : s.heap.IsTupleIter i1 a k1) (h2 : s.heap.IsTupleIter i2 b k2) (ha : s.heap.IsTuple a xs) (hb : s.heap.IsTuple b ys) (hend : xs[k1]? = none ∨ ys[k2]? = none)
    (q : ∀ h' e, (∀ c o, c ≠ z → c ≠ i1 → c ≠ i2 → s.heap.get? c = some o → h'.get? c = some o) → (∃ o, h'.get? e = some o ∧ o.cls = .type "StopIteration") → E (.ref e) { s with heap := h' }) :
    wpAny (model prog w) A (Builtin.«zip.__next__» ⟨[.ref z], []⟩) Q E s := by
  show wpAny _ _ (field (.ref z) 2 >>= _) _ _ _
  refine wpAny_bind (wpAny_field hz rfl (x := .bool false) rfl ?_)
  show wpAny _ _ (field (.ref z) 3 >>= _) _ _ _
  refine wpAny_bind (wpAny_field hz rfl (x := .ref TI) rfl (wpAny_bind (wpAny_seqItems hTI rfl ?_)))
  show wpAny _ _ (Builtin.SmallTypes.ownedTupleIsFree (.ref z) >>= _) _ _ _
  refine wpAny_bind (wpAny_tupleHeld_zip hz hT fun ha1 hz1 sb1 => ?_)
  simp only [Bool.false_eq_true, if_false]
  refine wpAny_bind ?_
  rw [← Array.forIn_toList]
  simp only [List.forIn_cons, List.forIn_nil]
  refine wpAny_bind (wpAny_bind (wpAny_holding ?_))
  show wpAny _ _ (Builtin.SmallTypes.nextOf (.ref i1) >>= _) _ _ _
  have t1 : ha1.IsTupleIter i1 a k1 := h1.at fun o e => sb1.extBut _ _ D.i1z e
  cases hx : xs[k1]? with
  | none =>
    exact wpAny_bind (wpAny_nextOf_tuple_end (s := { s with heap := ha1 }) hh t1 (ha.extBut sb1.extBut D.l1z) hx fun ha2 e sb2 he => q ha2 e (fun c o c1 c2 _ k => sb2 _ _ c2 (sb1.extBut _ _ c1 k)) he)
  | some x =>
    have hy : ys[k2]? = none := hend.resolve_left (by rw [hx]; exact fun k => nomatch k)
    refine wpAny_bind (wpAny_nextOf_tuple_item (s := { s with heap := ha1 }) t1 (ha.extBut sb1.extBut D.l1z) hx fun ha2 it1 sb2 => wpAny_pure (wpAny_pure ?_))
    refine wpAny_bind (wpAny_bind (wpAny_holding ?_))
    show wpAny _ _ (Builtin.SmallTypes.nextOf (.ref i2) >>= _) _ _ _
    exact wpAny_bind (wpAny_nextOf_tuple_end (s := { s with heap := ha2 }) hh (h2.at fun o e => sb2.extBut _ _ D.i12.symm (sb1.extBut _ _ D.i2z e)) ((hb.extBut sb1.extBut D.l2z).extBut sb2.extBut D.l2i1) hy
      fun ha3 e sb3 he => q ha3 e (fun c o c1 c2 c3 k => sb3 _ _ c3 (sb2.extBut _ _ c2 (sb1.extBut _ _ c1 k))) he)
end
/-- a zip over the tuples at a and b, i pairs given; what it gave last may still be held -/
structure ZipAt (h : Heap) (z TI TO i1 i2 a b : Addr) (xs ys : Array Value) (i : Nat) : Prop where
  zip : IsZip h z TI TO .none ∨ ∃ T f oT, IsZipHeld h z TI TO T f ∧ h.get? T = some oT ∧ T ≠ z ∧ T ≠ i1 ∧ T ≠ i2
  ti : IsPair h TI (.ref i1) (.ref i2)
  out : ∃ u v, IsPair h TO u v
  one : h.IsTupleIter i1 a i
  two : h.IsTupleIter i2 b i
  fst : h.IsTuple a xs
  snd : h.IsTuple b ys
section
variable {prog : Program} {w : World} {A : Around} {E : Value → Shared → Prop} {s : Shared} {z TI TO i1 i2 a b : Addr} {i : Nat} {xs ys : Array Value}
theorem ZipAt.type {h : Shared} (Z : ZipAt h.heap z TI TO i1 i2 a b xs ys i) : h.TypeIs (.ref z) "zip" := by
  rcases Z.zip with hz | ⟨T, f, oT, hz, _⟩
  · exact ⟨_, hz, rfl⟩
  · exact ⟨_, hz, rfl⟩
theorem zipAt_item {x y : Value} {Q : Option Value → Shared → Prop} (D : ZipApart z TI TO i1 i2 a b) (Z : ZipAt s.heap z TI TO i1 i2 a b xs ys i) (hx : xs[i]? = some x) (hy : ys[i]? = some y)
    (q : ∀ h', ZipAt h' z TI TO i1 i2 a b xs ys (i + 1) → IsPair h' s.heap.objs.size x y → (∀ c o, c ≠ z → c ≠ TO → c ≠ i1 → c ≠ i2 → s.heap.get? c = some o → h'.get? c = some o) → Q (some (.ref s.heap.objs.size)) { s with heap := h' }) :
    wpAny (model prog w) A (pyNext (.ref z)) Q E s := by
  obtain ⟨u, v, ho⟩ := Z.out
  have mv : ∀ {h' : Heap} {t : Addr} {us : Array Value}, (∀ c o, c ≠ z → c ≠ TO → c ≠ i1 → c ≠ i2 → s.heap.get? c = some o → h'.get? c = some o) → t ≠ z → t ≠ TO → t ≠ i1 → t ≠ i2 → s.heap.IsTuple t us → h'.IsTuple t us :=
    fun k n1 n2 n3 n4 ht => ht.at fun o e => k _ o n1 n2 n3 n4 e
  have lt1 : i1 < s.heap.objs.size := by
    obtain ⟨_, e, _⟩ := Z.one
    exact Heap.lt_size e
  have lt2 : i2 < s.heap.objs.size := by
    obtain ⟨_, e, _⟩ := Z.two
    exact Heap.lt_size e
  rcases Z.zip with hz | ⟨T, f, oT, hz, hT, n1, n2, n3⟩
  · refine RZ.pyNext_zipT_item D hz Z.ti ho Z.one Z.two Z.fst Z.snd hx hy fun h' e1 e2 e3 e4 e5 _ k => q h' ⟨.inr ⟨_, false, _, e1, e5, Nat.ne_of_gt (Heap.lt_size hz), Nat.ne_of_gt lt1, Nat.ne_of_gt lt2⟩, k _ _ D.TIz D.TITO D.TIi1 D.TIi2 Z.ti, ⟨_, _, e2⟩, e3, e4, ?_, ?_⟩ e5 k
    · exact mv k D.l1z D.l1TO D.l1i1 D.l1i2 Z.fst
    · exact mv k D.l2z D.l2TO D.l2i1 D.l2i2 Z.snd
  · have ty : s.TypeIs (.ref z) "zip" := Z.type
    unfold pyNext
    refine wpAny_bind (wpAny_attempt (wpAny_callSpecial?_slot (name := Str.ofString "__next__") ty F.slot_zip_next (wpAny_call_entry F.slot_zip_next ty F.entry_zip_next (zipHeldT_item D hz hT Z.ti Z.one Z.two Z.fst Z.snd hx hy fun h' e1 e3 e4 e5 k => wpAny_pure ?_) (F.args_zip_next_1 _))))
    have k' : ∀ c o, c ≠ z → c ≠ TO → c ≠ i1 → c ≠ i2 → s.heap.get? c = some o → h'.get? c = some o := fun c o c1 _ c3 c4 e => k c o c1 c3 c4 e
    exact q h' ⟨.inr ⟨T, true, oT, e1, k _ _ n1 n2 n3 hT, n1, n2, n3⟩, k _ _ D.TIz D.TIi1 D.TIi2 Z.ti, ⟨u, v, k _ _ D.TOz D.TOi1 D.TOi2 ho⟩, e3, e4, mv k' D.l1z D.l1TO D.l1i1 D.l1i2 Z.fst, mv k' D.l2z D.l2TO D.l2i1 D.l2i2 Z.snd⟩ e5 k'
theorem zipAt_end {Q : Option Value → Shared → Prop} (hh : A.handled = none) (D : ZipApart z TI TO i1 i2 a b) (Z : ZipAt s.heap z TI TO i1 i2 a b xs ys i) (hend : xs[i]? = none ∨ ys[i]? = none)
    (q : ∀ h', (∀ c o, c ≠ z → c ≠ TO → c ≠ i1 → c ≠ i2 → s.heap.get? c = some o → h'.get? c = some o) → Q none { s with heap := h' }) : wpAny (model prog w) A (pyNext (.ref z)) Q E s := by
  obtain ⟨u, v, ho⟩ := Z.out
  rcases Z.zip with hz | ⟨T, f, oT, hz, hT, _⟩
  · exact RZ.pyNext_zipT_end hh D hz Z.ti ho Z.one Z.two Z.fst Z.snd hend q
  · have ty : s.TypeIs (.ref z) "zip" := Z.type
    unfold pyNext
    refine wpAny_bind (wpAny_attempt (wpAny_callSpecial?_slot (name := Str.ofString "__next__") ty F.slot_zip_next (wpAny_call_entry F.slot_zip_next ty F.entry_zip_next (zipHeldT_end hh D hz hT Z.ti Z.one Z.two Z.fst Z.snd hend fun h' e k he => ?_) (F.args_zip_next_1 _))))
    obtain ⟨o, eo, ec⟩ := he
    exact wpAny_bind (wpAny_isInstance (T := "StopIteration") (b := true) ⟨o, eo, ec⟩ isSubtype_stop (wpAny_pure (q _ fun c o c1 _ c3 c4 e => k c o c1 c3 c4 e)))
theorem ZipAt.keep {h h' : Heap} {S : Addr} (Z : ZipAt h z TI TO i1 i2 a b xs ys i) (k : ∀ c o, c ≠ S → h.get? c = some o → h'.get? c = some o) (ks : ∃ o, h'.get? S = some o) (nz : z ≠ S) (nTI : TI ≠ S) (nTO : TO ≠ S) (n1 : i1 ≠ S) (n2 : i2 ≠ S) (na : a ≠ S) (nb : b ≠ S) :
    ZipAt h' z TI TO i1 i2 a b xs ys i := by
  obtain ⟨u, v, ho⟩ := Z.out
  refine ⟨?_, k _ _ nTI Z.ti, ⟨u, v, k _ _ nTO ho⟩, Z.one.at fun o e => k _ _ n1 e, Z.two.at fun o e => k _ _ n2 e, Z.fst.at fun o e => k _ _ na e, Z.snd.at fun o e => k _ _ nb e⟩
  rcases Z.zip with hz | ⟨T, f, oT, hz, hT, r⟩
  · exact .inl (k _ _ nz hz)
  · by_cases c : T = S
    · obtain ⟨o, ho⟩ := ks
      exact .inr ⟨T, f, o, k _ _ nz hz, by rw [c]; exact ho, r⟩
    · exact .inr ⟨T, f, oT, k _ _ nz hz, k _ _ c hT, r⟩
theorem far {p t base : Nat} (h1 : p < base) (h2 : base ≤ t) : t ≠ p := Nat.ne_of_gt (Nat.lt_of_lt_of_le h1 h2)
/-- the pairs that were given, where they stand -/
def PairsAt (h : Heap) (xs ys : Array Value) (base : Nat) (ts : List Addr) : Prop := ts.Nodup ∧ ∀ (j : Nat) (t : Addr), ts[j]? = some t → base ≤ t ∧ ∃ x y, xs[j]? = some x ∧ ys[j]? = some y ∧ IsPair h t x y
theorem zip_loop {R : Result → Shared → Prop} {S : Addr} {res : Value} {base n : Nat} (hh : A.in1.handled = none) (D : ZipApart z TI TO i1 i2 a b) (hn : n ≤ sizeLine) (hx : n ≤ xs.size) (hy : n ≤ ys.size) (hend : xs[n]? = none ∨ ys[n]? = none)
    (nz : z ≠ S) (nTI : TI ≠ S) (nTO : TO ≠ S) (n1 : i1 ≠ S) (n2 : i2 ≠ S) (na : a ≠ S) (nb : b ≠ S) (lz : z < base) (lTO : TO < base) (l1 : i1 < base) (l2 : i2 < base) (lS : S < base) :
    ∀ (k i : Nat) (s : Shared) (acc : Array Value) (c : Nat) (ts : List Addr), n - i = k → i ≤ n → base ≤ s.heap.objs.size → ZipAt s.heap z TI TO i1 i2 a b xs ys i → s.heap.get? S = some { cls := .type "list", dict := none, data := .seq acc c, slots := #[] } →
      acc.toList = ts.map Value.ref → ts.length = i → PairsAt s.heap xs ys base ts →
      (∀ (h' : Heap) (acc' : Array Value) (c' : Nat) (ts' : List Addr), (∀ d o, d ≠ z → d ≠ TO → d ≠ i1 → d ≠ i2 → d ≠ S → s.heap.get? d = some o → h'.get? d = some o) → h'.get? S = some { cls := .type "list", dict := none, data := .seq acc' c', slots := #[] } →
        acc'.toList = ts'.map Value.ref → ts'.length = n → PairsAt h' xs ys base ts' → R (.ok (.ret res)) { s with heap := h' }) →
      codeAny (model prog w) A (.builtin "list.extend.loop" ⟨[.ref S, .ref z, res], []⟩) R s := by
  intro k
  induction k with
  | zero =>
    intro i s acc c ts hk hi hb Z hS ea hl hp q
    obtain rfl : i = n := by omega
    refine codeAny_builtin F.entry_extend_loop ?_
    rw [Around.under_plainId F.plain_extend_loop _]
    show wpAny _ A.in1 (pyNext (.ref z) >>= _) _ _ s
    refine wpAny_bind (zipAt_end hh D Z hend fun h' kp => ?_)
    refine wpAny_pure (q h' acc c ts (fun d o d1 d2 d3 d4 _ e => kp d o d1 d2 d3 d4 e) (kp S _ (Ne.symm nz) (Ne.symm nTO) (Ne.symm n1) (Ne.symm n2) hS) ea hl ⟨hp.1, fun j t ht => ?_⟩)
    obtain ⟨hbt, x, y, e1, e2, e3⟩ := hp.2 j t ht
    exact ⟨hbt, x, y, e1, e2, kp t _ (far lz hbt) (far lTO hbt) (far l1 hbt) (far l2 hbt) e3⟩
  | succ k ih =>
    intro i s acc c ts hk hi hb Z hS ea hl hp q
    have ix : i < xs.size := by omega
    have iy : i < ys.size := by omega
    refine codeAny_builtin F.entry_extend_loop ?_
    rw [Around.under_plainId F.plain_extend_loop _]
    show wpAny _ A.in1 (pyNext (.ref z) >>= _) _ _ s
    refine wpAny_bind (zipAt_item D Z (x := xs[i]) (y := ys[i]) (by simp [ix]) (by simp [iy]) fun h' Z' pr kp => ?_)
    have hS' : h'.get? S = some { cls := .type "list", dict := none, data := .seq acc c, slots := #[] } := kp S _ (Ne.symm nz) (Ne.symm nTO) (Ne.symm n1) (Ne.symm n2) hS
    have hsz : acc.size = i := by
      have := congrArg List.length ea
      rw [List.length_map, hl, Array.length_toList] at this
      exact this
    show wpAny _ A.in1 (updateSeq S (·.push (.ref s.heap.objs.size)) >>= _) _ _ _
    refine wpAny_bind ?_
    have self := Heap.get?_update_self (Obj.mapSeq (·.push (Value.ref s.heap.objs.size))) hS' rfl
    have oth : ∀ d o, d ≠ S → h'.get? d = some o → (h'.update S (Obj.mapSeq (·.push (Value.ref s.heap.objs.size)))).get? d = some o := fun d o hd e => (Heap.get?_update_other _ _ (Ne.symm hd)).trans e
    refine wpAny_updateSeq hS' rfl (wpAny_pure ⟨plainId_quiet F.plain_extend_loop _, ih (i + 1) _ (acc.push (.ref s.heap.objs.size)) _ (ts ++ [s.heap.objs.size]) (by omega) (by omega) ?_ (Z'.keep oth ⟨_, self⟩ nz nTI nTO n1 n2 na nb) self ?_ ?_ ?_ ?_⟩)
      (by rw [hsz]; omega) (by show (acc.push _).size ≤ sizeLine + 1; rw [Array.size_push, hsz]; omega)
    · show base ≤ (h'.update S _).objs.size
      rw [Heap.size_update]
      exact Nat.le_of_lt (Nat.lt_of_le_of_lt hb (Heap.lt_size pr))
    · rw [Array.toList_push, ea, List.map_append]
      rfl
    · rw [List.length_append, hl]
      rfl
    · refine ⟨List.nodup_append.mpr ⟨hp.1, by simp, fun t ht t' ht' e => ?_⟩, fun j t ht => ?_⟩
      · obtain ⟨j, hj, ej⟩ := List.getElem_of_mem ht
        obtain ⟨_, x, y, _, _, e3⟩ := hp.2 j t (by rw [List.getElem?_eq_getElem hj, ej])
        rw [List.mem_singleton.mp ht'] at e
        exact Nat.ne_of_lt (Heap.lt_size e3) e
      rw [List.getElem?_append] at ht
      split at ht
      · obtain ⟨hbt, x, y, e1, e2, e3⟩ := hp.2 j t ht
        exact ⟨hbt, x, y, e1, e2, oth _ _ (far lS hbt) (kp t _ (far lz hbt) (far lTO hbt) (far l1 hbt) (far l2 hbt) e3)⟩
      · have hj : j = i ∧ t = s.heap.objs.size := by
          rename_i hge
          cases e : j - ts.length with
          | zero =>
            rw [e] at ht
            exact ⟨by omega, by simpa using ht.symm⟩
          | succ m =>
            rw [e] at ht
            simp at ht
        obtain ⟨rfl, rfl⟩ := hj
        exact ⟨hb, xs[j], ys[j], by simp [ix], by simp [iy], oth _ _ (far lS hb) pr⟩
    · intro h2 acc' c' ts' kp2 hS2 ea2 hl2 hp2
      exact q h2 acc' c' ts' (fun d o d1 d2 d3 d4 d5 e => kp2 d o d1 d2 d3 d4 d5 (oth d o d5 (kp d o d1 d2 d3 d4 e))) hS2 ea2 hl2 hp2
end
end PySem

set_option Elab.async false
set_option linter.all false
set_option maxRecDepth 100000
set_option maxHeartbeats 4000000
/-! tuple(zip(a, b)), a and b tuples. -/
namespace PySem
open Sem (wp)
theorem F.zip_no_len : typeLookup (.type "zip") "__len__" = pure none := by rw [typeLookup_type, builtinLookup_eq_fast]; kernel_rfl
theorem F.zip_no_hint : typeLookup (.type "zip") "__length_hint__" = pure none := by rw [typeLookup_type, builtinLookup_eq_fast]; kernel_rfl
section
variable {prog : Program} {w : World} {A : Around} {E : Value → Shared → Prop} {s : Shared} {z TI TO i1 i2 a b : Addr} {xs ys : Array Value}
theorem collect_zip {Q : List Value → Shared → Prop} {n : Nat} (hh : A.in1.handled = none) (D : ZipApart z TI TO i1 i2 a b) (hz : IsZip s.heap z TI TO .none) (hTI : IsPair s.heap TI (.ref i1) (.ref i2)) (hTO : ∃ u v, IsPair s.heap TO u v) (h1 : s.heap.IsTupleIter i1 a 0) (h2 : s.heap.IsTupleIter i2 b 0)
    (ha : s.heap.IsTuple a xs) (hb : s.heap.IsTuple b ys) (hn : n ≤ sizeLine) (hx : n ≤ xs.size) (hy : n ≤ ys.size) (hend : xs[n]? = none ∨ ys[n]? = none)
    (q : ∀ (h' : Heap) (ts : List Addr), (∀ d o, d ≠ z → d ≠ TO → d ≠ i1 → d ≠ i2 → s.heap.get? d = some o → h'.get? d = some o) → ts.length = n → PairsAt h' xs ys (s.heap.objs.size + 1) ts → Q (ts.map Value.ref) { s with heap := h' }) :
    wpAny (model prog w) A (collect (.ref z)) Q E s := by
  have lt : ∀ {c : Addr} {o : Obj}, s.heap.get? c = some o → c < s.heap.objs.size := fun e => Heap.lt_size e
  have lz := lt hz
  have lTI := lt hTI
  obtain ⟨u, v, hTO'⟩ := hTO
  have lTO := lt hTO'
  have l1 : i1 < s.heap.objs.size := by obtain ⟨_, e, _⟩ := h1; exact lt e
  have l2 : i2 < s.heap.objs.size := by obtain ⟨_, e, _⟩ := h2; exact lt e
  have la : a < s.heap.objs.size := by obtain ⟨_, e, _⟩ := ha; exact lt e
  have lb : b < s.heap.objs.size := by obtain ⟨_, e, _⟩ := hb; exact lt e
  unfold collect; refine wpAny_bind (wpAny_runValue (codeAny_builtin F.entry_proto_collect ?_)); rw [Around.under_plainId F.plain_proto_collect _]
  show wpAny _ A.in1 (newList [] >>= fun l => again (.builtin "list.__iadd__" ⟨[l, .ref z], []⟩)) _ _ s
  refine wpAny_bind (wpAny_newObj_type (wpAny_pure ⟨plainId_quiet F.plain_list_iadd _, codeAny_builtin F.entry_list_iadd ?_⟩)); rw [Around.under_plainId F.plain_list_iadd _]
  have up : ∀ c o, s.heap.get? c = some o → (s.heap.push { cls := .type "list", data := .seq ([] : List Value).toArray }).get? c = some o := fun c o e => Heap.get?_push_of_some _ e
  have hS1 : (s.heap.push { cls := .type "list", data := .seq ([] : List Value).toArray }).get? s.heap.objs.size = some { cls := .type "list", data := .seq ([] : List Value).toArray } := Heap.get?_push_size _ rfl
  show wpAny _ A.in1 (Builtin.List.listExtendWith (.ref s.heap.objs.size) (.ref z) (.ref s.heap.objs.size)) _ _ _
  unfold Builtin.List.listExtendWith; refine wpAny_bind (wpAny_typeOf (T := "zip") ⟨_, up _ _ hz, rfl⟩ ?_)
  have d1 : Builtin.List.listSameRef (.ref s.heap.objs.size) (.ref z) = false := by simp [Builtin.List.listSameRef, Nat.ne_of_gt lz]
  have d2 : (Value.type "zip" == Value.type "list") = false := by decide
  have d3 : (Value.type "zip" == Value.type "tuple") = false := by decide
  simp only [d1, d2, d3, Bool.or_false, Bool.false_eq_true, if_false]
  refine wpAny_bind (wpAny_pyIter_zip (up _ _ hz) (wpAny_bind (wpAny_holding ?_)))
  unfold Builtin.List.listLengthHint; refine wpAny_bind (wpAny_specialOf (T := "zip") ⟨_, up _ _ hz, rfl⟩ F.zip_no_len ?_)
  show wpAny _ A.in1 (specialOf (Value.ref z) (Str.ofString "__length_hint__") >>= _) _ _ _
  refine wpAny_bind (wpAny_specialOf (T := "zip") ⟨_, up _ _ hz, rfl⟩ F.zip_no_hint (wpAny_pure ?_))
  show wpAny _ A.in1 (rule "list.extend.makes-room" >>= fun _ => Builtin.List.listTouch (.ref s.heap.objs.size) >>= fun _ => again (.builtin "list.extend.loop" ⟨[.ref s.heap.objs.size, .ref z, .ref s.heap.objs.size], []⟩)) _ _ _
  refine wpAny_bind (wpAny_rule (wpAny_bind ?_))
  show wpAny _ A.in1 (updateSeq s.heap.objs.size (·.push .none) >>= fun _ => updateSeq s.heap.objs.size (·.pop)) _ _ _
  refine wpAny_bind (wpAny_updateSeq hS1 rfl ?_)
  have hS2 := Heap.get?_update_self (Obj.mapSeq (·.push Value.none)) hS1 rfl
  refine wpAny_updateSeq hS2 rfl ?_
  have hS3 := Heap.get?_update_self (Obj.mapSeq (·.pop)) hS2 rfl
  have kp : ∀ c o, c ≠ s.heap.objs.size → s.heap.get? c = some o → (((s.heap.push { cls := .type "list", data := .seq ([] : List Value).toArray }).update s.heap.objs.size (Obj.mapSeq (·.push Value.none))).update s.heap.objs.size (Obj.mapSeq (·.pop))).get? c = some o :=
    fun c o hc e => (Heap.get?_update_other _ _ (Ne.symm hc)).trans ((Heap.get?_update_other _ _ (Ne.symm hc)).trans (up c o e))
  have k2 : ∀ c o, s.heap.get? c = some o → (((s.heap.push { cls := .type "list", data := .seq ([] : List Value).toArray }).update s.heap.objs.size (Obj.mapSeq (·.push Value.none))).update s.heap.objs.size (Obj.mapSeq (·.pop))).get? c = some o := fun c o e => kp c o (Nat.ne_of_lt (lt e)) e
  refine wpAny_pure ⟨plainId_quiet F.plain_extend_loop _, zip_loop (base := s.heap.objs.size + 1) (n := n) hh D hn hx hy hend (Nat.ne_of_lt lz) (Nat.ne_of_lt lTI) (Nat.ne_of_lt lTO) (Nat.ne_of_lt l1) (Nat.ne_of_lt l2) (Nat.ne_of_lt la) (Nat.ne_of_lt lb)
    (Nat.lt_succ_of_lt lz) (Nat.lt_succ_of_lt lTO) (Nat.lt_succ_of_lt l1) (Nat.lt_succ_of_lt l2) (Nat.lt_succ_self _) n 0 _ _ _ [] rfl (Nat.zero_le _) ?_ ⟨.inl (k2 _ _ hz), k2 _ _ hTI, ⟨u, v, k2 _ _ hTO'⟩, h1.at fun o e => k2 _ _ e, h2.at fun o e => k2 _ _ e, ha.at fun o e => k2 _ _ e, hb.at fun o e => k2 _ _ e⟩ hS3 ?_ rfl ⟨List.nodup_nil, fun j t ht => ?_⟩ fun h' acc c ts kk hS ea hl hp => ?_⟩
  · show s.heap.objs.size + 1 ≤ (((s.heap.push _).update _ _).update _ _).objs.size
    rw [Heap.size_update, Heap.size_update, Heap.size_push]
    exact Nat.le_refl _
  · rfl
  · simp at ht
  · show wpAny _ A (load s.heap.objs.size >>= _) _ _ _
    refine wpAny_bind (wpAny_load hS (wpAny_pure ?_))
    show Q acc.toList _
    rw [ea]
    exact q h' ts (fun d o d1 d2 d3 d4 e => kk d o d1 d2 d3 d4 (Nat.ne_of_lt (lt e)) (k2 d o e)) hl hp
theorem code_tuple_zip {Q1 : Value → Shared → Prop} {n : Nat} (hh : A.handled = none) (D : ZipApart z TI TO i1 i2 a b) (hz : IsZip s.heap z TI TO .none) (hTI : IsPair s.heap TI (.ref i1) (.ref i2)) (hTO : ∃ u v, IsPair s.heap TO u v) (h1 : s.heap.IsTupleIter i1 a 0) (h2 : s.heap.IsTupleIter i2 b 0)
    (ha : s.heap.IsTuple a xs) (hb : s.heap.IsTuple b ys) (hn : n ≤ sizeLine) (hx : n ≤ xs.size) (hy : n ≤ ys.size) (hend : xs[n]? = none ∨ ys[n]? = none)
    (q : ∀ (h' : Heap) (ts : List Addr), (∀ d o, d ≠ z → d ≠ TO → d ≠ i1 → d ≠ i2 → s.heap.get? d = some o → h'.get? d = some o) → ts.length = n → PairsAt h' xs ys (s.heap.objs.size + 1) ts →
      Q1 (.ref h'.objs.size) { s with heap := h'.push { cls := .type "tuple", data := .seq (ts.map Value.ref).toArray } }) :
    codeAny (model prog w) A (.call (.builtin "tuple.__new__") ⟨[.type "tuple", .ref z], []⟩) (wants Q1 E) s := by
  refine codeAny_of_tree ?_
  show wpAny _ A.in1 (do checkBuiltinCall "tuple.__new__" ⟨[.type "tuple", .ref z], []⟩; again (.builtin "tuple.__new__" ⟨[.type "tuple", .ref z], []⟩)) _ _ s
  refine wpAny_bind (wpAny_of_eq (F.newCall_tuple_1 _) (wpAny_pure ⟨plainId_quiet F.plain_tuple_new _, codeAny_builtin F.entry_tuple_new ?_⟩)); rw [Around.under_plainId F.plain_tuple_new _]
  have w1 := sub_tuple_self
  have w2 := init_tuple_lookup
  have w3 := madeHere_tuple
  have ty : s.TypeIs (.ref z) "zip" := ⟨_, hz, rfl⟩
  wp_walk using wpAny_typeOf ty, collect_zip (n := n) (A := A.in1) (show A.in1.in1.handled = none from hh) D hz hTI hTO h1 h2 ha hb hn hx hy hend
  intro h' ts kp hl hp
  show wpAny _ _ (Builtin.Tuple.tupleExact (ts.map Value.ref).toArray >>= fun v => ret v) _ _ _
  unfold Builtin.Tuple.tupleExact
  exact wpAny_bind (wpAny_newObj_type (wpAny_pure (q h' ts kp hl hp)) (by show (ts.map Value.ref).toArray.size ≤ sizeLine; rw [List.size_toArray, List.length_map, hl]; exact hn))
theorem call_tuple_zip {Q : Value → Shared → Prop} {n : Nat} (hh : A.handled = none) (D : ZipApart z TI TO i1 i2 a b) (hz : IsZip s.heap z TI TO .none) (hTI : IsPair s.heap TI (.ref i1) (.ref i2)) (hTO : ∃ u v, IsPair s.heap TO u v) (h1 : s.heap.IsTupleIter i1 a 0) (h2 : s.heap.IsTupleIter i2 b 0)
    (ha : s.heap.IsTuple a xs) (hb : s.heap.IsTuple b ys) (hn : n ≤ sizeLine) (hx : n ≤ xs.size) (hy : n ≤ ys.size) (hend : xs[n]? = none ∨ ys[n]? = none)
    (q : ∀ (h' : Heap) (ts : List Addr), (∀ d o, d ≠ z → d ≠ TO → d ≠ i1 → d ≠ i2 → s.heap.get? d = some o → h'.get? d = some o) → ts.length = n → PairsAt h' xs ys (s.heap.objs.size + 1) ts →
      Q (.ref h'.objs.size) { s with heap := h'.push { cls := .type "tuple", data := .seq (ts.map Value.ref).toArray } }) :
    wpAny (model prog w) A (call (.type "tuple") [.ref z]) Q E s := by
  refine callType_codes (Q₁ := fun obj st => st.TypeIs obj "tuple" ∧ Q obj st) F.called_tuple (F.typeCall_tuple_1 _) F.entry_object_init
    (code_tuple_zip (A := A.in1) (show A.in1.handled = none from hh) D hz hTI hTO h1 h2 ha hb hn hx hy hend fun h' ts kp hl hp => ⟨⟨_, Heap.get?_push_size _ rfl, rfl⟩, q h' ts kp hl hp⟩) fun obj st hst => ?_
  exact ⟨hst.1, F.args_object_init_2 obj _, object_init_meets F.called_tuple.init.lookup F.called_tuple.made (by decide) prog w A.in1 _ st ⟨hst.1, rfl, hst.2⟩⟩
end
end PySem

set_option Elab.async false
set_option linter.all false
set_option maxRecDepth 100000
set_option maxHeartbeats 4000000
namespace WT
open PySem PySem.Spec PyProof.Rows L2
section
variable {X : Cx} {pins : List (Addr × Obj)} {σ : L2.St}
/-- pairs that stand untracked are tracked from now on -/
theorem take_pairs {s : Shared} : ∀ (ts : List Addr) (ps : List (V × V)) (H : Hp), Paired (fun t (p : V × V) => ∃ u v, IsPair s.heap t u v ∧ RelV p.1 u ∧ RelV p.2 v) ts ps → ts.Nodup → (∀ t ∈ ts, FpOk X pins H t) → L2.Inv X pins σ H s →
    ∃ H', L2.Same H H' ∧ L2.Inv X pins σ H' s ∧ Paired (fun t (p : V × V) => H' t = some (.tup [p.1, p.2])) ts ps ∧ ∀ c, c ∉ ts → H' c = H c
  | [], _, H, .nil, _, _, I => ⟨H, fun _ _ e => e, I, .nil, fun _ _ => rfl⟩
  | t :: ts, p :: ps, H, .cons h r, nd, fp, I => by
    obtain ⟨u, v, hp, ru, rv⟩ := h
    obtain ⟨nt, nd'⟩ := List.nodup_cons.mp nd
    have f := fp t List.mem_cons_self
    have I' : L2.Inv X pins σ (upd H t (.tup [p.1, p.2])) s := L2.Inv.take (h' := s.heap) (t' := s.toks) I (fun b ob _ e => e) f ⟨by show 2 ≤ sizeLine; decide, [u, v], .cons ru (.cons rv .nil), ⟨_, hp, rfl, _, rfl⟩⟩
    obtain ⟨H', h1, h2, h3, h4⟩ := take_pairs ts ps _ r nd' (fun c hc => by
      have g := fp c (List.mem_cons_of_mem _ hc)
      exact ⟨by rw [upd_ne (fun z : c = t => nt (z ▸ hc))]; exact g.1, g.2⟩) I'
    refine ⟨H', fun c o e => h1 _ _ ?_, h2, .cons ?_ h3, fun c hc => ?_⟩
    · rw [upd_ne (ne_of_none e f.1)]
      exact e
    · rw [h4 t nt, upd_same]
    · rw [h4 c fun z => hc (List.mem_cons_of_mem _ z), upd_ne (fun z : c = t => hc (by rw [z]; exact List.mem_cons_self))]
theorem paired_of {α β : Type} {R : α → β → Prop} : ∀ {l : List α} {m : List β}, l.length = m.length → (∀ (j : Nat) (x : α) (y : β), l[j]? = some x → m[j]? = some y → R x y) → Paired R l m
  | [], [], _, _ => .nil
  | x :: l, y :: m, h, f => .cons (f 0 x y rfl rfl) (paired_of (by simpa using h) fun j u v h1 h2 => f (j + 1) u v h1 h2)
  | [], _ :: _, h, _ => by simp at h
  | _ :: _, [], h, _ => by simp at h
theorem vals_refs : ∀ ts : List Addr, Vals (ts.map V.ref) (ts.map Value.ref)
  | [] => .nil
  | _ :: ts => .cons rfl (vals_refs ts)
/-- tuple(zip(a, b)): the pairs, each a new tuple -/
def tTupZip (K : PySem.W.Frag) (ta : TA) : TE := fun σ H Q => ta σ H fun vs H1 => ∃ (a b : Addr) (xs ys : List V), vs = [.ref a, .ref b] ∧ SqT K H1 a xs ∧ SqT K H1 b ys ∧
  ∀ (H' : Hp) (p : Addr) (ts : List Addr), L2.Same H1 H' → H' p = some (.tup (ts.map V.ref)) → Paired (fun t (q : V × V) => H' t = some (.tup [q.1, q.2])) ts (xs.zip ys) → Q (.ref p) H'
theorem pe_tupZip {e1 e2 : Expr} {ta : TA} {p p2 pz pos : Pos} (hcalm : X.calm = true) (hg : Gl X "tuple") (hm : X.mg "tuple" = none) (hg2 : Gl X "zip") (hm2 : X.mg "zip" = none) (ha : PA X [e1, e2] ta)
    (hs : starEach [e1, e2] X.env = (false, eval e1 X.env) :: starEach [e2] X.env := by rfl) (hpl : (backTo pz (starEach [e2] X.env)).any (·.1) = false := by rfl)
    (hs2 : starEach [.Call (.Name "zip" p2) [e1, e2] [] pz] X.env = [(false, eval (.Call (.Name "zip" p2) [e1, e2] [] pz) X.env)] := by rfl) :
    PE X (.Call (.Name "tuple" p) [.Call (.Name "zip" p2) [e1, e2] [] pz] [] pos) (tTupZip X.K ta) := by
  refine ⟨fun pins s σ H Q I h => Call_ (ld_blt I hg hm PyProof.Rows.boot_tuple (PyProof.Rows.callWith_type1 ?_ hs2 rfl))⟩
  rw [hs2]
  show wpAny _ _ (spliced ((false, eval (.Call (.Name "zip" p2) [e1, e2] [] pz) X.env) :: [])) _ _ s
  refine Calls.spliced_cons (Call_ (ld_blt I hg2 hm2 PyProof.Rows.boot_zip (PyProof.Rows.callWith_type1 (thn (ha.run pz pins s σ H _ I h) fun us s1 ⟨vs, H1, I1, r1, q1⟩ => ?_) hs hpl)))
  obtain ⟨a, b, xs, ys, rfl, hqx, hqy, q⟩ := q1
  obtain ⟨its, rx, px, _⟩ := I1.tuple hqx
  obtain ⟨jts, ry, py, hly⟩ := I1.tuple hqy
  cases r1 with
  | cons ra rr =>
    cases rr with
    | cons rb rr =>
      cases rr
      cases ra
      cases rb
      have ta' : s1.heap.IsTuple a its.toArray := px
      have tb' : s1.heap.IsTuple b jts.toArray := py
      obtain ⟨oa, hoa, _⟩ := id px
      obtain ⟨ob, hob, _⟩ := id py
      have lx := Vals.length rx
      have ly := Vals.length ry
      refine RZ.call_zipT ta' tb' fun h' hz hTI hTO h1 h2 hsz hk => Calls.spliced_nil ?_
      have hn : (xs.zip ys).length ≤ sizeLine := by
        rw [List.length_zip]
        exact Nat.le_trans (Nat.min_le_right _ _) hly
      refine call_tuple_zip (n := (xs.zip ys).length) (I1.ok.hd hcalm) (PySem.W.ktu_apart s1.heap.objs.size a b (Heap.lt_size hoa) (Heap.lt_size hob)) hz hTI ⟨_, _, hTO⟩ h1 h2 (ta'.at fun o e => hk _ o e) (tb'.at fun o e => hk _ o e) hn ?_ ?_ ?_ fun h2 ts kp hl hp => ?_
      · rw [List.length_zip, List.size_toArray]
        omega
      · rw [List.length_zip, List.size_toArray]
        omega
      · rw [List.length_zip]
        rcases Nat.le_total xs.length ys.length with c | c
        · exact .inl (by simp; omega)
        · exact .inr (by simp; omega)
      have old : ∀ c o, s1.heap.get? c = some o → (h2.push { cls := .type "tuple", data := .seq (ts.map Value.ref).toArray }).get? c = some o := fun c o e => by
        have lc := Heap.lt_size e
        exact Heap.get?_push_of_some _ (kp c o (Nat.ne_of_lt (Nat.lt_of_lt_of_le lc (Nat.le_add_right _ _))) (Nat.ne_of_lt (Nat.lt_of_lt_of_le lc (Nat.le_add_right _ _))) (Nat.ne_of_lt lc) (Nat.ne_of_lt (Nat.lt_of_lt_of_le lc (Nat.le_add_right _ _))) (hk c o e))
      have I2 : L2.Inv X pins σ H1 { s1 with heap := h2.push { cls := .type "tuple", data := .seq (ts.map Value.ref).toArray } } := I1.kept (t' := s1.toks) old
      have big : ∀ t ∈ ts, s1.heap.objs.size ≤ t ∧ t < h2.objs.size := fun t ht => by
        obtain ⟨j, hj, ej⟩ := List.getElem_of_mem ht
        obtain ⟨hb, x, y, _, _, e3⟩ := hp.2 j t (by rw [List.getElem?_eq_getElem hj, ej])
        rw [hsz] at hb
        exact ⟨Nat.le_trans (Nat.le_add_right _ 6) hb, Heap.lt_size e3⟩
      have pp : Paired (fun t (pq : V × V) => ∃ u v, IsPair (h2.push { cls := .type "tuple", data := .seq (ts.map Value.ref).toArray }) t u v ∧ RelV pq.1 u ∧ RelV pq.2 v) ts (xs.zip ys) := paired_of hl fun j t pq ht hq => by
        obtain ⟨_, u, v, e1, e2, e3⟩ := hp.2 j t ht
        have hq1 : xs[j]? = some pq.1 ∧ ys[j]? = some pq.2 := by
          rw [List.getElem?_zip_eq_some] at hq
          exact hq
        obtain ⟨u', hu, ru⟩ := rx.get hq1.1
        obtain ⟨v', hv, rv⟩ := ry.get hq1.2
        have e1 : its[j]? = some u := by simpa using e1
        have e2 : jts[j]? = some v := by simpa using e2
        rw [hu] at e1
        rw [hv] at e2
        cases e1
        cases e2
        exact ⟨_, _, Heap.get?_push_of_some _ e3, ru, rv⟩
      obtain ⟨H', sm, I3, prs, oth⟩ := take_pairs (X := X) (pins := pins) (σ := σ) ts (xs.zip ys) H1 pp hp.1 (fun t ht => I1.fpOk (big t ht).1 (I1.hok.fresh (big t ht).1)) I2
      have hpn : h2.objs.size ∉ ts := fun z => Nat.lt_irrefl _ (big _ z).2
      have DD := PySem.W.ktu_apart s1.heap.objs.size a b (Heap.lt_size hoa) (Heap.lt_size hob)
      have l2 : s1.heap.objs.size ≤ h2.objs.size := Nat.le_trans (Nat.le_add_right _ 2) (Nat.le_of_lt (Heap.lt_size (kp _ _ DD.TIz DD.TITO DD.TIi1 DD.TIi2 hTI)))
      have hnone : H' h2.objs.size = none := by
        rw [oth _ hpn]
        exact I1.hok.fresh l2
      have fp : FpOk X pins H' h2.objs.size := I1.fpOk l2 hnone
      have lts : (ts.map V.ref).length ≤ sizeLine := by
        rw [List.length_map, hl]
        exact hn
      have I4 := L2.Inv.take (h' := h2.push { cls := .type "tuple", data := .seq (ts.map Value.ref).toArray }) (t' := s1.toks) (o := .tup (ts.map V.ref)) I3 (fun b ob _ e => e) fp ⟨lts, ts.map Value.ref, vals_refs ts, ⟨_, Heap.get?_push_size _ rfl, rfl, _, rfl⟩⟩
      have z := same_new hnone (o := .tup (ts.map V.ref))
      exact ⟨.ref h2.objs.size, _, I4, rfl, q _ _ ts (sm.trans z) upd_same (Paired.mapP prs fun _ _ e => z _ _ e)⟩
end
end WT

set_option Elab.async false
set_option linter.all false
set_option maxRecDepth 100000
set_option maxHeartbeats 4000000
namespace K12
open PySem PySem.Spec PyProof.Rows L2 WT
abbrev st_cycle_through : Stmt := top 14
theorem sc_cycle_through : FnScope ["world", "name", "those", "paths", "path", "one", "other", "found"] ["world", "name"] (defScope st_cycle_through) := ⟨rfl, rfl, rfl, by decide +kernel, rfl, by decide +kernel, by decide +kernel⟩
theorem pi_tupK {X : Cx} {K : PySem.W.Frag} {tg l : Expr} {tl : TE} (hl : PE X l tl) (hK : X.K = K := by rfl) : PI X tg l (iTup K tl) := by
  subst hK
  exact pi_tup hl
theorem walk_W {J : It} {n : Nat} {G : Hp → Prop} {Y : Nat → Hp → V → Hp → Prop} (w : Walk J n G Y) {Body : V → Hp → (Hp → Prop) → Prop} {Qd : Hp → Prop} {H0 : Hp} (Pv : Nat → Hp → Prop) (h0 : Pv 0 H0) (hG : ∀ i H, i ≤ n → Pv i H → G H)
    (hs : ∀ i x H H', i < n → Pv i H → Y i H x H' → Body x H' (Pv (i + 1))) (hd : ∀ H, Pv n H → Qd H) :
    ∃ W : Nat → Nat → Hp → Prop, (∃ m, W 0 m H0) ∧ ∀ i m H, W i m H → (J.stop i H ∧ Qd H) ∨ (J.go i H ∧ ∃ Nx : Hp → Prop, (∀ H', Nx H' → ∃ m', m' < m ∧ W (i + 1) m' H') ∧ ∀ x H', J.yld i H x H' → Body x H' Nx) := by
  refine ⟨fun i m H => m = n - i ∧ i ≤ n ∧ Pv i H, ⟨n, rfl, Nat.zero_le _, h0⟩, ?_⟩
  rintro i m H ⟨rfl, hi, p⟩
  by_cases c : i < n
  · exact .inr ⟨w.goes i H c (hG i H hi p), Pv (i + 1), fun H' p' => ⟨n - (i + 1), by omega, rfl, c, p'⟩, fun x H' y => hs i x H H' c p (w.yields i H x H' c (hG i H hi p) y)⟩
  · obtain rfl : i = n := by omega
    exact .inl ⟨w.stops H (hG _ H hi p), hd H p⟩
/-- the answers so far -/
def Asked (H : Hp) : List V → List (Str × Option Pth) → Prop := Paired fun v p => PathRes p.1 H v p.2
theorem res_tup {one : Str} {H H' : Hp} {v : V} {o : Option Pth} (h : PathRes one H v o) (k : ∀ t xs, H t = some (.tup xs) → H' t = some (.tup xs)) : PathRes one H' v o := by
  cases o with
  | none => exact h
  | some l =>
    obtain ⟨t, h1, h2⟩ := h
    exact ⟨t, h1, k _ _ h2⟩
section
variable {P : Program} {w : World} {K : PySem.W.Frag} {mg : Str → Option Value} {base : Heap} {f fM fS : Addr} {fd fdM fdS : FuncData}
/-- cycle_through(world, name) -/
def spCyc : Sp := fun vs H Q _ => ∃ (wa r g : Addr) (as : List Addr) (rs : List Str) (gs : List Gt) (gx : Gt), vs = [.ref wa, .str gx.1] ∧ WorldAt H wa r g as rs gs ∧ gx ∈ gs ∧ (gs.map (·.1)).Nodup ∧ rs.length ≤ 100 ∧ gs.length ≤ 100 ∧ (∀ g ∈ gs, g.2.1.length ≤ 100 ∧ ∀ y ∈ g.2.1, y ∈ rs) ∧
  ∀ (H' : Hp) (v : V), Same H H' → CycRes H' v (cycT gs rs gx) → Q v H'
theorem ok_cycle_through (F : Fun K "cycle_through" "cycle_through" st_cycle_through f fd) (B : Blt mg) (hzip : mg "zip" = none) (F_members : Df P w K mg base "members" 1 fM fdM ["world", "name"] spMembers)
    (F_shortest_path : Df P w K mg base "shortest_path" 2 fS fdS ["world", "one", "other", "without"] (spShort K)) : FnG P w K mg base CX0 3 f fd ["world", "name"] spCyc := by
  refine okG F sc_cycle_through (fun vs H Q E h => ?_) (fun cdv A outer s H vs Q E hgd hr h => ?_)
  · obtain ⟨_, _, _, _, _, _, _, rfl, _⟩ := h
    rfl
  · obtain ⟨wa, r, g, as, rs, gs, gx, rfl, hw, hgx, nd0, hrl, hgl, hil, q⟩ := h
    refine ⟨_, (pss_cons (ps_set (i := 2) sc_cycle_through.nd rfl (.inr rfl) (pe_callG hgd F_members.G (hr.mono (by decide)) (by rfl) F_members.g F_members.kp F_members.bd pass0 (pa_cons (pv 0) (pa_cons (pv 1) pa_nil))))
      (pss_cons (ps_setLc2 (i := 3) (own := [("one", 5), ("other", 6)]) (vs1 := [6]) (by rfl) sc_cycle_through.nd rfl rfl (sw_true rfl rfl rfl (by decide +kernel)) (pi_tup (pv 2)) (blkOk_by (own := [("one", 5), ("other", 6)]) (N := ["world", "name", "those", "paths", "path", "one", "other", "found"]) (sc := defScope st_cycle_through) (by decide +kernel)) (by decide) (fun _ _ _ _ _ => (pg_name (i := 5) sc_cycle_through.nd rfl (.inl rfl))) (fun _ _ _ _ _ => pts_nil) (fun _ _ _ _ _ => (pi_tupK (K := K) (pv 2))) (fun _ _ _ _ _ => (pg_name (i := 6) sc_cycle_through.nd rfl (.inl rfl))) (fun _ _ _ _ _ => (pts_one (pt_cmpR op_lt_str (pv 5) (pv 6) (nomark _)))) (fun _ _ _ _ _ => (pe_callG hgd F_shortest_path.G (hr.mono (by decide)) (by rfl) F_shortest_path.g F_shortest_path.kp F_shortest_path.bd pass0 (pa_cons (pv 0) (pa_cons (pv 5) (pa_cons (pv 6) (pa_cons (pe_tup (pa_cons (pv 1) pa_nil)) pa_nil)))))))
      (pss_cons (ps_set (i := 4) sc_cycle_through.nd rfl (.inl rfl) (pe_minLenI (by rfl) (by rfl) B.min (by rfl) B.len (pa_cons (pe_lc (own := [("found", 7)]) (by rfl) sc_cycle_through.nd (pi_list (pv 3)) (blkOk_by (own := [("found", 7)]) (N := ["world", "name", "those", "paths", "path", "one", "other", "found"]) (sc := defScope st_cycle_through) (by decide +kernel)) (fun _ _ _ _ _ => (pg_name (i := 7) sc_cycle_through.nd rfl (.inl rfl))) (fun _ _ _ _ _ => (pts_one (pt_cmpR op_notN (pv 7) pe_non (nomark _)))) (fun _ _ _ _ _ => (pv 7))) pa_nil)))
      (pss_cons (ps_if (pt_cmpR op_isN (pv 4) pe_non (nomark _))
       (pss_one (ps_ret pe_non))
       pss_nil)
      (pss_one (ps_ret (pe_op op_catA (pe_tup (pa_cons (pe_tup (pa_cons (pe_ix ix_tup (pv 4) (pe_un un_neg pe_int) (fun _ _ => rfl)) (pa_cons (pv 1) pa_nil))) pa_nil)) (pe_tupZip (by rfl) (by rfl) B.tuple (by rfl) hzip (pa_cons (pe_slice3 2 (by decide) (by decide) (pv 4) po_none (po_some (pe_un un_neg pe_int)) pe_int) (pa_cons (pe_slice3 2 (by decide) (by decide) (pv 4) (po_some pe_int) po_none pe_int) pa_nil)))))))))), ?_⟩
    have hm : ∀ g ∈ gs, ∀ z ∈ g.2.1, z ∈ rs := fun g hg => (hil g hg).2
    -- those = members(world, name)
    refine ⟨_, rfl, _, rfl, wa, r, g, as, rs, gs, gx.1, rfl, hw, ⟨gx, hgx, rfl⟩, fun i gg hgg egg hi => ?_⟩
    obtain rfl : gg = gx := by_name nd0 hgg hgx egg
    obtain ⟨ml, msub⟩ := hil gg hgg
    -- paths
    refine ⟨_, rfl, i, rfl, ⟨_, SqT.of hi⟩, fun D nD => walk_W (walk_tup (xs := gg.2.1.map V.str))
      (fun m H' => Same H H' ∧ ∃ vs : List V, vs.length ≤ m * 100 ∧ H' D = some (.lst vs) ∧ Asked H' vs (((gg.2.1.take m).flatMap (rowP gg.2.1)).map (askP gs rs gg.1))) ⟨same_new nD, [], Nat.zero_le _, upd_same, .nil⟩ (fun m H' _ ⟨s', _⟩ => SqT.of (s' _ _ hi)) (fun m v H2 H3 hm2 hP hY => ?_) fun H2 hP => ?_⟩
    · obtain ⟨s2, vs, hvl, hD2, ak2⟩ := hP
      obtain ⟨rfl, hv⟩ := hY
      rw [List.getElem?_map] at hv
      obtain ⟨y, hy, rfl⟩ := Option.map_eq_some_iff.mp hv
      have hmlt : m < gg.2.1.length := (List.getElem?_eq_some_iff.mp hy).1
      refine ⟨rfl, ⟨_, rfl, i, rfl, ⟨_, SqT.of (s2 _ _ hi)⟩, walk_W (walk_tup (xs := gg.2.1.map V.str))
        (fun j H' => Same H H' ∧ ∃ vs : List V, vs.length ≤ m * 100 + j ∧ H' D = some (.lst vs) ∧ Asked H' vs (((gg.2.1.take m).flatMap (rowP gg.2.1) ++ rowP (gg.2.1.take j) y).map (askP gs rs gg.1))) ⟨s2, vs, hvl, hD2, by
          rw [show rowP (gg.2.1.take 0) y = [] from rfl, List.append_nil]
          exact ak2⟩ (fun j H' _ ⟨s', _⟩ => SqT.of (s' _ _ hi)) (fun j u H4 H5 hj hP hY => ?_) fun H4 hP => ?_⟩⟩
      · obtain ⟨s4, vs, hvl, hD4, ak4⟩ := hP
        obtain ⟨rfl, hu⟩ := hY
        rw [List.getElem?_map] at hu
        obtain ⟨z, hz, rfl⟩ := Option.map_eq_some_iff.mp hu
        have hj' : j < gg.2.1.length := (List.getElem?_eq_some_iff.mp hz).1
        have stp : rowP (gg.2.1.take (j + 1)) y = rowP (gg.2.1.take j) y ++ (if y.cps.toList < z.cps.toList then [(y, z)] else []) := by
          unfold rowP
          rw [List.take_add_one, hz, List.filter_append, List.map_append]
          congr 1
          by_cases c : y.cps.toList < z.cps.toList
          · rw [if_pos c]
            simp [ltS, c]
          · rw [if_neg c]
            simp [ltS, c]
        refine ⟨rfl, _, rfl, _, rfl, y, z, rfl, rfl, _, rfl, ?_⟩
        by_cases c : y.cps.toList < z.cps.toList
        · refine ifT (decide_eq_true c) ⟨_, rfl, _, rfl, _, rfl, _, rfl, (by show 1 ≤ sizeLine; decide), fun tn ntn => ?_⟩
          have zt := same_new ntn (o := .tup [.str gg.1])
          refine ⟨wa, r, g, tn, as, rs, gs, y, z, [gg.1], rfl, (hw.same s4).same zt, SqT.of upd_same, hrl, hgl, nd0, hil, msub y (List.mem_of_getElem? hy), fun H6 v s6 hres => ?_⟩
          have s46 := zt.trans s6
          have hD6 := s46 _ _ hD4
          have keep : ∀ (t : Addr) (xs : List V) (o : HO), H6 t = some (.tup xs) → upd H6 D o t = some (.tup xs) := fun t xs o e => by
            rw [upd_ne (ne_of e hD6 (by intro q; cases q))]
            exact e
          refine ⟨vs, hD6, Nat.lt_of_le_of_lt (show vs.length ≤ 100000 by have : m * 100 ≤ 10000 := by omega
                                                                          omega) (by decide), fun d o ed => ?_, vs ++ [v], by rw [List.length_append]; show vs.length + 1 ≤ _; omega, upd_same, ?_⟩
          · rw [upd_ne (ne_of_none ed nD)]
            exact s46 _ _ (s4 _ _ ed)
          · rw [stp, if_pos c, ← List.append_assoc, List.map_append]
            exact pair_snoc (Paired.mapP ak4 fun _ _ h => res_tup h fun t xs e => keep _ _ _ (s46 _ _ e)) (res_tup hres fun t xs e => keep _ _ _ e)
        · refine ifF (decide_eq_false c) ⟨s4, vs, by omega, hD4, ?_⟩
          rw [stp, if_neg c, List.append_nil]
          exact ak4
      · obtain ⟨s4, vs, hvl, hD4, ak4⟩ := hP
        rw [List.length_map] at hvl ak4
        rw [List.take_length] at ak4
        refine ⟨s4, vs, by omega, hD4, ?_⟩
        rw [List.take_add_one, hy, List.flatMap_append]
        have : (Option.some y).toList.flatMap (rowP gg.2.1) = rowP gg.2.1 y := by simp
        rw [this]
        exact ak4
    · obtain ⟨s2, vs, hvl, hD2, ak2⟩ := hP
      rw [List.length_map, List.take_length] at ak2
      rw [List.length_map] at hvl
      change Asked H2 vs ((pairsP gg.2.1).map (askP gs rs gg.1)) at ak2
      generalize hps : (pairsP gg.2.1).map (askP gs rs gg.1) = ps at ak2
      have lps := Paired.length ak2
      -- path = min(..)
      refine ⟨_, rfl, D, rfl, ⟨_, SqL.of hD2⟩, fun L nL => lc_list (K := K) (a := D) (xs := vs) (fun m H' => Same H2 H' ∧ ∃ ts : List (Addr × List V), H' L = some (.lst (ts.map fun t => V.ref t.1)) ∧ Paired (fun (t : Addr × List V) (p : Str × Pth) => H' t.1 = some (.tup t.2) ∧ t.2 = pathV p.1 p.2) ts (fsOf (ps.take m)))
        ⟨same_new nL, [], upd_same, .nil⟩ (fun m H' _ ⟨s', _⟩ => SqL.of (s' _ _ hD2)) (fun m v H3 hm2 hP => ?_) fun H3 hP => ?_⟩
      · obtain ⟨s3, ts, hL, hts⟩ := hP
        have hml : m < vs.length := (List.getElem?_eq_some_iff.mp hm2).1
        obtain ⟨p, hp, hres⟩ := pair_at ak2 hm2
        obtain ⟨p1, p2⟩ := p
        have stp : fsOf (ps.take (m + 1)) = fsOf (ps.take m) ++ (p2.map fun l => (p1, l)).toList := by
          unfold fsOf
          rw [List.take_add_one, hp, List.filterMap_append]
          cases p2 <;> rfl
        refine ⟨rfl, _, rfl, rfl, _, rfl, ?_⟩
        cases p2 with
        | none =>
          have hres : v = .non := hres
          refine ifF (by simp [hres]) ⟨s3, ts, hL, ?_⟩
          rw [stp]
          show Paired _ ts (fsOf (ps.take m) ++ [])
          rw [List.append_nil]
          exact hts
        | some l =>
          obtain ⟨t, rfl, ht⟩ := hres
          have lts := Paired.length hts
          have lfs : (fsOf (ps.take m)).length ≤ m := by
            unfold fsOf
            refine Nat.le_trans (List.length_filterMap_le ..) ?_
            rw [List.length_take]
            exact Nat.min_le_left _ _
          have nt : ∀ (d : Addr) (ys : List V) (o : HO), H3 d = some (.tup ys) → upd H3 L o d = some (.tup ys) := fun d ys o e => by
            rw [upd_ne (ne_of e hL (by intro q; cases q))]
            exact e
          refine ifT (by simp) ⟨_, rfl, _, hL, ?_, fun d o ed => ?_, ts ++ [(t, pathV p1 l)], ?_, ?_⟩
          · rw [List.length_map]
            exact Nat.lt_of_le_of_lt (show ts.length ≤ 100000 by omega) (by decide)
          · rw [upd_ne (ne_of_none ed nL)]
            exact s3 _ _ ed
          · rw [upd_same, List.map_append]
            rfl
          · rw [stp]
            exact pair_snoc (Paired.mapP hts fun _ _ h => ⟨nt _ _ _ h.1, h.2⟩) ⟨nt _ _ _ (s3 _ _ ht), rfl⟩
      · obtain ⟨s3, ts, hL, hts⟩ := hP
        rw [lps, List.take_length] at hts
        have s23 := s2.trans s3
        have lens : ts.map (fun t => t.2.length) = (fsOf ps).map plen := by
          have : ∀ {ts : List (Addr × List V)} {fs : List (Str × Pth)}, Paired (fun (t : Addr × List V) (p : Str × Pth) => H3 t.1 = some (.tup t.2) ∧ t.2 = pathV p.1 p.2) ts fs → ts.map (fun t => t.2.length) = fs.map plen := fun h => by
            induction h with
            | nil => rfl
            | cons h _ ih =>
              rw [List.map_cons, List.map_cons, ih, h.2]
              rfl
          exact this hts
        have ct : cycT gs rs gg = (bestF (fsOf ps)).map (cycOf gg.1) := by
          unfold cycT
          rw [hps]
        refine ⟨L, ts, rfl, SqL.of hL, fun t ht => ?_, fun e => ?_, fun t ht => ?_⟩
        · obtain ⟨j, hj⟩ := List.getElem?_of_mem ht
          obtain ⟨p, _, h1, _⟩ := pair_at hts hj
          exact SqT.of h1
        · refine ⟨_, rfl, rfl, _, rfl, ifT rfl (q _ .non s23 ?_)⟩
          have : fsOf ps = [] := by
            have l1 := Paired.length hts
            rw [e] at l1
            exact List.length_eq_zero_iff.mp l1.symm
          rw [ct, this]
          exact rfl
        · obtain ⟨p, hp, h1, h2⟩ := pair_at hts ht
          rw [lens] at hp
          obtain ⟨a0, l0⟩ := p
          have cte : cycT gs rs gg = some (cycOf gg.1 (a0, l0)) := by
            rw [ct]
            unfold bestF
            rw [hp]
            rfl
          have lf := best_some (fs := fsOf ps) (f := (a0, l0)) hp
          obtain ⟨b0, k1, k2, k3, k4⟩ := mem_fs.mp (by rw [hps]; exact lf.1)
          obtain ⟨G0, _⟩ := spath_good nd0 hm (hm gg hgg a0 k1) k4
          have len0 := G0.len (hm gg hgg a0 k1)
          have lsz : (pathV a0 l0).length ≤ 300 := by
            rw [pathV_len]
            omega
          have h2 : t.2 = pathV a0 l0 := h2
          rw [h2] at h1
          refine ⟨_, rfl, rfl, _, rfl, ifF rfl ?_⟩
          refine ⟨_, rfl, 1, rfl, t.1, pathV a0 l0, -1, .str (lastOf a0 l0), rfl, rfl, SqT.of h1, pathV_last a0 l0, _, rfl, (by show 2 ≤ sizeLine; decide), fun p1 n1 => ?_⟩
          have z1 := same_new n1 (o := .tup [.str (lastOf a0 l0), .str gg.1])
          have hp1 : upd H3 p1 (.tup [.str (lastOf a0 l0), .str gg.1]) p1 = some (.tup [.str (lastOf a0 l0), .str gg.1]) := upd_same
          have ht1 := z1 _ _ h1
          generalize upd H3 p1 (.tup [.str (lastOf a0 l0), .str gg.1]) = H4 at z1 hp1 ht1 ⊢
          refine ⟨(by show 1 ≤ sizeLine; decide), fun p2 n2 => ?_⟩
          have z2 := same_new n2 (o := .tup [.ref p1])
          have hp2 : upd H4 p2 (.tup [.ref p1]) p2 = some (.tup [.ref p1]) := upd_same
          have ht2 := z2 _ _ ht1
          have hp12 := z2 _ _ hp1
          generalize upd H4 p2 (.tup [.ref p1]) = H5 at z2 hp2 ht2 hp12 ⊢
          have sz1 : (stepL (pathV a0 l0) none (some (-1)) 2).length ≤ sizeLine := by
            rw [step_init, List.length_map]
            simp
            exact Nat.le_trans (show l0.length ≤ 100 by omega) (by decide)
          have sz2 : (stepL (pathV a0 l0) (some 1) none 2).length ≤ sizeLine := by
            rw [step_odd, List.length_map, List.length_map]
            exact Nat.le_trans (show l0.length ≤ 100 by omega) (by decide)
          refine ⟨_, rfl, 1, rfl, -1, rfl, t.1, pathV a0 l0, rfl, rfl, SqT.of ht2, sz1, fun p3 n3 => ?_⟩
          have z3 := same_new n3 (o := .tup (stepL (pathV a0 l0) none (some (-1)) 2))
          refine ⟨_, rfl, 1, rfl, t.1, pathV a0 l0, rfl, rfl, SqT.of (z3 _ _ ht2), sz2, fun p4 n4 => ?_⟩
          have z4 := same_new n4 (o := .tup (stepL (pathV a0 l0) (some 1) none 2))
          refine ⟨p3, p4, _, _, rfl, SqT.of (z4 _ _ upd_same), SqT.of upd_same, fun H6 p us s6 hp6 prs => ?_⟩
          rw [step_init, step_odd] at prs
          have prs2 := pair_zip prs
          have s56 := z3.trans (z4.trans s6)
          have s06 : Same H H6 := s23.trans (z1.trans (z2.trans s56))
          have lus := Paired.length prs2
          have hl0 : us.length = l0.length := by
            rw [lus, List.length_zip]
            simp
          have hus : us.length ≤ 300 := by omega
          have l0pos : l0 ≠ [] := fun z => by
            have e1 := (spath_some hm (hm gg hgg a0 k1) k4).1
            rw [z] at e1
            cases e1
            exact str_irrefl k3 rfl
          refine ⟨p2, p, [.ref p1], us.map V.ref, rfl, rfl, SqT.of (s56 _ _ hp2), SqT.of hp6, ?_, (fun z => nomatch z), fun z _ => ?_, fun _ _ p5 n5 => q _ _ (s06.trans (same_new n5)) ?_⟩
          · rw [List.length_map]
            exact Nat.le_trans (show 1 + us.length ≤ 301 by omega) (by decide)
          · exfalso
            rename_i z2
            first
              | (have := List.map_eq_nil_iff.mp z; rw [this] at hl0; exact l0pos (List.length_eq_zero_iff.mp hl0.symm))
              | (have := List.map_eq_nil_iff.mp z2; rw [this] at hl0; exact l0pos (List.length_eq_zero_iff.mp hl0.symm))
          · rw [cte]
            have z5 := same_new n5 (o := .tup ([.ref p1] ++ us.map V.ref))
            exact ⟨p5, p1 :: us, rfl, upd_same, .cons (z5 _ _ (s56 _ _ hp12)) (Paired.mapP prs2 fun _ _ h => z5 _ _ h)⟩
end
end K12

set_option Elab.async false
set_option linter.all false
set_option maxRecDepth 100000
set_option maxHeartbeats 4000000
namespace K12
open PySem PySem.Spec PyProof.Rows L2 WT
abbrev st_shortest_cycle : Stmt := top 15
theorem sc_shortest_cycle : FnScope ["world", "cycles", "name", "cycle"] ["world"] (defScope st_shortest_cycle) := ⟨rfl, rfl, rfl, by decide +kernel, rfl, by decide +kernel, by decide +kernel⟩
abbrev st_girth : Stmt := top 16
theorem sc_girth : FnScope ["world", "cycle"] ["world"] (defScope st_girth) := ⟨rfl, rfl, rfl, by decide +kernel, rfl, by decide +kernel, by decide +kernel⟩
/-- a world that the program's searches are told of -/
structure WHere (H : Hp) (wa r g : Addr) (as : List Addr) (rs : List Str) (gs : List Gt) : Prop where
  at_ : WorldAt H wa r g as rs gs
  nd : (gs.map (·.1)).Nodup
  rl : rs.length ≤ 100
  gl : gs.length ≤ 100
  each : ∀ g ∈ gs, g.2.1.length ≤ 100 ∧ ∀ y ∈ g.2.1, y ∈ rs
theorem WHere.same {H H' : Hp} {wa r g : Addr} {as : List Addr} {rs : List Str} {gs : List Gt} (h : WHere H wa r g as rs gs) (s : Same H H') : WHere H' wa r g as rs gs := ⟨h.at_.same s, h.nd, h.rl, h.gl, h.each⟩
/-- pairs of texts in memory -/
abbrev PairsAt (H : Hp) : List Addr → List (Str × Str) → Prop := Paired fun u (q : Str × Str) => H u = some (.tup [.str q.1, .str q.2])
theorem cyc_tup {H H' : Hp} {v : V} {o : Option (List (Str × Str))} (h : CycRes H v o) (k : ∀ t xs, H t = some (.tup xs) → H' t = some (.tup xs)) : CycRes H' v o := by
  cases o with
  | none => exact h
  | some l =>
    obtain ⟨p, us, h1, h2, h3⟩ := h
    exact ⟨p, us, h1, k _ _ h2, Paired.mapP h3 fun _ _ z => k _ _ z⟩
section
variable {P : Program} {w : World} {K : PySem.W.Frag} {mg : Str → Option Value} {base : Heap} {f fN fC fS : Addr} {fd fdN fdC fdS : FuncData}
/-- shortest_cycle(world) -/
def spScyc : Sp := fun vs H Q _ => ∃ (wa r g : Addr) (as : List Addr) (rs : List Str) (gs : List Gt), vs = [.ref wa] ∧ WHere H wa r g as rs gs ∧ ∀ (H' : Hp) (v : V), Same H H' → CycRes H' v (scyc gs rs) → Q v H'
theorem ok_shortest_cycle (F : Fun K "shortest_cycle" "shortest_cycle" st_shortest_cycle f fd) (B : Blt mg) (F_wrapping_names : Df P w K mg base "wrapping_names" 1 fN fdN ["world"] spWnames) (F_cycle_through : Df P w K mg base "cycle_through" 3 fC fdC ["world", "name"] spCyc) :
    FnG P w K mg base CX0 4 f fd ["world"] spScyc := by
  refine okG F sc_shortest_cycle (fun vs H Q E h => ?_) (fun cdv A outer s H vs Q E hgd hr h => ?_)
  · obtain ⟨_, _, _, _, _, _, rfl, _⟩ := h
    rfl
  · obtain ⟨wa, r, g, as, rs, gs, rfl, W, q⟩ := h
    refine ⟨_, (pss_cons (ps_setLc (i := 1) (own := [("name", 2)]) (by rfl) sc_shortest_cycle.nd rfl rfl (sw_true rfl rfl rfl (by decide +kernel)) (pi_tup (pe_callG hgd F_wrapping_names.G (hr.mono (by decide)) (by rfl) F_wrapping_names.g F_wrapping_names.kp F_wrapping_names.bd pass0 (pa_cons (pv 0) pa_nil))) (blkOk_by (own := [("name", 2)]) (N := ["world", "cycles", "name", "cycle"]) (sc := defScope st_shortest_cycle) (by decide +kernel)) (fun _ _ _ _ _ => (pg_name (i := 2) sc_shortest_cycle.nd rfl (.inl rfl))) (fun _ _ _ _ _ => pts_nil) (fun _ _ _ _ _ => (pe_callG hgd F_cycle_through.G (hr.mono (by decide)) (by rfl) F_cycle_through.g F_cycle_through.kp F_cycle_through.bd pass0 (pa_cons (pv 0) (pa_cons (pv 2) pa_nil)))))
      (pss_one (ps_ret (pe_minLenI (by rfl) (by rfl) B.min (by rfl) B.len (pa_cons (pe_lc (own := [("cycle", 3)]) (by rfl) sc_shortest_cycle.nd (pi_list (pv 1)) (blkOk_by (own := [("cycle", 3)]) (N := ["world", "cycles", "name", "cycle"]) (sc := defScope st_shortest_cycle) (by decide +kernel)) (fun _ _ _ _ _ => (pg_name (i := 3) sc_shortest_cycle.nd rfl (.inl rfl))) (fun _ _ _ _ _ => (pts_one (pt_cmpR op_notN (pv 3) pe_non (nomark _)))) (fun _ _ _ _ _ => (pv 3))) pa_nil))))), ?_⟩
    have hm : ∀ g ∈ gs, ∀ z ∈ g.2.1, z ∈ rs := fun g hg => (W.each g hg).2
    have hgl := W.gl
    have hrl := W.rl
    refine ⟨_, rfl, wa, r, g, as, rs, gs, rfl, W.at_, W.gl, fun H1 p s1 hp' => ?_⟩
    have hp : H1 p = some (.tup (((wrapsG gs).map fun g : Gt => g.1).map V.str)) := hp'
    have lw : (wrapsG gs).length ≤ gs.length := List.length_filter_le _ _
    refine ⟨p, rfl, ⟨_, SqT.of hp⟩, fun D nD => lc_tup (K := K) (a := p) (xs := ((wrapsG gs).map fun g : Gt => g.1).map V.str) (fun m H' => Same H1 H' ∧ ∃ vs : List V, H' D = some (.lst vs) ∧ Paired (fun v (g : Gt) => CycRes H' v (cycT gs rs g)) vs ((wrapsG gs).take m))
      ⟨same_new nD, [], upd_same, .nil⟩ (fun m H' _ ⟨s', _⟩ => SqT.of (s' _ _ hp)) (fun m v H2 hm2 hP => ?_) fun H2 hP => ?_⟩
    · obtain ⟨s2, vs, hD, pv⟩ := hP
      rw [List.getElem?_map, List.getElem?_map] at hm2
      obtain ⟨n, hn, rfl⟩ := Option.map_eq_some_iff.mp hm2
      obtain ⟨gg, hgg, rfl⟩ := Option.map_eq_some_iff.mp hn
      have ggm : gg ∈ gs := (List.mem_filter.mp (List.mem_of_getElem? hgg)).1
      have W2 := (W.same s1).same s2
      refine ⟨rfl, _, rfl, _, rfl, wa, r, g, as, rs, gs, gg, rfl, W2.at_, ggm, W.nd, W.rl, W.gl, W.each, fun H3 v s3 hv => ?_⟩
      have hD3 := s3 _ _ hD
      have lv := Paired.length pv
      rw [List.length_take] at lv
      have keep : ∀ (t : Addr) (xs : List V) (o : HO), H3 t = some (.tup xs) → upd H3 D o t = some (.tup xs) := fun t xs o e => by
        rw [upd_ne (ne_of e hD3 (by intro q; cases q))]
        exact e
      refine ⟨_, hD3, ?_, fun d o ed => ?_, vs ++ [v], upd_same, ?_⟩
      · exact Nat.lt_of_le_of_lt (show vs.length ≤ 100 by omega) (by decide)
      · rw [upd_ne (ne_of_none ed nD)]
        exact s3 _ _ (s2 _ _ ed)
      · rw [List.take_add_one, hgg]
        exact pair_snoc (Paired.mapP pv fun _ _ h => cyc_tup h fun t xs e => keep _ _ _ (s3 _ _ e)) (cyc_tup hv fun t xs e => keep _ _ _ e)
    · obtain ⟨s2, vs, hD, pv⟩ := hP
      rw [List.length_map, List.length_map, List.take_length] at pv
      have lv := Paired.length pv
      -- min(..)
      refine ⟨_, rfl, D, rfl, ⟨_, SqL.of hD⟩, fun L nL => lc_list (K := K) (a := D) (xs := vs) (fun m H' => Same H2 H' ∧ ∃ ts : List (Addr × List Addr), H' L = some (.lst ((ts.map fun t => (t.1, t.2.map V.ref)).map fun t => V.ref t.1)) ∧ Paired (fun (t : Addr × List Addr) (c : List (Str × Str)) => H' t.1 = some (.tup (t.2.map V.ref)) ∧ PairsAt H' t.2 c) ts (((wrapsG gs).take m).filterMap (cycT gs rs)))
        ⟨same_new nL, [], upd_same, .nil⟩ (fun m H' _ ⟨s', _⟩ => SqL.of (s' _ _ hD)) (fun m v H3 hm2 hP => ?_) fun H3 hP => ?_⟩
      · obtain ⟨s3, ts, hL, hts⟩ := hP
        have hml : m < vs.length := (List.getElem?_eq_some_iff.mp hm2).1
        obtain ⟨gg, hgg, hres⟩ := pair_at pv hm2
        have stp : ((wrapsG gs).take (m + 1)).filterMap (cycT gs rs) = ((wrapsG gs).take m).filterMap (cycT gs rs) ++ (cycT gs rs gg).toList := by
          rw [List.take_add_one, hgg, List.filterMap_append]
          congr 1
        refine ⟨rfl, _, rfl, rfl, _, rfl, ?_⟩
        cases e : cycT gs rs gg with
        | none =>
          rw [e] at hres stp
          have hres : v = .non := hres
          refine ifF (by simp [hres]) ⟨s3, ts, hL, ?_⟩
          rw [stp]
          show Paired _ ts (_ ++ [])
          rw [List.append_nil]
          exact hts
        | some c =>
          rw [e] at hres stp
          obtain ⟨t, us, rfl, ht, hus⟩ := hres
          have lts := Paired.length hts
          have lfs : (((wrapsG gs).take m).filterMap (cycT gs rs)).length ≤ m := by
            refine Nat.le_trans (List.length_filterMap_le ..) ?_
            rw [List.length_take]
            exact Nat.min_le_left _ _
          have nt : ∀ (d : Addr) (ys : List V) (o : HO), H3 d = some (.tup ys) → upd H3 L o d = some (.tup ys) := fun d ys o e => by
            rw [upd_ne (ne_of e hL (by intro q; cases q))]
            exact e
          refine ifT (by simp) ⟨_, rfl, _, hL, ?_, fun d o ed => ?_, ts ++ [(t, us)], ?_, ?_⟩
          · rw [List.length_map, List.length_map]
            exact Nat.lt_of_le_of_lt (show ts.length ≤ 100000 by omega) (by decide)
          · rw [upd_ne (ne_of_none ed nL)]
            exact s3 _ _ ed
          · rw [upd_same, List.map_append, List.map_append]
            rfl
          · rw [stp]
            exact pair_snoc (Paired.mapP hts fun _ _ h => ⟨nt _ _ _ h.1, Paired.mapP h.2 fun _ _ z => nt _ _ _ z⟩) ⟨nt _ _ _ (s3 _ _ ht), Paired.mapP hus fun _ _ z => nt _ _ _ (s3 _ _ z)⟩
      · obtain ⟨s3, ts, hL, hts⟩ := hP
        rw [lv, List.take_length] at hts
        change Paired _ ts (cycsW gs rs) at hts
        have s03 := s1.trans (s2.trans s3)
        have lens : (ts.map fun t => (t.1, t.2.map V.ref)).map (fun t : Addr × List V => t.2.length) = (cycsW gs rs).map List.length := by
          have : ∀ {ts : List (Addr × List Addr)} {cs : List (List (Str × Str))}, Paired (fun (t : Addr × List Addr) (c : List (Str × Str)) => H3 t.1 = some (.tup (t.2.map V.ref)) ∧ PairsAt H3 t.2 c) ts cs → (ts.map fun t => (t.1, t.2.map V.ref)).map (fun t : Addr × List V => t.2.length) = cs.map List.length := fun h => by
            induction h with
            | nil => rfl
            | cons h _ ih =>
              rw [List.map_cons, List.map_cons, List.map_cons, ih]
              congr 1
              rw [List.length_map]
              exact Paired.length h.2
          exact this hts
        refine ⟨L, ts.map (fun t => (t.1, t.2.map V.ref)), rfl, SqL.of hL, fun t ht => ?_, fun e => ?_, fun t ht => ?_⟩
        · obtain ⟨u, hu, rfl⟩ := List.mem_map.mp ht
          obtain ⟨j, hj⟩ := List.getElem?_of_mem hu
          obtain ⟨p, _, h1, _⟩ := pair_at hts hj
          exact SqT.of h1
        · refine q _ .non s03 ?_
          have : cycsW gs rs = [] := by
            have l1 := Paired.length hts
            rw [List.map_eq_nil_iff.mp e] at l1
            exact List.length_eq_zero_iff.mp l1.symm
          unfold scyc
          rw [this]
          exact rfl
        · rw [lens, List.getElem?_map] at ht
          obtain ⟨u, hu, rfl⟩ := Option.map_eq_some_iff.mp ht
          obtain ⟨c, hc, h1, h2⟩ := pair_at hts hu
          refine q _ _ s03 ?_
          unfold scyc
          rw [hc]
          exact ⟨u.1, u.2, rfl, h1, h2⟩
/-- girth(world) -/
def girV : Option (List (Str × Str)) → V
  | none => .non
  | some c => .int c.length
def spGirth : Sp := fun vs H Q _ => ∃ (wa r g : Addr) (as : List Addr) (rs : List Str) (gs : List Gt), vs = [.ref wa] ∧ WHere H wa r g as rs gs ∧ ∀ (H' : Hp), Same H H' → Q (girV (scyc gs rs)) H'
theorem ok_girth (F : Fun K "girth" "girth" st_girth f fd) (B : Blt mg) (F_shortest_cycle : Df P w K mg base "shortest_cycle" 4 fS fdS ["world"] spScyc) : FnG P w K mg base CX0 5 f fd ["world"] spGirth := by
  refine okG F sc_girth (fun vs H Q E h => ?_) (fun cdv A outer s H vs Q E hgd hr h => ?_)
  · obtain ⟨_, _, _, _, _, _, rfl, _⟩ := h
    rfl
  · obtain ⟨wa, r, g, as, rs, gs, rfl, W, q⟩ := h
    refine ⟨_, (pss_cons (ps_set (i := 1) sc_girth.nd rfl (.inl rfl) (pe_callG hgd F_shortest_cycle.G (hr.mono (by decide)) (by rfl) F_shortest_cycle.g F_shortest_cycle.kp F_shortest_cycle.bd pass0 (pa_cons (pv 0) pa_nil)))
      (pss_one (ps_ret (pe_ifExp (pt_cmpR op_isN (pv 1) pe_non (nomark _)) pe_non (pe_callB call_len (by rfl) B.len (by decide +kernel) (pa_cons (pv 1) pa_nil)))))), ?_⟩
    refine ⟨_, rfl, wa, r, g, as, rs, gs, rfl, W, fun H1 v s1 hv => ?_⟩
    have qq := q H1 s1
    cases e : scyc gs rs with
    | none =>
      rw [e] at hv qq
      have hv : v = .non := hv
      subst hv
      exact ⟨_, rfl, rfl, _, rfl, ifT rfl qq⟩
    | some c =>
      rw [e] at hv qq
      obtain ⟨p, us, rfl, h1, h2⟩ := hv
      refine ⟨_, rfl, rfl, _, rfl, ifF rfl ⟨_, rfl, _, c.length, rfl, .inr ⟨_, SqT.of h1, ?_⟩, qq⟩⟩
      rw [List.length_map]
      exact (Paired.length h2).symm
end
end K12

set_option Elab.async false
set_option linter.all false
set_option maxRecDepth 100000
set_option maxHeartbeats 4000000
/-! len(set(xs)), xs a list of different texts. -/
namespace WT
open PySem PySem.Spec PyProof.Rows L2
/-- an empty set -/
abbrev set0 (led : Bool) : Obj := { cls := .type "set", dict := none, data := .set #[] 0 (.fresh 0 0 led) }
abbrev hasIn (ys : List Str) (i : Nat) : Str → Bool := fun y => (ys.take i).any (· == y)
section
variable {P : Program} {w : World} {A : Around} {E : Value → Shared → Prop} {s : Shared}
theorem setOf_kept {h h2 : Heap} {a : Addr} {T : Str → Bool} {n : Nat} (hS : h.SetOf (PySem.strKind P w) a T n) (k : ∀ o, h.get? a = some o → h2.get? a = some o) : h2.SetOf (PySem.strKind P w) a T n := by
  obtain ⟨o, es, ep, tb, ho, r⟩ := hS
  exact ⟨o, es, ep, tb, k o ho, r⟩
theorem fill_texts {I : Addr} {fp wr : List Addr} {G : Array GenState → Array GenState → Prop} {n : Nat} {Pv : Nat → Value → Prop} {St : Nat → Shared → Prop} {R : Result → Shared → Prop} (W : WalksS P w A.in1 I fp wr G n Pv St) (a : Addr) (na : a ∉ fp) (ys : List Str) (nd : ys.Nodup) (en : n = ys.length) (room : ys.length + 1 < scanBound)
    (hv : ∀ i v, Pv i v → ∃ y t, ys[i]? = some y ∧ v = .str y t) : ∀ (k i : Nat) (s : Shared), n - i = k → i ≤ n → St i s → s.heap.SetOf (PySem.strKind P w) a (hasIn ys i) i →
      (∀ s2, Moved (a :: wr) G s s2 → s2.heap.SetOf (PySem.strKind P w) a (hasIn ys n) n → R (.ok (.ret .none)) s2) → codeAny (model P w) A (.builtin "set.update.loop" ⟨[.ref a, .ref I], []⟩) R s := by
  have nw : a ∉ wr := fun z => na (W.sub _ z)
  have more : ∀ b ∈ wr, b ∈ a :: wr := fun b z => List.mem_cons_of_mem _ z
  intro k
  induction k with
  | zero =>
    intro i s e1 e2 st hS q
    obtain rfl : i = n := by omega
    refine codeAny_builtin PyProof.Rows.F.entry_set_update_loop ?_
    rw [Around.under_plainId PyProof.Rows.F.plain_set_update_loop _]
    show wpAny (model P w) A.in1 (pyNext (.ref I) >>= _) _ _ s
    refine wpAny_bind (W.done s _ _ st fun s2 mv => ?_)
    show wpAny (model P w) A.in1 (ret Value.none) _ _ s2
    exact wpAny_pure (q s2 (mv.mono more) (setOf_kept hS fun o z => mv.heap a o nw z))
  | succ k ih =>
    intro i s e1 e2 st hS q
    have lt : i < n := by omega
    refine codeAny_builtin PyProof.Rows.F.entry_set_update_loop ?_
    rw [Around.under_plainId PyProof.Rows.F.plain_set_update_loop _]
    show wpAny (model P w) A.in1 (pyNext (.ref I) >>= _) _ _ s
    refine wpAny_bind (W.item i s _ _ lt st fun v s2 pv st2 mv => ?_)
    obtain ⟨y, t, hy, rfl⟩ := hv i v pv
    have hS2 := setOf_kept hS fun o z => mv.heap a o nw z
    show wpAny (model P w) A.in1 (holding [Value.str y t] (setAdd a (.str y t)) >>= _) _ _ s2
    refine wpAny_bind (wpAny_holding ?_)
    unfold setAdd
    refine wpAny_holding (wpAny_bind ((PySem.strKind P w).pyHash (k := y) (strKind_is _ _ _ _) ?_))
    refine wpAny_setAddHashed_of (knd := PySem.strKind P w) (s := { s2 with toks := s2.toks + 1 }) (strKind_is _ _ _ _) rfl hS2 (by omega) fun h3 sb hS3 => ?_
    have newY : hasIn ys i y = false := by
      refine Bool.eq_false_iff.mpr fun z => ?_
      obtain ⟨x, hx, ex⟩ := List.any_eq_true.mp z
      have ex : x = y := beq_iff_eq.mp ex
      obtain ⟨j, hj, e3⟩ := List.getElem_of_mem hx
      rw [List.length_take] at hj
      have hi := (List.getElem?_eq_some_iff.mp hy).1
      have e4 : ys[j]'(by omega) = ys[i] := by
        rw [(List.getElem?_eq_some_iff.mp hy).2, ← ex, ← e3, List.getElem_take]
      exact (List.pairwise_iff_getElem.mp nd j i (by omega) hi (by omega)) e4
    rw [newY, if_neg Bool.false_ne_true] at hS3
    have hS4 : h3.SetOf (PySem.strKind P w) a (hasIn ys (i + 1)) (i + 1) := by
      refine SetOf_congr hS3 (fun z => ?_) rfl
      show ((ys.take i).any (· == z) || decide (z = y)) = (ys.take (i + 1)).any (· == z)
      rw [List.take_add_one, hy, List.any_append]
      congr 1
      show decide (z = y) = ((y == z) || false)
      rw [Bool.or_false]
      by_cases c : z = y
      · subst c
        simp
      · have c2 : ¬ y = z := fun q => c q.symm
        rw [decide_eq_false c, beq_eq_false_iff_ne.mpr c2]
    refine wpAny_pure ⟨plainId_quiet PyProof.Rows.F.plain_set_update_loop _, ih (i + 1) _ (by omega) lt (W.frame _ s2 _ _ st2 (Nat.le_succ _) fun b hb o z => ?_) hS4 fun s4 mv4 hS5 => ?_⟩
    · rw [sb.2 b (fun z2 : b = a => na (by rw [← z2]; exact hb))]
      exact z
    · refine q s4 (Moved.trans W.gtrans ((mv.mono more).then_heap (Nat.le_succ _) fun b o hb z => ?_) mv4) hS5
      rw [sb.2 b (fun z2 : b = a => hb (by rw [z2]; exact List.mem_cons_self))]
      exact z
theorem set_of_texts {l : Addr} {its : Array Value} {ys : List Str} {Q : Value → Shared → Prop} (calm : A.handled = none) (hl : s.heap.IsList l its) (hi : StrsAre its.toList ys) (nd : ys.Nodup) (room : ys.length + 1 < scanBound)
    (q : ∀ (h2 : Heap) (tk : Nat), h2.SetOf (PySem.strKind P w) s.heap.objs.size (hasIn ys ys.length) ys.length → (∀ b o, b < s.heap.objs.size → s.heap.get? b = some o → h2.get? b = some o) → Q (.ref s.heap.objs.size) { s with heap := h2, toks := tk }) :
    wpAny (model P w) A (call (.type "set") [.ref l]) Q E s := by
  have esz : ys.length = its.size := by rw [← PyProof.Rows.StrsAre.len_eq hi, Array.length_toList]
  have ⟨c1, c2, hmr⟩ := PySem.F.called_set.mro
  have hm1 := PySem.F.called_set.made; have hm2 := PySem.F.called_set.sub
  refine wpAny_call (codeAny_of_tree ?_); show wpAny _ _ (callAny (.type "set") _) _ _ _
  refine wpAny_pure ⟨Code.quiet_builtin _ (by decide +kernel), codeAny_builtin PySem.F.entry_type_call ?_⟩
  rw [Around.under_plain (weight_type_call_type "set" [.ref l] []) (by rfl)]
  have hm3 := PySem.F.called_set.notType; have hm4 := PySem.F.called_set.canCreate
  have hm5 := PySem.F.typeCall_set_1 (.ref l)
  repeat (any_goals (first | assumption | wp_step))
  refine codeAny_mono (PySem.code_set_new_1 (.ref l) (E := E) (Q₁ := fun ob s1 => ∃ led : Bool, ob = .ref s.heap.objs.size ∧ s1 = { s with heap := s.heap.push (set0 led) }) fun led => ⟨led, rfl, rfl⟩) fun r s1 hr => ?_
  cases r with
  | error e => exact hr
  | ok fl =>
    cases fl with
    | ret ob =>
      obtain ⟨led, rfl, rfl⟩ := hr
      have hS : (s.heap.push (set0 led)).get? s.heap.objs.size = some (set0 led) := Heap.get?_push_size _ rfl
      have hT : Shared.TypeIs { s with heap := s.heap.push (set0 led) } (.ref s.heap.objs.size) "set" := ⟨_, hS, rfl⟩
      have hm6 := PySem.F.called_set.init.lookup; have hm7 := PySem.F.called_set.init.bind (.ref s.heap.objs.size)
      repeat (any_goals (first | assumption | wp_step))
      refine codeAny_mono (codeAny_call_builtin (R := wants (fun r s2 => r = .none ∧ ∃ h2 tk, s2 = { s with heap := h2, toks := tk } ∧ h2.SetOf (PySem.strKind P w) s.heap.objs.size (hasIn ys ys.length) ys.length ∧
          (∀ b o, b < s.heap.objs.size → s.heap.get? b = some o → h2.get? b = some o)) E) PySem.F.called_set.init.plain PySem.F.entry_set_init (PySem.check_set_init_1 hT ?_)) fun r2 s2 hr2 => ?_
      · have ⟨⟨ocl, odi, oda, osl⟩, hol, hcl, nl, hdl⟩ := hl
        simp only at hcl hdl
        subst hcl hdl
        have hol2 : (s.heap.push (set0 led)).get? l = some { cls := .type "list", dict := odi, data := .seq its nl, slots := osl } := Heap.get?_push_of_some _ hol
        have hm8 := PySem.F.sub_list_set; have hm9 := PySem.F.sub_list_frozenset
        have hm10 : (Value.type "list" == Value.type "dict") = false := by decide
        have hl2 : (s.heap.push (set0 led)).IsList l its := ⟨_, hol2, rfl, nl, rfl⟩
        unfold Builtin.«set.__init__» noKeywords Builtin.Frozenset.updateFrom
        generalize hIt : pyIter = It
        wp_walk
        subst hIt
        refine wpAny_pyIter_list hl2 (wpAny_bind (wpAny_runValue ?_))
        have lo : l < s.heap.objs.size := Heap.lt_size hol
        have calm3 : A.in1.in1.in1.handled = none := by simp [calm]
        have nl2 : l ≠ (s.heap.push (set0 led)).objs.size := by
          rw [Heap.size_push]
          exact Nat.ne_of_lt (Nat.lt_succ_of_lt lo)
        have nf : s.heap.objs.size ∉ [(s.heap.push (set0 led)).objs.size, l] := by
          rw [Heap.size_push]
          simp only [List.mem_cons, List.not_mem_nil, or_false, not_or]
          exact ⟨Nat.ne_of_lt (Nat.lt_succ_self _), Nat.ne_of_gt lo⟩
        have vals : ∀ (i : Nat) (v : Value), its[i]? = some v → ∃ y t, ys[i]? = some y ∧ v = .str y t := fun i v z => by
          have hlt : i < ys.length := by
            have := (Array.getElem?_eq_some_iff.mp z).1
            omega
          obtain ⟨t, e⟩ := SS.strs_at hi i v (by rw [Array.getElem?_toList]; exact z)
          rw [List.getD_eq_getElem?_getD, List.getElem?_eq_getElem hlt] at e
          exact ⟨ys[i], t, List.getElem?_eq_getElem hlt, e⟩
        refine fill_texts ((Walks.list calm3 _ l nl2 its).toS) s.heap.objs.size nf ys nd esz.symm room vals (its.size - 0) 0 _ (by omega) (Nat.zero_le _) ⟨⟨_, Heap.get?_push_size _ rfl, rfl, rfl⟩, (hl2.push _)⟩ ?hA ?hB
        case hA =>
          have hg : ((s.heap.push (set0 led)).push { cls := .type "list_iterator", data := .fields #[.ref l, .int 0 0] }).get? s.heap.objs.size = some (set0 led) := Heap.get?_push_of_some _ hS
          exact SetOf_congr ((setObjOf_fresh (knd := PySem.strKind P w) led).setOf hg (by unfold scanBound; omega)) (fun _ => rfl) rfl
        case hB =>
          intro s3 mv hS3
          obtain ⟨h3, g3, d3, tk3, os3⟩ := s3
          obtain rfl : g3 = s.gens := mv.gens
          obtain rfl : d3 = s.drawn := mv.drawn
          obtain rfl : os3 = s.os := mv.os
          show wpAny (model P w) _ _ _ _ _
          refine wpAny_pure ?_
          show wpAny (model P w) _ (ret Value.none) _ _ _
          refine wpAny_pure ⟨rfl, h3, tk3, rfl, by rw [← esz] at hS3; exact hS3, fun b o lt z => ?_⟩
          refine mv.heap b o ?_ (Heap.get?_push_of_some _ (Heap.get?_push_of_some _ z))
          rw [Heap.size_push]
          simp only [List.mem_cons, List.not_mem_nil, or_false, not_or]
          exact ⟨Nat.ne_of_lt lt, Nat.ne_of_lt (Nat.lt_succ_of_lt lt)⟩
      · cases r2 with
        | error e => exact hr2
        | ok fl2 =>
          cases fl2 with
          | ret r =>
            obtain ⟨rfl, h2, tk, rfl, hS2, k2⟩ := hr2
            repeat (any_goals (first | assumption | wp_step))
            exact q _ _ hS2 k2
          | _ => exact hr2.elim
    | _ => exact hr.elim
end
section
variable {X : Cx} {K : PySem.W.Frag}
/-- len(set(xs)) -/
def tLenSetS (K : PySem.W.Frag) (ta : TE) : TE := fun σ H Q => ta σ H fun x H1 => ∃ (l : Addr) (ys : List Str), x = .ref l ∧ SqL K H1 l (ys.map V.str) ∧ ys.Nodup ∧ ys.length < 64 ∧ Q (.int ys.length) H1
theorem pe_lenSetS {a : Expr} {ta : TE} {p p2 q pos : Pos} (calm : X.calm = true) (hg : Gl X "len") (hm : X.mg "len" = none) (hg2 : Gl X "set") (hm2 : X.mg "set" = none) (ha : PE X a ta) (hK : X.K = K := by rfl)
    (na : starEach [a] X.env = (false, eval a X.env) :: starEach [] X.env := by rfl) : PE X (.Call (.Name "len" p) [.Call (.Name "set" p2) [a] [] q] [] pos) (tLenSetS K ta) := by
  subst hK
  refine ⟨fun pins s σ H Q I h => Call_ (ld_blt I hg hm PySem.boot_len ?_)⟩
  refine PyProof.Rows.callWith_builtin1 (PyProof.Rows.args_cons (Call_ (ld_blt I hg2 hm2 PyProof.Rows.boot_set ?_)) rfl) rfl rfl
  refine PyProof.Rows.callWith_type1 (PyProof.Rows.args_cons (thn (ha.run pins s σ H _ I h) fun v s1 ⟨x, H1, I1, r1, z⟩ => PyProof.Rows.args_nil ?_) na) na rfl
  obtain ⟨l, ys, rfl, hq, nd, few, z⟩ := z
  cases r1
  obtain ⟨its, rv, pl, _⟩ := I1.list hq
  refine set_of_texts (I1.ok.hd calm) pl.isList (by simpa using strsAre_of rv) nd (by unfold scanBound; omega) fun h2 tk hS k2 => PyProof.Rows.args_nil ?_
  obtain ⟨o, es, ep, t, ho, hex, hd, _, _, _, hf, hn⟩ := hS
  have I2 : Inv X pins σ H1 { s1 with heap := h2, toks := tk } := I1.kept fun b o e => k2 b o (Heap.lt_size e) e
  exact call_len_set ho hex hd hf (by rw [hn]; omega) ⟨.int ys.length, H1, I2.tok _, ⟨_, by rw [hn]⟩, z⟩
end
end WT

set_option Elab.async false
set_option linter.all false
set_option maxRecDepth 100000
set_option maxHeartbeats 4000000
/-! for x, y, z in zip(a, b, c), three lists. -/
namespace WT
open PySem PySem.Spec PyProof.Rows L2
/-- the three lists as they stand, the items in new triples -/
def It3 (K : PySem.W.Frag) (a b c : Addr) : It where
  go i H := ∃ (xs ys zs : List V) (x y z : V), (SqL K H a xs ∧ xs[i]? = some x) ∧ (SqL K H b ys ∧ ys[i]? = some y) ∧ SqL K H c zs ∧ zs[i]? = some z
  yld i H v H' := ∃ T x y z, v = .ref T ∧ H T = none ∧ H' = upd H T (.tup [x, y, z]) ∧ (∀ l, SqL K H a l → l[i]? = some x) ∧ (∀ l, SqL K H b l → l[i]? = some y) ∧ ∀ l, SqL K H c l → l[i]? = some z
  stop i H := ∃ xs ys zs : List V, (SqL K H a xs ∧ i ≤ xs.length) ∧ (SqL K H b ys ∧ i ≤ ys.length) ∧ (SqL K H c zs ∧ i ≤ zs.length) ∧ (i = xs.length ∨ i = ys.length ∨ i = zs.length)
/-- the cells of the zip -/
structure Sep3 (z TI TO i1 i2 i3 a b c : Addr) : Prop where
  sep : ZipSep3 z TI TO i1 i2 i3 [i1, a] [i2, b] [i3, c]
  n1 : a ≠ i1
  n2 : b ≠ i2
  n3 : c ≠ i3
def tn3 (z TI TO i1 i2 i3 a b c : Addr) (i : Nat) (h : Heap) : Prop := IsZip h z TI TO .none ∧ IsTupOf3 h TI (.ref i1) (.ref i2) (.ref i3) ∧ (∃ u1 u2 u3, IsTupOf3 h TO u1 u2 u3) ∧ h.IsListIter i1 a i ∧ h.IsListIter i2 b i ∧ h.IsListIter i3 c i
theorem turn3 {P : Program} {w : World} {K : PySem.W.Frag} {ets : List Expr} {q : Nat} {tp : Pos} {a b c z TI TO i1 i2 i3 : Addr} (D : Sep3 z TI TO i1 i2 i3 a b c) :
    Turn P w K (.Tuple ets q tp) (It3 K a b c) [z, TI, TO, i1, i2, i3] z (tn3 z TI TO i1 i2 i3 a b c) where
  mem := List.mem_cons_self
  obj := fun i h st d hd => by
    obtain ⟨hz, hTI, ⟨_, _, _, hTO⟩, ⟨o1, e1, _, d1⟩, ⟨o2, e2, _, d2⟩, ⟨o3, e3, _, d3⟩⟩ := st
    simp only [List.mem_cons, List.not_mem_nil, or_false] at hd
    rcases hd with rfl | rfl | rfl | rfl | rfl | rfl
    · exact ⟨_, hz, fun v z => nomatch z⟩
    · exact ⟨_, hTI, fun v z => nomatch z⟩
    · exact ⟨_, hTO, fun v z => nomatch z⟩
    · exact ⟨o1, e1, fun v z => by rw [d1] at z; cases z⟩
    · exact ⟨o2, e2, fun v z => by rw [d2] at z; cases z⟩
    · exact ⟨o3, e3, fun v z => by rw [d3] at z; cases z⟩
  keep := fun i h h' st k => by
    obtain ⟨hz, hTI, ⟨u1, u2, u3, hTO⟩, s1, s2, s3⟩ := st
    exact ⟨k z (by simp) _ hz, k TI (by simp) _ hTI, ⟨u1, u2, u3, k TO (by simp) _ hTO⟩, s1.at fun o z => k i1 (by simp) o z, s2.at fun o z => k i2 (by simp) o z, s3.at fun o z => k i3 (by simp) o z⟩
  item := by
    intro X hP hw hK calm i pins s σ H E I hf st hg
    subst hP hw hK
    obtain ⟨hz, hTI, ⟨w1, w2, w3, hTO⟩, s1, s2, s3⟩ := st
    obtain ⟨xs, ys, zs, x, y, z0, ⟨q1, e1⟩, ⟨q2, e2⟩, q3, e3⟩ := hg
    obtain ⟨t1, r1, l1, _⟩ := I.list q1
    obtain ⟨t2, r2, l2, _⟩ := I.list q2
    obtain ⟨t3, r3, l3, _⟩ := I.list q3
    obtain ⟨u1, a1, b1⟩ := r1.get e1
    obtain ⟨u2, a2, b2⟩ := r2.get e2
    obtain ⟨u3, a3, b3⟩ := r3.get e3
    have calm1 : X.A.in1.handled = none := by simp [I.ok.hd calm]
    have zl : z < s.heap.objs.size := Heap.lt_size hz
    have lt1 := (List.getElem?_eq_some_iff.mp a1).1
    have lt2 := (List.getElem?_eq_some_iff.mp a2).1
    have lt3 := (List.getElem?_eq_some_iff.mp a3).1
    refine wpAny_pyNext_zipD3_item D.sep (Draws.list calm1 i1 a D.n1 t1.toArray) (Draws.list calm1 i2 b D.n2 t2.toArray) (Draws.list calm1 i3 c D.n3 t3.toArray) hz hTI hTO ⟨s1, l1.isList⟩ ⟨s2, l2.isList⟩ ⟨s3, l3.isList⟩ (by simpa using lt1) (by simpa using lt2) (by simpa using lt3)
      fun v1 v2 v3 h2 tk p1 p2 p3 z2 TO2 k1 k2 k3 hT hsz keep => ?_
    have p1 : t1[i]? = some v1 := by simpa using p1
    have p2 : t2[i]? = some v2 := by simpa using p2
    have p3 : t3[i]? = some v3 := by simpa using p3
    obtain rfl : u1 = v1 := by rw [a1] at p1; exact Option.some.inj p1
    obtain rfl : u2 = v2 := by rw [a2] at p2; exact Option.some.inj p2
    obtain rfl : u3 = v3 := by rw [a3] at p3; exact Option.some.inj p3
    refine ⟨_, rfl, wpAny_letOwnedTupleGo_zip (s := { s with heap := h2, toks := tk }) z2 fun h3 z3 sb => ?_⟩
    have hT3 : h3.get? s.heap.objs.size = some { cls := .type "tuple", data := .seq #[u1, u2, u3] } := (sb.2 _ (Nat.ne_of_gt zl)).trans hT
    have new : ObjOk X.prog X.w (upd H s.heap.objs.size (.tup [x, y, z0])) h3 s.heap.objs.size (.tup [x, y, z0]) := ⟨by show 3 ≤ sizeLine; decide, [u1, u2, u3], .cons b1 (.cons b2 (.cons b3 .nil)), ⟨_, hT3, rfl, _, rfl⟩⟩
    have I3 : Inv X pins σ (upd H s.heap.objs.size (.tup [x, y, z0])) { s with heap := h3, toks := tk } := by
      refine I.turnedNew (t' := tk) (ch := [z, TI, TO, i1, i2, i3]) (fun d o hd e => ?_) hf (Nat.le_refl _) new
      simp only [List.mem_cons, List.not_mem_nil, or_false, not_or] at hd
      exact (sb.2 d hd.1).trans (keep d o hd.1 hd.2.2.1 hd.2.2.2.1 hd.2.2.2.2.1 hd.2.2.2.2.2 e)
    refine ⟨.ref s.heap.objs.size, _, I3, rfl, ⟨_, x, y, z0, rfl, I.hok.fresh (Nat.le_refl _), rfl, fun l hl => by rw [I.list_inj hl q1]; exact e1, fun l hl => by rw [I.list_inj hl q2]; exact e2, fun l hl => by rw [I.list_inj hl q3]; exact e3⟩, ⟨z3, ?_, ⟨u1, u2, u3, ?_⟩, ?_, ?_, ?_⟩, fun d hd => ?_⟩
    · exact (sb.2 _ D.sep.TIz).trans (keep _ _ D.sep.TIz D.sep.TITO D.sep.TIi1 D.sep.TIi2 D.sep.TIi3 hTI)
    · exact (sb.2 _ D.sep.TOz).trans TO2
    · exact k1.1.at fun o e => (sb.2 _ (Ne.symm D.sep.zi1)).trans e
    · exact k2.1.at fun o e => (sb.2 _ (Ne.symm D.sep.zi2)).trans e
    · exact k3.1.at fun o e => (sb.2 _ (Ne.symm D.sep.zi3)).trans e
    · have lt : d < s.heap.objs.size := by
        simp only [List.mem_cons, List.not_mem_nil, or_false] at hd
        rcases hd with rfl | rfl | rfl | rfl | rfl | rfl
        · exact zl
        · exact Heap.lt_size hTI
        · exact Heap.lt_size hTO
        · obtain ⟨_, e, _⟩ := s1
          exact Heap.lt_size e
        · obtain ⟨_, e, _⟩ := s2
          exact Heap.lt_size e
        · obtain ⟨_, e, _⟩ := s3
          exact Heap.lt_size e
      rw [upd_ne (Nat.ne_of_lt lt)]
      exact (hf d hd).1
  done := by
    intro X hP hw hK calm i pins s σ H E I hf st hg
    subst hP hw hK
    obtain ⟨hz, hTI, ⟨w1, w2, w3, hTO⟩, s1, s2, s3⟩ := st
    obtain ⟨xs, ys, zs, ⟨q1, e1⟩, ⟨q2, e2⟩, ⟨q3, e3⟩, hend⟩ := hg
    obtain ⟨t1, r1, l1, _⟩ := I.list q1
    obtain ⟨t2, r2, l2, _⟩ := I.list q2
    obtain ⟨t3, r3, l3, _⟩ := I.list q3
    have m1 := r1.length
    have m2 := r2.length
    have m3 := r3.length
    have calm1 : X.A.in1.handled = none := by simp [I.ok.hd calm]
    refine wpAny_pyNext_zipD3_end D.sep (Draws.list calm1 i1 a D.n1 t1.toArray) (Draws.list calm1 i2 b D.n2 t2.toArray) (Draws.list calm1 i3 c D.n3 t3.toArray) hz hTI hTO ⟨s1, l1.isList⟩ ⟨s2, l2.isList⟩ ⟨s3, l3.isList⟩ (by simp; omega) (by simp; omega) (by simp; omega) (by simp; omega)
      fun h2 tk keep => ⟨rfl, I.turnedL (t' := tk) (ch := [z, TI, TO, i1, i2, i3]) (fun d o hd e => ?_) hf⟩
    simp only [List.mem_cons, List.not_mem_nil, or_false, not_or] at hd
    exact keep d o hd.1 hd.2.2.1 hd.2.2.2.1 hd.2.2.2.2.1 hd.2.2.2.2.2 e
  self := fun A i s Q E st h => wpAny_pyIter_zip st.1 h
theorem sep3_mk (n a b c : Nat) (la : a < n) (lb : b < n) (lc : c < n) : Sep3 (n + 5) (n + 3) (n + 4) n (n + 1) (n + 2) a b c := by
  refine ⟨⟨?_, ?_, ?_, ?_, ?_, ?_, ?_, ?_, ?_, ?_, ?_, ?_, ?_, ?_, ?_, ?_, ?_, ?_, ?_, ?_, ?_⟩, ?_, ?_, ?_⟩ <;>
    first
      | exact fun (h : @Eq Nat _ _) => by omega
      | exact List.mem_cons_self
      | (simp only [List.mem_cons, List.not_mem_nil, or_false, not_or]; exact ⟨fun (h : @Eq Nat _ _) => by omega, fun (h : @Eq Nat _ _) => by omega⟩)
def iZip3 (K : PySem.W.Frag) (ta : TA) : TI := fun σ H R => ta σ H fun vs H1 => ∃ a b c xs ys zs, vs = [.ref a, .ref b, .ref c] ∧ SqL K H1 a xs ∧ SqL K H1 b ys ∧ SqL K H1 c zs ∧ R (It3 K a b c) H1
theorem pi_zip3 {X : Cx} {e e2 e3 : Expr} {ta : TA} {p pos tp : Pos} {ets : List Expr} {kk : Nat} (hg : Gl X "zip") (hm : X.mg "zip" = none) (ha : PA X [e, e2, e3] ta)
    (hs : starEach [e, e2, e3] X.env = (false, eval e X.env) :: starEach [e2, e3] X.env := by rfl) (hpl : (backTo pos (starEach [e2, e3] X.env)).any (·.1) = false := by rfl) :
    PI X (.Tuple ets kk tp) (.Call (.Name "zip" p) [e, e2, e3] [] pos) (iZip3 X.K ta) := by
  refine ⟨fun pins s σ H R I h => Call_ (ld_blt I hg hm PyProof.Rows.boot_zip (PyProof.Rows.callWith_type1 (thn (ha.run pos pins s σ H _ I h) fun us s1 ⟨vs, H1, I1, rv, q1⟩ => ?_) hs hpl))⟩
  obtain ⟨a, b, c, xs, ys, zs, rfl, q1, q2, q3, q⟩ := q1
  cases rv with
  | cons r rv =>
    cases rv with
    | cons r' rv =>
      cases rv with
      | cons r'' rv =>
        cases rv
        cases r
        cases r'
        cases r''
        obtain ⟨t1, _, l1, _⟩ := I1.list q1
        obtain ⟨t2, _, l2, _⟩ := I1.list q2
        obtain ⟨t3, _, l3, _⟩ := I1.list q3
        have la : a < s1.heap.objs.size := l1.lt
        have lb : b < s1.heap.objs.size := l2.lt
        have lc : c < s1.heap.objs.size := l3.lt
        refine zip_begins3 (begins_list a t1.toArray) (begins_list b t2.toArray) (begins_list c t3.toArray) l1.isList l2.isList l3.isList fun h2 hz hTI hTO g1 g2 g3 hsz keep => wpAny_pyIter_zip hz ?_
        have I2 : Inv X pins σ H1 { s1 with heap := h2 } := I1.kept (t' := s1.toks) keep
        refine ⟨s1.heap.objs.size + 5, [s1.heap.objs.size + 5, s1.heap.objs.size + 3, s1.heap.objs.size + 4, s1.heap.objs.size, s1.heap.objs.size + 1, s1.heap.objs.size + 2], _, _, H1, rfl, I2, turn3 (sep3_mk s1.heap.objs.size a b c la lb lc), ⟨hz, hTI, ⟨_, _, _, hTO⟩, ⟨_, g1, rfl, rfl⟩, ⟨_, g2, rfl, rfl⟩, ⟨_, g3, rfl, rfl⟩⟩, fun d hd => ?_, q⟩
        have le : s1.heap.objs.size ≤ d := by
          simp only [List.mem_cons, List.not_mem_nil, or_false] at hd
          rcases hd with rfl | rfl | rfl | rfl | rfl | rfl
          · exact Nat.le_add_right _ _
          · exact Nat.le_add_right _ _
          · exact Nat.le_add_right _ _
          · exact Nat.le_refl _
          · exact Nat.le_add_right _ _
          · exact Nat.le_add_right _ _
        exact I1.fpOk le (I1.hok.fresh le)
def YTrip (xs ys zs : List V) : Nat → Hp → V → Hp → Prop := fun i H v H' => ∃ T x y z, v = .ref T ∧ H T = none ∧ H' = upd H T (.tup [x, y, z]) ∧ xs[i]? = some x ∧ ys[i]? = some y ∧ zs[i]? = some z
theorem walk_zip3 {K : PySem.W.Frag} {a b c : Addr} {xs ys zs : List V} {n : Nat} (hn : n = min (min xs.length ys.length) zs.length) : Walk (It3 K a b c) n (fun H => SqL K H a xs ∧ SqL K H b ys ∧ SqL K H c zs) (YTrip xs ys zs) := by
  subst hn
  refine ⟨fun i _ hi q => ?_, fun _ q => ⟨xs, ys, zs, ⟨q.1, by omega⟩, ⟨q.2.1, by omega⟩, ⟨q.2.2, by omega⟩, by omega⟩, fun i H v H' _ q y => ?_⟩
  · have h1 : i < xs.length := by omega
    have h2 : i < ys.length := by omega
    have h3 : i < zs.length := by omega
    exact ⟨xs, ys, zs, xs[i], ys[i], zs[i], ⟨q.1, by simp [h1]⟩, ⟨q.2.1, by simp [h2]⟩, q.2.2, by simp [h3]⟩
  · obtain ⟨T, x, y, z, h1, h2, h3, h4, h5, h6⟩ := y
    exact ⟨T, x, y, z, h1, h2, h3, h4 xs q.1, h5 ys q.2.1, h6 zs q.2.2⟩
end WT

set_option Elab.async false
set_option linter.all false
set_option maxRecDepth 100000
set_option maxHeartbeats 4000000
namespace K12
open PySem PySem.Spec PyProof.Rows L2 WT
abbrev st_is_pair : Stmt := top 10
theorem sc_is_pair : FnScope ["value"] ["value"] (defScope st_is_pair) := ⟨rfl, rfl, rfl, by decide +kernel, rfl, by decide +kernel, by decide +kernel⟩
abbrev st_are_different : Stmt := top 8
theorem sc_are_different : FnScope ["values", "known", "value"] ["values", "known"] (defScope st_are_different) := ⟨rfl, rfl, rfl, by decide +kernel, rfl, by decide +kernel, by decide +kernel⟩
abbrev st_are_joined : Stmt := top 9
theorem sc_are_joined : FnScope ["world", "regions", "names", "before", "name", "behind", "those"] ["world", "regions", "names"] (defScope st_are_joined) := ⟨rfl, rfl, rfl, by decide +kernel, rfl, by decide +kernel, by decide +kernel⟩
abbrev st_is_cycle : Stmt := top 11
theorem sc_is_cycle : FnScope ["world", "value", "regions", "names", "pair"] ["world", "value"] (defScope st_is_cycle) := ⟨rfl, rfl, rfl, by decide +kernel, rfl, by decide +kernel, by decide +kernel⟩
theorem all_true : ∀ n : Nat, (List.replicate n true).all id = true
  | 0 => rfl
  | n + 1 => by
    rw [List.replicate_succ, List.all_cons, all_true n]
    rfl
theorem cut_from (ys : List Str) (k : Nat) (h : k ≤ ys.length) : cutV (ys.map V.str) (some (k : Int)) none = (ys.drop k).map V.str := by
  unfold cutV
  rw [HT.sIx_nat, HT.sIx_none, List.length_map, Nat.min_eq_left h, ← List.map_drop]
  exact List.take_of_length_le (by rw [List.length_map, List.length_drop]; exact Nat.le_refl _)
section
variable {P : Program} {w : World} {K : PySem.W.Frag} {mg : Str → Option Value} {base : Heap} {f fM fP fD fG fJ : Addr} {fd fdM fdP fdD fdG fdJ : FuncData}
def spPair : Sp := fun vs H Q _ => ∃ (u : Addr) (a b : V), vs = [.ref u] ∧ H u = some (.tup [a, b]) ∧ Q (.bl true) H
theorem ok_is_pair (F : Fun K "is_pair" "is_pair" st_is_pair f fd) (B : Blt mg) (hisi : mg "isinstance" = none) : FnG P w K mg base CX0 1 f fd ["value"] spPair := by
  refine okG F sc_is_pair (fun vs H Q E h => ?_) (fun cdv A outer s H vs Q E hgd hr h => ?_)
  · obtain ⟨_, _, _, rfl, _⟩ := h
    rfl
  · obtain ⟨u, a, b, rfl, hu, q⟩ := h
    refine ⟨_, (pss_one (ps_ret (pe_and (pe_callB call_isi (by rfl) hisi (by decide +kernel) (pa_cons (pv 0) (pa_cons (pe_bltn (v := .ty "tuple") (by rfl) B.tuple (by decide +kernel) rfl) pa_nil))) (pe_one (pe_cmpR op_eq (pe_callB call_len (by rfl) B.len (by decide +kernel) (pa_cons (pv 0) pa_nil)) pe_int (nomark _)))))), ?_⟩
    refine ⟨_, rfl, _, _, .type "tuple", .type "tuple", true, rfl, .ty "tuple", .base (.tup hu), kit_ty (by rfl), _, rfl, ifT rfl ?_⟩
    refine ⟨_, rfl, _, 2, rfl, .inr ⟨_, SqT.of hu, rfl⟩, rfl, ?_⟩
    rw [show decide (V.int ((2 : Nat) : Int) = V.int 2) = true from decide_eq_true rfl]
    exact q
def spDiff (K : PySem.W.Frag) : Sp := fun vs H Q _ => ∃ (a b : Addr) (ss ks : List Str), vs = [.ref a, .ref b] ∧ SqL K H a (ss.map V.str) ∧ SqT K H b (ks.map V.str) ∧ (∀ s ∈ ss, s ∈ ks) ∧ ss.Nodup ∧ ss.length < 64 ∧ ∀ H', Same H H' → Q (.bl true) H'
theorem ok_are_different (F : Fun K "are_different" "are_different" st_are_different f fd) (B : Blt mg) (hset : mg "set" = none) : FnG P w K mg base CX0 1 f fd ["values", "known"] (spDiff K) := by
  refine okG F sc_are_different (fun vs H Q E h => ?_) (fun cdv A outer s H vs Q E hgd hr h => ?_)
  · obtain ⟨_, _, _, _, rfl, _⟩ := h
    rfl
  · obtain ⟨a, b, ss, ks, rfl, ha, hb, hsub, nd, few, q⟩ := h
    refine ⟨_, (pss_one (ps_ret (pe_and (pe_callB (cr_all rfl) (by rfl) B.all (by decide +kernel) (pa_cons (pe_lc (own := [("value", 2)]) (by rfl) sc_are_different.nd (pi_list (pv 0)) (blkOk_by (own := [("value", 2)]) (N := ["values", "known", "value"]) (sc := defScope st_are_different) (by decide +kernel)) (fun _ _ _ _ _ => (pg_name (i := 2) sc_are_different.nd rfl (.inl rfl))) (fun _ _ _ _ _ => pts_nil) (fun _ _ _ _ _ => (pe_cmpR (op_inK (K := K)) (pv 2) (pv 1) (by rfl)))) pa_nil)) (pe_one (pe_cmpR op_eq (pe_lenSetS (by rfl) (by rfl) B.len (by rfl) hset (pv 0)) (pe_callB call_len (by rfl) B.len (by decide +kernel) (pa_cons (pv 0) pa_nil)) (nomark _)))))), ?_⟩
    refine ⟨_, rfl, a, rfl, ⟨_, ha⟩, fun D nD => lc_list (K := K) (a := a) (xs := ss.map V.str) (fun m H' => Same H H' ∧ H' D = some (.lst ((List.replicate m true).map V.bl)))
      ⟨same_new nD, upd_same⟩ (fun m H' _ ⟨s', _⟩ => s'.seq ha) (fun m v H2 hm hP => ?_) fun H2 hP => ?_⟩
    · obtain ⟨s2, hD⟩ := hP
      rw [List.getElem?_map] at hm
      obtain ⟨y, hy, rfl⟩ := Option.map_eq_some_iff.mp hm
      have hml : m < ss.length := (List.getElem?_eq_some_iff.mp hy).1
      refine ⟨rfl, _, rfl, _, rfl, b, _, rfl, .inr (sameT s2 hb), rfl, WT.flat_strs _, ?_⟩
      rw [inV_str, decide_eq_true (hsub y (List.mem_of_getElem? hy))]
      refine ⟨_, hD, ?_, fun d o ed => ?_, ?_⟩
      · rw [List.length_map, List.length_replicate]
        exact Nat.lt_of_le_of_lt (show m ≤ 100 by omega) (by decide)
      · rw [upd_ne (ne_of_none ed nD)]
        exact s2 _ _ ed
      · rw [upd_same, List.replicate_succ', List.map_append]
        rfl
    · obtain ⟨s2, hD⟩ := hP
      rw [List.length_map] at hD
      refine ⟨D, List.replicate ss.length true, rfl, SqL.of hD, ?_⟩
      rw [all_true]
      refine ⟨_, rfl, ifT rfl ?_⟩
      refine ⟨_, rfl, a, ss, rfl, s2.seq ha, nd, few, ?_⟩
      refine ⟨_, rfl, _, ss.length, rfl, .inl ⟨_, s2.seq ha, (List.length_map ..).symm⟩, rfl, ?_⟩
      rw [decide_eq_true rfl]
      exact q _ s2
def spJoin (K : PySem.W.Frag) : Sp := fun vs H Q _ => ∃ (wa r g ra na : Addr) (as : List Addr) (rs : List Str) (gs : List Gt) (rr ns : List Str), vs = [.ref wa, .ref ra, .ref na] ∧ WorldAt H wa r g as rs gs ∧ (gs.map (·.1)).Nodup ∧ SqL K H ra (rr.map V.str) ∧ SqL K H na (ns.map V.str) ∧ rr.length = ns.length + 1 ∧
  (∀ (i : Nat) (n x y : Str), ns[i]? = some n → rr[i]? = some x → rr[i + 1]? = some y → Has gs n x y) ∧ ∀ H', Same H H' → Q (.bl true) H'
theorem ok_are_joined (F : Fun K "are_joined" "are_joined" st_are_joined f fd) (B : Blt mg) (hzip : mg "zip" = none) (F_members : Df P w K mg base "members" 1 fM fdM ["world", "name"] spMembers) : FnG P w K mg base CX0 2 f fd ["world", "regions", "names"] (spJoin K) := by
  refine okG F sc_are_joined (fun vs H Q E h => ?_) (fun cdv A outer s H vs Q E hgd hr h => ?_)
  · obtain ⟨_, _, _, _, _, _, _, _, _, _, rfl, _⟩ := h
    rfl
  · obtain ⟨wa, r, g, ra, na, as, rs, gs, rr, ns, rfl, hw, nd0, hra, hna, hlen, hj, q⟩ := h
    refine ⟨_, (pss_cons (ps_for PassesOwn.never rfl (pi_zip3 (by rfl) hzip (pa_cons (pv 1) (pa_cons (pv 2) (pa_cons (pe_slice sl_list (pv 1) (po_some pe_int) po_none) pa_nil)))) (pg_tup rfl (pgs_cons (pg_name (i := 3) sc_are_joined.nd rfl (.inl rfl)) (pgs_cons (pg_name (i := 4) sc_are_joined.nd rfl (.inl rfl)) (pgs_cons (pg_name (i := 5) sc_are_joined.nd rfl (.inl rfl)) pgs_nil))))
       (pss_cons (ps_set (i := 6) sc_are_joined.nd rfl (.inl rfl) (pe_callG hgd F_members.G (hr.mono (by decide)) (by rfl) F_members.g F_members.kp F_members.bd pass0 (pa_cons (pv 0) (pa_cons (pv 4) pa_nil))))
       (pss_one (ps_if (PW.pt (pw_or (pt_cmpR op_notIn_seq (pv 3) (pv 6) (by rfl)) (pw_or1 (pt_cmpR op_notIn_seq (pv 5) (pv 6) (by rfl)))))
        (pss_one (ps_ret pe_bl))
        pss_nil))))
      (pss_one (ps_ret pe_bl))), ?_⟩
    refine ⟨_, rfl, _, rfl, _, rfl, 1, rfl, ra, _, rfl, hra, fun ca nca => ?_⟩
    have z0 := same_new nca (o := .lst (cutV (rr.map V.str) (some 1) none))
    have hca : upd H ca (.lst (cutV (rr.map V.str) (some 1) none)) ca = some (.lst ((rr.drop 1).map V.str)) := by
      rw [upd_same]
      exact congrArg (fun z => some (HO.lst z)) (cut_from rr 1 (by omega))
    generalize upd H ca (.lst (cutV (rr.map V.str) (some 1) none)) = H0 at z0 hca ⊢
    refine ⟨ra, na, ca, _, _, _, rfl, z0.seq hra, z0.seq hna, SqL.of hca, for_it (walk_zip3 (n := ns.length) (xs := rr.map V.str) (ys := ns.map V.str) (zs := (rr.drop 1).map V.str) (by simp; omega))
      (fun j σ H' => ∃ v3 v4 v5 v6 : Option V, σ = [some (.ref wa), some (.ref ra), some (.ref na), v3, v4, v5, v6] ∧ Same H0 H') ⟨none, none, none, none, rfl, fun _ _ e => e⟩ (fun j σ H' _ ⟨_, _, _, _, _, s'⟩ => ⟨s'.seq (z0.seq hra), s'.seq (z0.seq hna), SqL.of (s' _ _ hca)⟩) (fun j v σ H2 H3 hj2 hP hY => ?_) (fun σ H2 hP => ?_)⟩
    · obtain ⟨v3, v4, v5, v6, rfl, s2⟩ := hP
      obtain ⟨T, x, y, z, rfl, nT, rfl, e1, e2, e3⟩ := hY
      rw [List.getElem?_map] at e1 e2 e3
      obtain ⟨x, hx, rfl⟩ := Option.map_eq_some_iff.mp e1
      obtain ⟨n, hn, rfl⟩ := Option.map_eq_some_iff.mp e2
      obtain ⟨y, hy, rfl⟩ := Option.map_eq_some_iff.mp e3
      rw [List.getElem?_drop, Nat.add_comm] at hy
      obtain ⟨gg, hgg, egg, m1, m2⟩ := hj j n x y hn hx hy
      have zT := same_new nT (o := .tup [.str x, .str n, .str y])
      have s3 := s2.trans zT
      refine ⟨T, [.str x, .str n, .str y], rfl, SqT.of upd_same, rfl, .str x, _, rfl, .str n, _, rfl, .str y, [], rfl, rfl, ?_⟩
      refine ⟨_, rfl, _, rfl, wa, r, g, as, rs, gs, n, rfl, (hw.same z0).same s3, ⟨gg, hgg, egg⟩, fun i g' hg' eg' hi => ?_⟩
      obtain rfl : g' = gg := by_name nd0 hg' hgg (by rw [eg', egg])
      refine ⟨_, rfl, _, rfl, i, _, rfl, .inr (SqT.of hi), rfl, WT.flat_strs _, _, rfl, ?_⟩
      rw [inV_str]
      refine ifF (by rw [decide_eq_true m1]; rfl) ?_
      refine ⟨_, rfl, _, rfl, i, _, rfl, .inr (SqT.of hi), rfl, WT.flat_strs _, _, rfl, ?_⟩
      rw [inV_str]
      refine ifF (by rw [decide_eq_true m2]; rfl) ?_
      exact ⟨_, _, _, _, rfl, s3⟩
    · obtain ⟨v3, v4, v5, v6, rfl, s2⟩ := hP
      exact q _ (z0.trans s2)
/-- is_cycle(world, value), value a cycle -/
def spIsCycle : Sp := fun vs H Q _ => ∃ (wa r g : Addr) (as : List Addr) (rs : List Str) (gs : List Gt) (v : V) (c : List (Str × Str)), vs = [.ref wa, v] ∧ WHere H wa r g as rs gs ∧ CycRes H v (some c) ∧ IsCyc gs rs c ∧ rs.length < 64 ∧ ∀ H', Same H H' → Q (.bl true) H'
theorem ok_is_cycle (F : Fun K "is_cycle" "is_cycle" st_is_cycle f fd) (B : Blt mg) (hisi : mg "isinstance" = none) (F_is_pair : Df P w K mg base "is_pair" 1 fP fdP ["value"] spPair) (F_are_different : Df P w K mg base "are_different" 1 fD fdD ["values", "known"] (spDiff K))
    (F_gateway_names : Df P w K mg base "gateway_names" 1 fG fdG ["world"] spGnames) (F_are_joined : Df P w K mg base "are_joined" 2 fJ fdJ ["world", "regions", "names"] (spJoin K)) : FnG P w K mg base CX0 3 f fd ["world", "value"] spIsCycle := by
  refine okG F sc_is_cycle (fun vs H Q E h => ?_) (fun cdv A outer s H vs Q E hgd hr h => ?_)
  · obtain ⟨_, _, _, _, _, _, _, _, rfl, _⟩ := h
    rfl
  · obtain ⟨wa, r, g, as, rs, gs, v, c, rfl, W, ⟨p, us, rfl, hp, hus⟩, C, few, q⟩ := h
    refine ⟨_, (pss_cons (ps_if (PW.pt (pw_or (pt_not (pt_val (pe_callB call_isi (by rfl) hisi (by decide +kernel) (pa_cons (pv 1) (pa_cons (pe_bltn (v := .ty "tuple") (by rfl) B.tuple (by decide +kernel) rfl) pa_nil))))) (pw_or (pt_cmpR op_lt (pe_callB call_len (by rfl) B.len (by decide +kernel) (pa_cons (pv 1) pa_nil)) pe_int (nomark _)) (pw_or1 (pt_not (pt_val (pe_callB (cr_all rfl) (by rfl) B.all (by decide +kernel) (pa_cons (pe_lc (own := [("pair", 4)]) (by rfl) sc_is_cycle.nd (pi_tup (pv 1)) (blkOk_by (own := [("pair", 4)]) (N := ["world", "value", "regions", "names", "pair"]) (sc := defScope st_is_cycle) (by decide +kernel)) (fun _ _ _ _ _ => (pg_name (i := 4) sc_is_cycle.nd rfl (.inl rfl))) (fun _ _ _ _ _ => pts_nil) (fun _ _ _ _ _ => (pe_callG hgd F_is_pair.G (hr.mono (by decide)) (by rfl) F_is_pair.g F_is_pair.kp F_is_pair.bd pass0 (pa_cons (pv 4) pa_nil)))) pa_nil))))))))
       (pss_one (ps_ret pe_bl))
       pss_nil)
      (pss_cons (ps_setLc (i := 2) (own := [("pair", 4)]) (by rfl) sc_is_cycle.nd rfl rfl (sw_true rfl rfl rfl (by decide +kernel)) (pi_tup (pv 1)) (blkOk_by (own := [("pair", 4)]) (N := ["world", "value", "regions", "names", "pair"]) (sc := defScope st_is_cycle) (by decide +kernel)) (fun _ _ _ _ _ => (pg_name (i := 4) sc_is_cycle.nd rfl (.inl rfl))) (fun _ _ _ _ _ => pts_nil) (fun _ _ _ _ _ => (pe_ix (ix_tupK (K := K)) (pv 4) pe_int (fun _ _ => rfl))))
      (pss_cons (ps_setLc (i := 3) (own := [("pair", 4)]) (by rfl) sc_is_cycle.nd rfl rfl (sw_true rfl rfl rfl (by decide +kernel)) (pi_tup (pv 1)) (blkOk_by (own := [("pair", 4)]) (N := ["world", "value", "regions", "names", "pair"]) (sc := defScope st_is_cycle) (by decide +kernel)) (fun _ _ _ _ _ => (pg_name (i := 4) sc_is_cycle.nd rfl (.inl rfl))) (fun _ _ _ _ _ => pts_nil) (fun _ _ _ _ _ => (pe_ix (ix_tupK (K := K)) (pv 4) pe_int (fun _ _ => rfl))))
      (pss_cons (ps_if (PW.pt (pw_or (pt_not (pt_val (pe_callG hgd F_are_different.G (hr.mono (by decide)) (by rfl) F_are_different.g F_are_different.kp F_are_different.bd pass0 (pa_cons (pv 2) (pa_cons (pe_ix ix_tup (pv 0) pe_int (fun _ _ => rfl)) pa_nil))))) (pw_or1 (pt_not (pt_val (pe_callG hgd F_are_different.G (hr.mono (by decide)) (by rfl) F_are_different.g F_are_different.kp F_are_different.bd pass0 (pa_cons (pv 3) (pa_cons (pe_callG hgd F_gateway_names.G (hr.mono (by decide)) (by rfl) F_gateway_names.g F_gateway_names.kp F_gateway_names.bd pass0 (pa_cons (pv 0) pa_nil)) pa_nil))))))))
       (pss_one (ps_ret pe_bl))
       pss_nil)
      (pss_one (ps_ret (pe_callG hgd F_are_joined.G (hr.mono (by decide)) (by rfl) F_are_joined.g F_are_joined.kp F_are_joined.bd pass0 (pa_cons (pv 0) (pa_cons (pe_op op_cat (pv 2) (pe_lst (pa_cons (pe_ix ix_list (pv 2) pe_int (fun _ _ => rfl)) pa_nil))) (pa_cons (pv 3) pa_nil)))))))))), ?_⟩
    have lus := Paired.length hus
    have ltwo := C.two
    have lsh := C.short
    -- not isinstance(value, tuple) or ..
    refine ⟨_, rfl, _, _, .type "tuple", .type "tuple", true, rfl, .ty "tuple", .base (.tup hp), kit_ty (by rfl), _, rfl, ifF rfl ?_⟩
    refine ⟨_, rfl, _, us.length, rfl, .inr ⟨_, SqT.of hp, (List.length_map ..).symm⟩, (us.length : Int), 2, rfl, rfl, _, rfl, ifF (decide_eq_false (by omega)) ?_⟩
    refine ⟨_, rfl, p, rfl, ⟨_, SqT.of hp⟩, fun D nD => lc_tup (K := K) (a := p) (xs := us.map V.ref) (fun m H' => Same H H' ∧ H' D = some (.lst ((List.replicate m true).map V.bl)))
      ⟨same_new nD, upd_same⟩ (fun m H' _ ⟨s', _⟩ => SqT.of (s' _ _ hp)) (fun m v H2 hm hP => ?_) fun H2 hP => ?_⟩
    · obtain ⟨s2, hD⟩ := hP
      rw [List.getElem?_map] at hm
      obtain ⟨u, hu, rfl⟩ := Option.map_eq_some_iff.mp hm
      have hml : m < us.length := (List.getElem?_eq_some_iff.mp hu).1
      obtain ⟨pr, _, hpr⟩ := pair_at hus hu
      refine ⟨rfl, _, rfl, u, _, _, rfl, s2 _ _ hpr, ?_⟩
      refine ⟨_, hD, ?_, fun d o ed => ?_, ?_⟩
      · rw [List.length_map, List.length_replicate]
        exact Nat.lt_of_le_of_lt (show m ≤ 100 by omega) (by decide)
      · rw [upd_ne (ne_of_none ed nD)]
        exact s2 _ _ ed
      · rw [upd_same, List.replicate_succ', List.map_append]
        rfl
    obtain ⟨s2, hD⟩ := hP
    rw [List.length_map] at hD
    refine ⟨D, List.replicate us.length true, rfl, SqL.of hD, ?_⟩
    rw [all_true]
    refine ⟨_, rfl, ifF rfl ?_⟩
    have hp2 := s2 _ _ hp
    have hus2 : PairsAt H2 us c := Paired.mapP hus fun _ _ z => s2 _ _ z
    -- regions = [pair[0] ..]
    refine ⟨_, rfl, p, rfl, ⟨_, SqT.of hp2⟩, fun L nL => lc_tup (K := K) (a := p) (xs := us.map V.ref) (fun m H' => Same H2 H' ∧ H' L = some (.lst (((c.map (·.1)).take m).map V.str)))
      ⟨same_new nL, upd_same⟩ (fun m H' _ ⟨s', _⟩ => SqT.of (s' _ _ hp2)) (fun m v H3 hm hP => ?_) fun H3 hP => ?_⟩
    · obtain ⟨s3, hL⟩ := hP
      rw [List.getElem?_map] at hm
      obtain ⟨u, hu, rfl⟩ := Option.map_eq_some_iff.mp hm
      have hml : m < us.length := (List.getElem?_eq_some_iff.mp hu).1
      obtain ⟨pr, hpr, hat⟩ := pair_at hus2 hu
      refine ⟨rfl, _, rfl, u, _, 0, .str pr.1, rfl, rfl, SqT.of (s3 _ _ hat), atI_nat (j := 0) rfl, _, hL, ?_, fun d o ed => ?_, ?_⟩
      · rw [List.length_map, List.length_take]
        exact Nat.lt_of_le_of_lt (show min m (c.map (·.1)).length ≤ 100 by omega) (by decide)
      · rw [upd_ne (ne_of_none ed nL)]
        exact s3 _ _ ed
      · rw [upd_same, List.take_add_one, List.getElem?_map, hpr, List.map_append]
        rfl
    obtain ⟨s3, hL⟩ := hP
    rw [List.length_map, List.take_of_length_le (by rw [List.length_map]; omega)] at hL
    have hp3 := s3 _ _ hp2
    have hus3 : PairsAt H3 us c := Paired.mapP hus2 fun _ _ z => s3 _ _ z
    -- names = [pair[1] ..]
    refine ⟨_, rfl, p, rfl, ⟨_, SqT.of hp3⟩, fun M nM => lc_tup (K := K) (a := p) (xs := us.map V.ref) (fun m H' => Same H3 H' ∧ H' M = some (.lst (((c.map (·.2)).take m).map V.str)))
      ⟨same_new nM, upd_same⟩ (fun m H' _ ⟨s', _⟩ => SqT.of (s' _ _ hp3)) (fun m v H4 hm hP => ?_) fun H4 hP => ?_⟩
    · obtain ⟨s4, hM⟩ := hP
      rw [List.getElem?_map] at hm
      obtain ⟨u, hu, rfl⟩ := Option.map_eq_some_iff.mp hm
      have hml : m < us.length := (List.getElem?_eq_some_iff.mp hu).1
      obtain ⟨pr, hpr, hat⟩ := pair_at hus3 hu
      refine ⟨rfl, _, rfl, u, _, 1, .str pr.2, rfl, rfl, SqT.of (s4 _ _ hat), atI_nat (j := 1) rfl, _, hM, ?_, fun d o ed => ?_, ?_⟩
      · rw [List.length_map, List.length_take]
        exact Nat.lt_of_le_of_lt (show min m (c.map (·.2)).length ≤ 100 by omega) (by decide)
      · rw [upd_ne (ne_of_none ed nM)]
        exact s4 _ _ ed
      · rw [upd_same, List.take_add_one, List.getElem?_map, hpr, List.map_append]
        rfl
    obtain ⟨s4, hM⟩ := hP
    rw [List.length_map, List.take_of_length_le (by rw [List.length_map]; omega)] at hM
    have s24 := s2.trans (s3.trans s4)
    have W4 := W.same s24
    have hL4 := s4 _ _ hL
    have inR : ∀ x ∈ c.map (·.1), x ∈ rs := fun x hx => by
      obtain ⟨i, hi, e⟩ := List.getElem_of_mem hx
      rw [List.length_map] at hi
      have hz : i < ((c.map (·.1)).tail ++ (c.map (·.1)).take 1).length := by
        simp
        omega
      obtain ⟨g', h1, h2, h3, h4⟩ := C.join i c[i] _ (List.getElem?_eq_getElem hi) (List.getElem?_eq_getElem hz)
      rw [← e, List.getElem_map]
      exact (W.each g' h1).2 _ h3
    have inG : ∀ x ∈ c.map (·.2), x ∈ gs.map (·.1) := fun x hx => by
      obtain ⟨i, hi, e⟩ := List.getElem_of_mem hx
      rw [List.length_map] at hi
      have hz : i < ((c.map (·.1)).tail ++ (c.map (·.1)).take 1).length := by
        simp
        omega
      obtain ⟨g', h1, h2, h3, h4⟩ := C.join i c[i] _ (List.getElem?_eq_getElem hi) (List.getElem?_eq_getElem hz)
      rw [← e, List.getElem_map]
      exact List.mem_map.mpr ⟨g', h1, h2⟩
    -- are_different(regions, world[0])
    refine ⟨_, rfl, _, rfl, wa, _, 0, .ref r, rfl, rfl, SqT.of W4.at_.top, atI_nat (j := 0) rfl, L, r, c.map (·.1), rs, rfl, SqL.of hL4, SqT.of W4.at_.reg, inR, C.reg, by rw [List.length_map]; omega, fun H5 s5 => ⟨_, rfl, ifF rfl ?_⟩⟩
    -- are_different(names, gateway_names(world))
    refine ⟨_, rfl, _, rfl, wa, r, g, as, rs, gs, rfl, (W4.same s5).at_, W.gl, fun H6 gp s6 hgp => ?_⟩
    have s56 := s5.trans s6
    refine ⟨M, gp, c.map (·.2), gs.map (·.1), rfl, SqL.of (s56 _ _ hM), SqT.of hgp, inG, C.gat, by rw [List.length_map]; omega, fun H7 s7 => ⟨_, rfl, ifF rfl ?_⟩⟩
    have s47 := s56.trans s7
    have hL7 := s47 _ _ hL4
    have W7 := W4.same s47
    -- are_joined(world, regions + [regions[0]], names)
    obtain ⟨c0, ct, hc0⟩ : ∃ c0 ct, c = c0 :: ct := by
      cases c with
      | nil => simp at ltwo
      | cons a b => exact ⟨a, b, rfl⟩
    refine ⟨_, rfl, _, rfl, _, rfl, L, _, 0, .str c0.1, rfl, rfl, SqL.of hL7, atI_nat (j := 0) (by rw [hc0]; rfl), (by show 1 ≤ sizeLine; decide), fun o1 no1 => ?_⟩
    have z8 := same_new no1 (o := .lst [.str c0.1])
    refine ⟨L, o1, _, _, rfl, rfl, z8 _ _ hL7, upd_same, ?_, fun o2 no2 => ?_⟩
    · rw [List.length_map, List.length_map]
      exact Nat.le_trans (show c.length + 1 ≤ 100 by omega) (by decide)
    have z9 := same_new no2 (o := .lst ((c.map (·.1)).map V.str ++ [.str c0.1]))
    have z89 := z8.trans z9
    refine ⟨_, rfl, wa, r, g, o2, M, as, rs, gs, c.map (·.1) ++ [c0.1], c.map (·.2), rfl, (W7.same z89).at_, W.nd, SqL.of (by rw [upd_same, List.map_append]; rfl), SqL.of (z89 _ _ (s47 _ _ hM)), by simp, fun i n x y hn hx hy => ?_, fun H10 s10 => q _ (s24.trans (s47.trans (z89.trans s10)))⟩
    rw [List.getElem?_map] at hn
    obtain ⟨pr, hpr, rfl⟩ := Option.map_eq_some_iff.mp hn
    have hi : i < c.length := (List.getElem?_eq_some_iff.mp hpr).1
    have ex : x = pr.1 := by
      rw [List.getElem?_append_left (by rw [List.length_map]; exact hi), List.getElem?_map, hpr] at hx
      exact (Option.some.inj hx).symm
    rw [ex]
    refine C.join i pr y hpr ?_
    rw [← hy, hc0]
    rfl
end
end K12

set_option Elab.async false
set_option linter.all false
set_option maxRecDepth 100000
set_option maxHeartbeats 4000000
namespace K12
open PySem PySem.Spec PyProof.Rows L2 WT
abbrev st_paths : Stmt := top 25
theorem sc_paths : FnScope ["_law_world_here", "_law_one", "_law_other", "_law_barred", "_law_found", "_law_waiting", "_law_path", "_law_name", "_law_inside", "_law_kind", "_law_region"] ["_law_world_here", "_law_one", "_law_other", "_law_barred"] (defScope st_paths) := ⟨rfl, rfl, rfl, by decide +kernel, rfl, by decide +kernel, by decide +kernel⟩
def PathAt (one : Str) (H : Hp) (a : Addr) (l : List (Str × Str)) : Prop := H a = some (.tup (pathV one l))
theorem pair_unsnoc {α β : Type} {R : α → β → Prop} : ∀ {m : List β} {l : List α} {y : β}, Paired R l (m ++ [y]) → ∃ l' x, l = l' ++ [x] ∧ Paired R l' m ∧ R x y
  | [], _, _, .cons h .nil => ⟨[], _, rfl, .nil, h⟩
  | _ :: m, _, _, .cons h t => by
    obtain ⟨l', x, rfl, h1, h2⟩ := pair_unsnoc (m := m) t
    exact ⟨_ :: l', x, rfl, .cons h h1, h2⟩
section
variable {P : Program} {w : World} {K : PySem.W.Frag} {mg : Str → Option Value} {base : Heap} {f : Addr} {fd : FuncData}
/-- paths(world, one, other, barred): all paths in which nothing comes twice -/
def spPaths (K : PySem.W.Frag) : Sp := fun vs H Q _ => ∃ (wa r g ba : Addr) (as : List Addr) (rs : List Str) (gs : List Gt) (one other : Str) (bar : List Str) (M D : Nat), vs = [.ref wa, .str one, .str other, .ref ba] ∧ WorldAt H wa r g as rs gs ∧ SqT K H ba (bar.map V.str) ∧ one ∈ rs ∧ (∀ s ∈ rs, PyData.strOk s = true) ∧
  (∀ g ∈ gs, PyData.strOk g.1 = true ∧ g.2.1.length ≤ 100 ∧ ∀ y ∈ g.2.1, y ∈ rs) ∧ rs.length ≤ 100 ∧ (∀ k, GoodP gs bar rs one k → k.length ≤ D) ∧ (∀ l, (kids gs bar one l).length ≤ M) ∧ (M + 1) ^ D < sizeLine ∧
  ∀ (H' : Hp) (p : Addr) (ps : List Addr) (fs : List (List (Str × Str))), Same H H' → H p = none → H' p = some (.lst (ps.map V.ref)) → Paired (PathAt one H') ps fs → AllP gs bar rs one other fs → fs.length ≤ (M + 1) ^ D → Q (.ref p) H'
theorem ok_paths (F : Fun K "_law_paths" "_law_paths" st_paths f fd) : FnG P w K mg base CX0 1 f fd ["_law_world_here", "_law_one", "_law_other", "_law_barred"] (spPaths K) := by
  refine okG F sc_paths (fun vs H Q E h => ?_) (fun cdv A outer s H vs Q E hgd hr h => ?_)
  · obtain ⟨_, _, _, _, _, _, _, _, _, _, _, _, rfl, _⟩ := h
    rfl
  · obtain ⟨wa, r, g, ba, as, rs, gs, one, other, bar, M, D, rfl, hw, hba, hone, hrok, hgs, hrl, hD, hM, hMD, q⟩ := h
    refine ⟨_, (pss_cons (ps_par (by rfl) sc_paths.nd (i := 4) (j := 5) rfl rfl (by decide) rfl rfl (pa_cons (pe_lst pa_nil) (pa_cons (pe_lst (pa_cons (pe_tup (pa_cons (pv 1) pa_nil)) pa_nil)) pa_nil)) (by rfl))
      (pss_cons (ps_while PassesOwn.never (pt_cmpR (op_neD hr.units) (pv 5) (pe_lst pa_nil) (nomark _))
       (pss_cons (ps_set (i := 6) sc_paths.nd rfl (.inr rfl) (pe_bm0 PySem.F.plainAttrs_list PySem.F.slot_list_pop PySem.F.type_list_pop mt_pop (pv 5)))
       (pss_one (ps_if (pt_cmpR op_eq (pe_ix ix_tup (pv 6) (pe_un un_neg pe_int) (fun _ _ => rfl)) (pv 2) (nomark _))
        (pss_one (ps_expr (pe_bm PySem.F.plainAttrs_list PySem.F.slot_list_append PySem.F.type_list_append mt_append (pv 4) (pa_cons (pv 6) pa_nil))))
        (pss_one (ps_for PassesOwn.never rfl (pi_tup (pe_ix ix_tup (pv 0) pe_int (fun _ _ => rfl))) (pg_tup rfl (pgs_cons (pg_name (i := 7) sc_paths.nd rfl (.inr rfl)) (pgs_cons (pg_name (i := 8) sc_paths.nd rfl (.inl rfl)) (pgs_cons (pg_name (i := 9) sc_paths.nd rfl (.inl rfl)) pgs_nil))))
         (pss_one (ps_if (PW.pt (pw_and (pt_cmpR op_in_seq (pe_ix ix_tup (pv 6) (pe_un un_neg pe_int) (fun _ _ => rfl)) (pv 8) (by rfl)) (pw_and (pt_cmpR op_notIn_seq (pv 7) (pe_slice3 2 (by decide) (by decide) (pv 6) (po_some pe_int) po_none pe_int) (by rfl)) (pw_and1 (pt_cmpR op_notIn_seq (pv 7) (pv 3) (by rfl))))))
          (pss_one (ps_expr (pe_bm PySem.F.plainAttrs_list PySem.F.slot_list_extend PySem.F.type_list_extend mt_extend (pv 5) (pa_cons (pe_lc (own := [("_law_region", 10)]) (by rfl) sc_paths.nd (pi_tup (pv 8)) (blkOk_by (own := [("_law_region", 10)]) (N := ["_law_world_here", "_law_one", "_law_other", "_law_barred", "_law_found", "_law_waiting", "_law_path", "_law_name", "_law_inside", "_law_kind", "_law_region"]) (sc := defScope st_paths) (by decide +kernel)) (fun _ _ _ _ _ => (pg_name (i := 10) sc_paths.nd rfl (.inl rfl))) (fun _ _ _ _ _ => (pts_one (pt_cmpR (op_notInK (K := K)) (pv 10) (pe_slice3K (K := K) 2 (by decide) (by decide) (pv 6) po_none po_none pe_int) (by rfl)))) (fun _ _ _ _ _ => (pe_op (op_catTK (K := K)) (pv 6) (pe_tup (pa_cons (pv 7) (pa_cons (pv 10) pa_nil)))))) pa_nil))))
          pss_nil))))))))
      (pss_one (ps_ret (pv 4))))), ?_⟩
    have hlen := Paired.length hw.each
    have hm : ∀ g ∈ gs, ∀ z ∈ g.2.1, z ∈ rs := fun g hg => (hgs g hg).2.2
    have okP : ∀ l : List (Str × Str), GoodP gs bar rs one l → ∀ s ∈ pathS one l, PyData.strOk s = true := fun l hl s hs => by
      unfold pathS at hs
      rcases List.mem_cons.mp hs with e | hs
      · rw [e]
        exact hrok one hone
      · obtain ⟨p, hp, hs⟩ := List.mem_flatMap.mp hs
        have hs : s = p.1 ∨ s = p.2 := by simpa using hs
        rcases hs with e | e
        · obtain ⟨z, hz⟩ := hl.path
          have : ∀ {x y : Str} {l : List (Str × Str)}, SPath gs bar x l y → ∀ p ∈ l, PyData.strOk p.1 = true := fun h => by
            induction h with
            | nil => intro p hp; cases hp
            | cons st _ ih =>
              obtain ⟨g, hg, e, _⟩ := st
              intro p hp
              rcases List.mem_cons.mp hp with e2 | hp
              · rw [e2]
                show PyData.strOk _ = true
                rw [← e]
                exact (hgs g hg).1
              · exact ih p hp
          rw [e]
          exact this hz p hp
        · rw [e]
          exact hrok _ (hl.sub _ (List.mem_map.mpr ⟨p, hp, rfl⟩))
    have plen : ∀ l : List (Str × Str), GoodP gs bar rs one l → (pathV one l).length ≤ 300 := fun l hl => by
      rw [pathV_len]
      have := hl.len hone
      omega
    -- found, waiting = [], [(one,)]
    refine ⟨(by show 0 ≤ sizeLine; decide), fun F nF => ?_⟩
    refine ⟨_, rfl, (by show 1 ≤ sizeLine; decide), fun t0 nt0 => ?_⟩
    refine ⟨(by show 1 ≤ sizeLine; decide), fun L nL => ?_⟩
    refine ⟨_, _, rfl, ?_⟩
    have z0 := same_new nF (o := .lst [])
    have z1 := same_new nt0 (o := .tup [.str one])
    have z2 := same_new nL (o := .lst [.ref t0])
    have nLH : H L = none := (z0.trans z1).free nL
    have hF2 := z2 _ _ (z1 _ _ (show (upd H F (.lst [])) F = some (.lst []) from upd_same))
    have nLF : L ≠ F := Ne.symm (ne_of_none (z1 _ _ (show (upd H F (.lst [])) F = some (.lst []) from upd_same)) nL)
    have ht2 := z2 _ _ (show upd (upd H F (.lst [])) t0 (.tup [.str one]) t0 = some (.tup [.str one]) from upd_same)
    refine ⟨fun m σ H' => ∃ (ws ps : List Addr) (ls fs : List (List (Str × Str))) (v6 v7 v8 v9 : Option V), σ = [some (.ref wa), some (.str one), some (.str other), some (.ref ba), some (.ref F), some (.ref L), v6, v7, v8, v9, none] ∧ m = weigh M D ls ∧ Same H H' ∧
        H' L = some (.lst (ws.map V.ref)) ∧ H' F = some (.lst (ps.map V.ref)) ∧ Paired (PathAt one H') ws ls ∧ Paired (PathAt one H') ps fs ∧ Srch gs bar rs one other M D ls fs,
      ⟨_, [t0], [], [[]], [], none, none, none, none, rfl, rfl, z0.trans (z1.trans z2), upd_same, hF2, .cons ht2 .nil, .nil, .first M D⟩, fun m σ H' hW => ?_⟩
    obtain ⟨ws, ps, ls, fs, v6, v7, v8, v9, rfl, rfl, sm, hL, hF, pw, pf, S⟩ := hW
    have bnd := S.wt
    have wge := weigh_ge M D ls
    have lws := Paired.length pw
    have lps := Paired.length pf
    -- while waiting != []
    refine ⟨_, rfl, (by show 0 ≤ sizeLine; decide), fun e ne => ?_⟩
    have z3 := same_new ne (o := .lst [])
    have hL3 := z3 _ _ hL
    have hF3 := z3 _ _ hF
    have pw3 : Paired (PathAt one (upd H' e (.lst []))) ws ls := Paired.mapP pw fun _ _ h => z3 _ _ h
    have pf3 : Paired (PathAt one (upd H' e (.lst []))) ps fs := Paired.mapP pf fun _ _ h => z3 _ _ h
    refine ⟨_, _, .lst (SqL.of hL3) (dp_paths pw3), .lst (SqL.of upd_same) .nil, ?_, shaped_nil, _, rfl, ?_⟩
    · have := shaped_tups (ls.map (pathS one)) fun ts hts => by
        obtain ⟨l, hl, rfl⟩ := List.mem_map.mp hts
        exact okP l (S.wait l hl)
      rw [List.map_map] at this
      exact this
    rw [eqv_nilD]
    have sm3 := sm.trans z3
    generalize upd H' e (.lst []) = H3 at hL3 hF3 pw3 pf3 sm3 ⊢
    rcases List.eq_nil_or_concat ls with rfl | ⟨li, l, hli⟩
    · refine iteF ⟨_, rfl, ?_⟩
      obtain ⟨a1, a2⟩ := S.done
      exact q _ F ps fs sm3 nF hF3 pf3 a1 a2
    · rw [List.concat_eq_append] at hli
      subst hli
      have gl := S.wait l (by simp)
      obtain ⟨wi, t, rfl, pwi, ht⟩ := pair_unsnoc pw3
      refine ifT (by simp) ?_
      refine ⟨fun σ' H2 => ∃ (ws ps : List Addr) (ls' fs : List (List (Str × Str))) (v6 v7 v8 v9 : Option V), σ' = [some (.ref wa), some (.str one), some (.str other), some (.ref ba), some (.ref F), some (.ref L), v6, v7, v8, v9, none] ∧ weigh M D ls' < weigh M D (li ++ [l]) ∧ Same H H2 ∧
          H2 L = some (.lst (ws.map V.ref)) ∧ H2 F = some (.lst (ps.map V.ref)) ∧ Paired (PathAt one H2) ws ls' ∧ Paired (PathAt one H2) ps fs ∧ Srch gs bar rs one other M D ls' fs,
        fun σ' H2 ⟨ws, ps, ls', fs, v6, v7, v8, v9, h1, h2, h3⟩ => ⟨_, h2, ws, ps, ls', fs, v6, v7, v8, v9, h1, rfl, h3⟩, ?_⟩
      -- path = waiting.pop()
      refine ⟨_, rfl, .inl ⟨rfl, _, SqL.of hL3⟩, L, _, .ref t, rfl, rfl, hL3, ?_, ?_⟩
      · rw [List.map_append]
        simp
      have dl : ((wi ++ [t]).map V.ref).dropLast = wi.map V.ref := by
        rw [List.map_append]
        simp
      rw [dl]
      have keep4 : ∀ (c : Addr) (xs : List V) (o : HO), H3 c = some (.tup xs) → upd H3 L o c = some (.tup xs) := fun c xs o ec => by
        rw [upd_ne (ne_of ec hL3 (by intro z; cases z))]
        exact ec
      have sm4 : Same H (upd H3 L (.lst (wi.map V.ref))) := fun c o ec => by
        rw [upd_ne (ne_of_none ec nLH)]
        exact sm3 _ _ ec
      have hL4 : upd H3 L (.lst (wi.map V.ref)) L = some (.lst (wi.map V.ref)) := upd_same
      have hF4 : upd H3 L (.lst (wi.map V.ref)) F = some (.lst (ps.map V.ref)) := by
        rw [upd_ne (Ne.symm nLF)]
        exact hF3
      have pwi4 : Paired (PathAt one (upd H3 L (.lst (wi.map V.ref)))) wi li := Paired.mapP pwi fun _ _ h => keep4 _ _ _ h
      have pf4 : Paired (PathAt one (upd H3 L (.lst (wi.map V.ref)))) ps fs := Paired.mapP pf3 fun _ _ h => keep4 _ _ _ h
      have ht4 : PathAt one (upd H3 L (.lst (wi.map V.ref))) t l := keep4 _ _ _ ht
      generalize upd H3 L (.lst (wi.map V.ref)) = H4 at sm4 hL4 hF4 pwi4 pf4 ht4 ⊢
      clear keep4 dl
      -- if path[-1] == other
      refine ⟨_, rfl, 1, rfl, t, _, -1, .str (lastOf one l), rfl, rfl, SqT.of ht4, pathV_last one l, _, rfl, rfl, _, rfl, ?_⟩
      by_cases c : lastOf one l = other
      · refine ifT (by simp [c]) ?_
        have S2 := S.take c
        have bnd2 := S2.wt
        rw [List.length_append, List.length_singleton] at bnd2
        refine ⟨_, rfl, .inl ⟨rfl, _, SqL.of hF4⟩, _, rfl, F, _, _, rfl, rfl, hF4, ?_, ?_⟩
        · rw [List.length_map, lps]
          omega
        have keep5 : ∀ (c : Addr) (xs : List V) (o : HO), H4 c = some (.tup xs) → upd H4 F o c = some (.tup xs) := fun c xs o ec => by
          rw [upd_ne (ne_of ec hF4 (by intro z; cases z))]
          exact ec
        refine ⟨wi, ps ++ [t], li, fs ++ [l], _, _, _, _, rfl, ?_, fun d o ed => ?_, ?_, ?_, Paired.mapP pwi4 fun _ _ h => keep5 _ _ _ h, pair_snoc (Paired.mapP pf4 fun _ _ h => keep5 _ _ _ h) (keep5 _ _ _ ht4), S2⟩
        · rw [weigh_app]
          have := weigh_ge M D [l]
          simp only [List.length_singleton] at this
          omega
        · rw [upd_ne (ne_of_none ed nF)]
          exact sm4 _ _ ed
        · rw [upd_ne nLF]
          exact hL4
        · rw [upd_same, List.map_append]
          rfl
      · refine ifF (by simp [c]) ?_
        have hw4 := hw.same sm4
        obtain ⟨S2, wlt⟩ := S.grow hm hD (hM l) c
        have kl : ∀ j, ((gs.take j).flatMap (kidsOf bar one l)).length ≤ (kids gs bar one l).length := fun j => by
          unfold kids
          conv => rhs; rw [← List.take_append_drop j gs, List.flatMap_append, List.length_append]
          exact Nat.le_add_right _ _
        have bnd2 := S2.wt
        have wge2 := weigh_ge M D (li ++ kids gs bar one l)
        rw [List.length_append] at wge2
        -- for name, inside, kind in world[1]
        refine ⟨_, rfl, wa, _, 1, .ref g, rfl, rfl, SqT.of hw4.top, atI_nat (j := 1) rfl, g, rfl, ⟨_, SqT.of hw4.gat⟩, for_it (walk_tup (xs := as.map V.ref))
          (fun j σ H2 => ∃ (us : List Addr) (v7 v8 v9 : Option V), σ = [some (.ref wa), some (.str one), some (.str other), some (.ref ba), some (.ref F), some (.ref L), some (.ref t), v7, v8, v9, none] ∧ Same H H2 ∧ H2 L = some (.lst ((wi ++ us).map V.ref)) ∧ H2 F = some (.lst (ps.map V.ref)) ∧ PathAt one H2 t l ∧
            Paired (PathAt one H2) wi li ∧ Paired (PathAt one H2) us ((gs.take j).flatMap (kidsOf bar one l)) ∧ Paired (PathAt one H2) ps fs)
          ⟨[], v7, v8, v9, rfl, sm4, by rw [List.append_nil]; exact hL4, hF4, ht4, pwi4, .nil, pf4⟩ (fun j σ H2 _ ⟨_, _, _, _, _, s', _⟩ => SqT.of (hw.same s').gat) (fun j v σ H5 H6 hj hP hY => ?_) (fun σ H5 hP => ?_)⟩
        · obtain ⟨us, u7, u8, u9, rfl, sm5, hL5, hF5, ht5, pwi5, pus5, pf5⟩ := hP
          obtain ⟨rfl, hv⟩ := hY
          rw [List.length_map] at hj
          rw [List.getElem?_map, List.getElem?_eq_getElem hj] at hv
          cases hv
          obtain ⟨gg, hgg, ia, e1, e2⟩ := pair_at (hw.same sm5).each (List.getElem?_eq_getElem hj)
          have ggm : gg ∈ gs := List.mem_of_getElem? hgg
          obtain ⟨gok, gl2, gsub⟩ := hgs gg ggm
          have stp : (gs.take (j + 1)).flatMap (kidsOf bar one l) = (gs.take j).flatMap (kidsOf bar one l) ++ kidsOf bar one l gg := by
            rw [List.take_add_one, hgg, List.flatMap_append]
            simp
          have klj := kl (j + 1)
          rw [stp, List.length_append] at klj
          have lus := Paired.length pus5
          have lwi := Paired.length pwi5
          have skip : kidsOf bar one l gg = [] → ∀ H7, Same H6 H7 → ∃ (us : List Addr) (v7 v8 v9 : Option V), [some (.ref wa), some (.str one), some (.str other), some (.ref ba), some (.ref F), some (.ref L), some (.ref t), some (.str gg.1), some (.ref ia), some (.str gg.2.2), none] = [some (.ref wa), some (.str one), some (.str other), some (.ref ba), some (.ref F), some (.ref L), some (.ref t), v7, v8, v9, none] ∧ Same H H7 ∧ H7 L = some (.lst ((wi ++ us).map V.ref)) ∧ H7 F = some (.lst (ps.map V.ref)) ∧ PathAt one H7 t l ∧
              Paired (PathAt one H7) wi li ∧ Paired (PathAt one H7) us ((gs.take (j + 1)).flatMap (kidsOf bar one l)) ∧ Paired (PathAt one H7) ps fs := fun hk H7 s7 => by
            refine ⟨us, _, _, _, rfl, sm5.trans s7, s7 _ _ hL5, s7 _ _ hF5, s7 _ _ ht5, Paired.mapP pwi5 fun _ _ h => s7 _ _ h, ?_, Paired.mapP pf5 fun _ _ h => s7 _ _ h⟩
            rw [stp, hk, List.append_nil]
            exact Paired.mapP pus5 fun _ _ h => s7 _ _ h
          refine ⟨_, [.str gg.1, .ref ia, .str gg.2.2], rfl, SqT.of e1, rfl, .str gg.1, _, rfl, .ref ia, _, rfl, .str gg.2.2, [], rfl, rfl, ?_⟩
          -- if path[-1] in inside and ..
          refine ⟨_, rfl, 1, rfl, t, _, -1, .str (lastOf one l), rfl, rfl, SqT.of ht5, pathV_last one l, _, rfl, ia, _, rfl, .inr (SqT.of e2), rfl, WT.flat_strs _, _, rfl, ?_⟩
          rw [inV_str]
          by_cases c1 : lastOf one l ∈ gg.2.1
          rotate_left
          · refine ifF (decide_eq_false c1) (ifF rfl (skip ?_ _ fun _ _ e => e))
            unfold kidsOf
            rw [if_neg fun z => c1 z.1]
          refine ifT (decide_eq_true c1) ?_
          -- name not in path[1::2]
          refine ⟨_, rfl, _, rfl, 1, rfl, t, _, rfl, rfl, SqT.of ht5, ?_, fun p1 n1 => ?_⟩
          · rw [step_odd, List.length_map, List.length_map]
            have := gl.len hone
            exact Nat.le_trans (show l.length ≤ 100 by omega) (by decide)
          have z6 := same_new n1 (o := .tup (stepL (pathV one l) (some 1) none 2))
          refine ⟨p1, (l.map (·.1)).map V.str, rfl, .inr (SqT.of (by rw [upd_same, step_odd])), rfl, WT.flat_strs _, _, rfl, ?_⟩
          rw [inV_str]
          by_cases c2 : gg.1 ∈ l.map (·.1)
          · refine ifF (by simp [c2]) (ifF rfl (skip ?_ _ z6))
            unfold kidsOf
            rw [if_neg fun z => z.2.1 c2]
          refine ifT (by simp [c2]) ?_
          -- name not in barred
          refine ⟨_, rfl, _, rfl, ba, _, rfl, .inr (sameT z6 (sameT sm5 hba)), rfl, WT.flat_strs _, _, rfl, ?_⟩
          rw [inV_str]
          by_cases c3 : gg.1 ∈ bar
          · refine ifF (by simp [c3]) (skip ?_ _ z6)
            unfold kidsOf
            rw [if_neg fun z => z.2.2 c3]
          refine ifT (by simp [c3]) ?_
          have kk : kidsOf bar one l gg = (gg.2.1.filter fun z => decide (z ∉ one :: l.map (·.2))).map fun z => l ++ [(gg.1, z)] := by
            unfold kidsOf
            rw [if_pos ⟨c1, c2, c3⟩]
          have sm6 := sm5.trans z6
          have hL6 := z6 _ _ hL5
          have hF6 := z6 _ _ hF5
          have ht6 : PathAt one _ t l := z6 _ _ ht5
          have e6 := z6 _ _ e2
          have pwi6 : Paired (PathAt one (upd H6 p1 (.tup (stepL (pathV one l) (some 1) none 2)))) wi li := Paired.mapP pwi5 fun _ _ h => z6 _ _ h
          have pus6 : Paired (PathAt one (upd H6 p1 (.tup (stepL (pathV one l) (some 1) none 2)))) us ((gs.take j).flatMap (kidsOf bar one l)) := Paired.mapP pus5 fun _ _ h => z6 _ _ h
          have pf6 : Paired (PathAt one (upd H6 p1 (.tup (stepL (pathV one l) (some 1) none 2)))) ps fs := Paired.mapP pf5 fun _ _ h => z6 _ _ h
          generalize upd H6 p1 (.tup (stepL (pathV one l) (some 1) none 2)) = H7 at sm6 hL6 hF6 ht6 e6 pwi6 pus6 pf6 ⊢
          -- waiting.extend([..])
          refine ⟨_, rfl, .inl ⟨rfl, _, SqL.of hL6⟩, _, rfl, ia, rfl, ⟨_, SqT.of e6⟩, fun N nN => lc_tup (K := K) (a := ia) (xs := gg.2.1.map V.str) (fun m H' => Same H7 H' ∧ ∃ us2 : List Addr, H' N = some (.lst (us2.map V.ref)) ∧ Paired (PathAt one H') us2 (((gg.2.1.take m).filter fun z => decide (z ∉ one :: l.map (·.2))).map fun z => l ++ [(gg.1, z)]))
            ⟨same_new nN, [], upd_same, .nil⟩ (fun m H' _ ⟨s', _⟩ => SqT.of (s' _ _ e6)) (fun m v H8 hm hP => ?_) fun H8 hP => ?_⟩
          · obtain ⟨s8, us2, hN, pu⟩ := hP
            rw [List.getElem?_map] at hm
            obtain ⟨y, hy, rfl⟩ := Option.map_eq_some_iff.mp hm
            have ht8 : PathAt one H8 t l := s8 _ _ ht6
            have hstp : (gg.2.1.take (m + 1)).filter (fun z => decide (z ∉ one :: l.map (·.2))) = (gg.2.1.take m).filter (fun z => decide (z ∉ one :: l.map (·.2))) ++ (if y ∈ one :: l.map (·.2) then [] else [y]) := by
              rw [List.take_add_one, hy, List.filter_append]
              by_cases c : y ∈ one :: l.map (·.2)
              · rw [if_pos c]
                simp only [Option.toList_some, List.filter_cons, decide_eq_false (fun z => z c : ¬ (y ∉ one :: l.map (·.2))), List.filter_nil]
                simp
              · rw [if_neg c]
                simp only [Option.toList_some, List.filter_cons, decide_eq_true (c : y ∉ one :: l.map (·.2)), List.filter_nil]
                simp
            refine ⟨rfl, _, rfl, _, rfl, t, _, rfl, rfl, SqT.of ht8, ?_, fun p2 n2 => ?_⟩
            · rw [step_even, List.length_map, List.length_cons, List.length_map]
              have := gl.len hone
              exact Nat.le_trans (show l.length + 1 ≤ 100 by omega) (by decide)
            have z9 := same_new n2 (o := .tup (stepL (pathV one l) none none 2))
            refine ⟨p2, (one :: l.map (·.2)).map V.str, rfl, .inr (SqT.of (by rw [upd_same, step_even])), rfl, WT.flat_strs _, _, rfl, ?_⟩
            rw [inV_str]
            by_cases c : y ∈ one :: l.map (·.2)
            · refine ifF (by rw [decide_eq_true c]; rfl) ⟨s8.trans z9, us2, z9 _ _ hN, ?_⟩
              rw [hstp, if_pos c, List.append_nil]
              exact Paired.mapP pu fun _ _ h => z9 _ _ h
            · refine ifT (by rw [decide_eq_false c]; rfl) ⟨_, rfl, _, rfl, _, rfl, (by show 2 ≤ sizeLine; decide), fun u nu => ?_⟩
              have z10 := same_new nu (o := .tup [.str gg.1, .str y])
              refine ⟨t, u, pathV one l, [.str gg.1, .str y], rfl, rfl, SqT.of (z10 _ _ (z9 _ _ ht8)), SqT.of upd_same, (by unfold pathV; simp), ?_, (fun z => nomatch z), fun _ d nd => ?_⟩
              · have := plen l gl
                exact Nat.le_trans (show (pathV one l).length + 2 ≤ 302 by omega) (by decide)
              have z11 := same_new nd (o := .tup (pathV one l ++ [.str gg.1, .str y]))
              have hd : upd (upd (upd H8 p2 (.tup (stepL (pathV one l) none none 2))) u (.tup [.str gg.1, .str y])) d (.tup (pathV one l ++ [.str gg.1, .str y])) d = some (.tup (pathV one l ++ [.str gg.1, .str y])) := upd_same
              have zz := z9.trans (z10.trans z11)
              generalize upd (upd (upd H8 p2 (.tup (stepL (pathV one l) none none 2))) u (.tup [.str gg.1, .str y])) d (.tup (pathV one l ++ [.str gg.1, .str y])) = H11 at zz hd ⊢
              have hN11 := zz _ _ hN
              have keepN : ∀ (c : Addr) (xs : List V) (o : HO), H11 c = some (.tup xs) → upd H11 N o c = some (.tup xs) := fun c xs o e => by
                rw [upd_ne (ne_of e hN11 (by intro z; cases z))]
                exact e
              refine ⟨_, hN11, ?_, ?_, us2 ++ [d], ?_, ?_⟩
              · have e := Paired.length pu
                rw [List.length_map] at e
                have l1 := List.length_filter_le (fun z => decide (z ∉ one :: l.map (·.2))) (gg.2.1.take m)
                have l2 : (gg.2.1.take m).length ≤ gg.2.1.length := by rw [List.length_take]; exact Nat.min_le_right _ _
                rw [List.length_map]
                exact Nat.lt_of_le_of_lt (show us2.length ≤ 100 by omega) (by decide)
              · intro c o ec
                rw [upd_ne (ne_of_none ec nN)]
                exact zz _ _ (s8 _ _ ec)
              · rw [upd_same, List.map_append]
                rfl
              · rw [hstp, if_neg c, List.map_append]
                refine pair_snoc (Paired.mapP pu fun c e h => keepN _ _ _ (zz _ _ h)) ?_
                unfold PathAt
                rw [pathV_snoc]
                exact keepN _ _ _ hd
          · obtain ⟨s8, us2, hN, pu⟩ := hP
            rw [List.length_map, List.take_length, ← kk] at pu
            have hL8 := s8 _ _ hL6
            have lu2 := Paired.length pu
            refine ⟨L, N, _, _, rfl, rfl, hL8, hN, ?_, ?_⟩
            · rw [List.length_map, List.length_map, List.length_append]
              omega
            have keepL : ∀ (c : Addr) (xs : List V) (o : HO), H8 c = some (.tup xs) → upd H8 L o c = some (.tup xs) := fun c xs o e => by
              rw [upd_ne (ne_of e hL8 (by intro z; cases z))]
              exact e
            refine ⟨us ++ us2, _, _, _, rfl, fun c o ec => ?_, ?_, ?_, keepL _ _ _ (s8 _ _ ht6), Paired.mapP pwi6 fun _ _ h => keepL _ _ _ (s8 _ _ h), ?_, Paired.mapP pf6 fun _ _ h => keepL _ _ _ (s8 _ _ h)⟩
            · rw [upd_ne (ne_of_none ec nLH)]
              exact s8 _ _ (sm6 _ _ ec)
            · rw [upd_same]
              simp
            · rw [upd_ne (Ne.symm nLF)]
              exact s8 _ _ hF6
            · rw [stp]
              exact pair_app (Paired.mapP pus6 fun _ _ h => keepL _ _ _ (s8 _ _ h)) (Paired.mapP pu fun _ _ h => keepL _ _ _ h)
        · obtain ⟨us, u7, u8, u9, rfl, sm5, hL5, hF5, ht5, pwi5, pus5, pf5⟩ := hP
          rw [List.length_map, hlen, List.take_length] at pus5
          exact ⟨wi ++ us, ps, _, fs, _, _, _, _, rfl, wlt, sm5, hL5, hF5, pair_app pwi5 pus5, pf5, S2⟩
end
end K12

set_option Elab.async false
set_option linter.all false
set_option maxRecDepth 100000
set_option maxHeartbeats 4000000
namespace K12
open PySem PySem.Spec PyProof.Rows L2 WT
abbrev st_cycle_lengths : Stmt := top 26
theorem sc_cycle_lengths : FnScope ["_law_world_here", "_law_name", "_law_found", "_law_inside", "_law_end", "_law_start", "_law_gateway", "_law_path"] ["_law_world_here", "_law_name"] (defScope st_cycle_lengths) := ⟨rfl, rfl, rfl, by decide +kernel, rfl, by decide +kernel, by decide +kernel⟩
abbrev st_wrapping : Stmt := top 27
theorem sc_wrapping : FnScope ["_law_world_here", "_law_name", "_law_inside", "_law_kind"] ["_law_world_here"] (defScope st_wrapping) := ⟨rfl, rfl, rfl, by decide +kernel, rfl, by decide +kernel, by decide +kernel⟩
theorem call_lenK {X : Cx} {K : PySem.W.Frag} (hK : X.K = K := by rfl) : CallR X (.builtin "len") (fun xs H Q => ∃ x n, xs = [x] ∧ LenV K x H n ∧ Q (.int n) H) := by
  subst hK
  exact call_len
/-- a cycle through the gateway x of so many gateways -/
def CycLen (gs : List Gt) (rs : List Str) (g : Gt) (n : Int) : Prop := ∃ a ∈ g.2.1, ∃ b ∈ g.2.1, b ≠ a ∧ ∃ l, GoodP gs [g.1] rs a l ∧ lastOf a l = b ∧ n = 1 + (l.length : Int)
section
variable {P : Program} {w : World} {K : PySem.W.Frag} {mg : Str → Option Value} {base : Heap} {f fP : Addr} {fd fdP : FuncData}
/-- cycle_lengths(world, name) -/
def spCl : Sp := fun vs H Q _ => ∃ (wa r g : Addr) (as : List Addr) (rs : List Str) (gs : List Gt) (gx : Gt) (M D : Nat), vs = [.ref wa, .str gx.1] ∧ WorldAt H wa r g as rs gs ∧ gx ∈ gs ∧ (gs.map (·.1)).Nodup ∧ (∀ s ∈ rs, PyData.strOk s = true) ∧
  (∀ g ∈ gs, PyData.strOk g.1 = true ∧ g.2.1.length ≤ 100 ∧ ∀ y ∈ g.2.1, y ∈ rs) ∧ rs.length ≤ 100 ∧ gs.length ≤ 100 ∧ (∀ one ∈ rs, ∀ k, GoodP gs [gx.1] rs one k → k.length ≤ D) ∧ (∀ one ∈ rs, ∀ l, (kids gs [gx.1] one l).length ≤ M) ∧ (M + 1) ^ D < sizeLine ∧ gx.2.1.length * gx.2.1.length * (M + 1) ^ D < sizeLine ∧
  ∀ (H' : Hp) (p : Addr) (ns : List Int), Same H H' → H' p = some (.lst (ns.map V.int)) → ns.length ≤ gx.2.1.length * gx.2.1.length * (M + 1) ^ D → (∀ n, n ∈ ns ↔ CycLen gs rs gx n) → Q (.ref p) H'
theorem ok_cycle_lengths (F : Fun K "_law_cycle_lengths" "_law_cycle_lengths" st_cycle_lengths f fd) (B : Blt mg) (F_paths : Df P w K mg base "_law_paths" 1 fP fdP ["_law_world_here", "_law_one", "_law_other", "_law_barred"] (spPaths K)) :
    FnG P w K mg base CX0 2 f fd ["_law_world_here", "_law_name"] spCl := by
  refine okG F sc_cycle_lengths (fun vs H Q E h => ?_) (fun cdv A outer s H vs Q E hgd hr h => ?_)
  · obtain ⟨_, _, _, _, _, _, _, _, _, rfl, _⟩ := h
    rfl
  · obtain ⟨wa, r, g, as, rs, gs, gx, M, D, rfl, hw, hgx, nd, hrok, hgs, hrl, hgl, hD, hM, hMD, hsz, q⟩ := h
    refine ⟨_, (pss_cons (ps_set (i := 2) sc_cycle_lengths.nd rfl (.inl rfl) (pe_lst pa_nil))
      (pss_cons (ps_set (i := 3) sc_cycle_lengths.nd rfl (.inl rfl) (pe_ix ix_list (pe_lc (own := [("_law_gateway", 6)]) (by rfl) sc_cycle_lengths.nd (pi_tup (pe_ix ix_tup (pv 0) pe_int (fun _ _ => rfl))) (blkOk_by (own := [("_law_gateway", 6)]) (N := ["_law_world_here", "_law_name", "_law_found", "_law_inside", "_law_end", "_law_start", "_law_gateway", "_law_path"]) (sc := defScope st_cycle_lengths) (by decide +kernel)) (fun _ _ _ _ _ => (pg_name (i := 6) sc_cycle_lengths.nd rfl (.inl rfl))) (fun _ _ _ _ _ => (pts_one (pt_cmpR op_eq (pe_ix (ix_tupK (K := K)) (pv 6) pe_int (fun _ _ => rfl)) (pv 1) (nomark _)))) (fun _ _ _ _ _ => (pe_ix (ix_tupK (K := K)) (pv 6) pe_int (fun _ _ => rfl)))) pe_int (fun _ _ => rfl)))
      (pss_cons (ps_for PassesOwn.never rfl (pi_tup (pv 3)) (pg_name (i := 4) sc_cycle_lengths.nd rfl (.inl rfl))
       (pss_one (ps_for PassesOwn.never rfl (pi_tup (pv 3)) (pg_name (i := 5) sc_cycle_lengths.nd rfl (.inl rfl))
        (pss_one (ps_if (pt_cmpR op_ne (pv 5) (pv 4) (nomark _))
         (pss_one (ps_expr (pe_bm PySem.F.plainAttrs_list PySem.F.slot_list_extend PySem.F.type_list_extend mt_extend (pv 2) (pa_cons (pe_lc (own := [("_law_path", 7)]) (by rfl) sc_cycle_lengths.nd (pi_list (pe_callG hgd F_paths.G (hr.mono (by decide)) (by rfl) F_paths.g F_paths.kp F_paths.bd pass0 (pa_cons (pv 0) (pa_cons (pv 4) (pa_cons (pv 5) (pa_cons (pe_tup (pa_cons (pv 1) pa_nil)) pa_nil)))))) (blkOk_by (own := [("_law_path", 7)]) (N := ["_law_world_here", "_law_name", "_law_found", "_law_inside", "_law_end", "_law_start", "_law_gateway", "_law_path"]) (sc := defScope st_cycle_lengths) (by decide +kernel)) (fun _ _ _ _ _ => (pg_name (i := 7) sc_cycle_lengths.nd rfl (.inl rfl))) (fun _ _ _ _ _ => pts_nil) (fun _ _ _ _ _ => (pe_op op_add pe_int (pe_op op_fdiv (pe_callB (call_lenK (K := K)) (by rfl) B.len (by decide +kernel) (pa_cons (pv 7) pa_nil)) pe_int)))) pa_nil))))
         pss_nil)))))
      (pss_one (ps_ret (pv 2)))))), ?_⟩
    have hlen := Paired.length hw.each
    obtain ⟨gok, gl, gsub⟩ := hgs gx hgx
    generalize hW : (M + 1) ^ D = W at hMD hsz
    refine ⟨(by show 0 ≤ sizeLine; decide), fun F nF => ?_⟩
    have z0 := same_new nF (o := .lst [])
    have hF0 : upd H F (.lst []) F = some (.lst []) := upd_same
    have hw0 := hw.same z0
    generalize upd H F (.lst []) = H0 at z0 hF0 hw0 ⊢
    -- inside
    refine ⟨_, rfl, wa, _, 1, .ref g, rfl, rfl, SqT.of hw0.top, atI_nat (j := 1) rfl, g, rfl, ⟨_, SqT.of hw0.gat⟩, fun N nN => lc_tup (K := K) (a := g) (xs := as.map V.ref) (fun m H' => Same H0 H' ∧ ∃ vs : List V, H' N = some (.lst vs) ∧ vs.length ≤ m ∧ (vs = [] → gx ∉ gs.take m) ∧ ∀ v, vs[0]? = some v → ∃ ia, v = .ref ia ∧ H' ia = some (.tup (gx.2.1.map V.str)))
      ⟨same_new nN, [], upd_same, Nat.le_refl _, (fun _ => by simp), fun v hv => by cases hv⟩ (fun m H' _ ⟨s', _⟩ => SqT.of (s' _ _ hw0.gat)) (fun m v H2 hm hP => ?_) fun H2 hP => ?_⟩
    · obtain ⟨s2, vs, hN, hvl, hv1, hv2⟩ := hP
      rw [List.getElem?_map] at hm
      obtain ⟨t, ht, rfl⟩ := Option.map_eq_some_iff.mp hm
      have hmlt : m < as.length := (List.getElem?_eq_some_iff.mp ht).1
      obtain ⟨gg, hgg, ia, e1, e2⟩ := pair_at (hw0.same s2).each ht
      have ggm : gg ∈ gs := List.mem_of_getElem? hgg
      refine ⟨rfl, _, rfl, t, _, 0, .str gg.1, rfl, rfl, SqT.of e1, atI_nat (j := 0) rfl, _, rfl, rfl, _, rfl, ?_⟩
      by_cases c : gg.1 = gx.1
      · have eg : gg = gx := by_name nd ggm hgx c
        have keepN : ∀ (c : Addr) (xs : List V) (o : HO), H2 c = some (.tup xs) → upd H2 N o c = some (.tup xs) := fun c xs o e => by
          rw [upd_ne (ne_of e hN (by intro z; cases z))]
          exact e
        refine ifT (by simp [c]) ⟨_, rfl, t, _, 1, .ref ia, rfl, rfl, SqT.of e1, atI_nat (j := 1) rfl, _, hN, ?_, fun d o ed => ?_, vs ++ [.ref ia], upd_same, ?_, (fun z => by simp at z), fun v hv => ?_⟩
        · exact Nat.lt_of_le_of_lt (show vs.length ≤ 100 by omega) (by decide)
        · rw [upd_ne (ne_of_none ed nN)]
          exact s2 _ _ ed
        · rw [List.length_append]
          show vs.length + 1 ≤ m + 1
          omega
        · cases vs with
          | nil =>
            cases hv
            exact ⟨ia, rfl, keepN _ _ _ (by rw [← eg]; exact e2)⟩
          | cons u us =>
            obtain ⟨ib, h1, h2⟩ := hv2 v hv
            exact ⟨ib, h1, keepN _ _ _ h2⟩
      · refine ifF (by simp [c]) ⟨s2, vs, hN, by omega, fun z => ?_, hv2⟩
        rw [List.take_add_one, hgg]
        simp only [Option.toList_some, List.mem_append, List.mem_singleton]
        rintro (h | h)
        · exact hv1 z h
        · exact c (by rw [h])
    · obtain ⟨s2, vs, hN, hvl, hv1, hv2⟩ := hP
      rw [List.length_map, hlen, List.take_length] at hv1
      cases vs with
      | nil => exact absurd hgx (hv1 rfl)
      | cons u us =>
        obtain ⟨i, rfl, hi⟩ := hv2 u rfl
        refine ⟨N, _, 0, .ref i, rfl, rfl, SqL.of hN, atI_nat (j := 0) rfl, ?_⟩
        have s02 := z0.trans s2
        have hF2 := s2 _ _ hF0
        clear hv1 hv2 hvl hN
        -- for end in inside
        refine ⟨_, rfl, i, rfl, ⟨_, SqT.of hi⟩, for_it (walk_tup (xs := gx.2.1.map V.str)) (fun m σ H' => ∃ (ns : List Int) (v4 v5 : Option V), σ = [some (.ref wa), some (.str gx.1), some (.ref F), some (.ref i), v4, v5, none, none] ∧ Same H H' ∧ H' i = some (.tup (gx.2.1.map V.str)) ∧ H' F = some (.lst (ns.map V.int)) ∧ ns.length ≤ m * gx.2.1.length * W ∧
            ∀ n, n ∈ ns ↔ ∃ a ∈ gx.2.1.take m, ∃ b ∈ gx.2.1, b ≠ a ∧ ∃ l, GoodP gs [gx.1] rs a l ∧ lastOf a l = b ∧ n = 1 + (l.length : Int))
          ⟨[], none, none, rfl, s02, hi, hF2, by simp, fun n => by simp⟩ (fun m σ H' _ ⟨_, _, _, _, _, h, _⟩ => SqT.of h) (fun m v σ H3 H4 hm hP hY => ?_) (fun σ H3 hP => ?_)⟩
        · obtain ⟨ns, v4, v5, rfl, s3, hi3, hF3, hnl, hns⟩ := hP
          obtain ⟨rfl, hv⟩ := hY
          rw [List.getElem?_map] at hv
          obtain ⟨y, hy, rfl⟩ := Option.map_eq_some_iff.mp hv
          have hml : m < gx.2.1.length := (List.getElem?_eq_some_iff.mp hy).1
          have yr := gsub y (List.mem_of_getElem? hy)
          -- for start in inside
          refine ⟨_, rfl, i, rfl, ⟨_, SqT.of hi3⟩, for_it (walk_tup (xs := gx.2.1.map V.str)) (fun j σ H' => ∃ (ns : List Int) (v5 : Option V), σ = [some (.ref wa), some (.str gx.1), some (.ref F), some (.ref i), some (.str y), v5, none, none] ∧ Same H H' ∧ H' i = some (.tup (gx.2.1.map V.str)) ∧ H' F = some (.lst (ns.map V.int)) ∧ ns.length ≤ (m * gx.2.1.length + j) * W ∧
              ∀ n, n ∈ ns ↔ ∃ a b, ((a ∈ gx.2.1.take m ∧ b ∈ gx.2.1) ∨ (a = y ∧ b ∈ gx.2.1.take j)) ∧ b ≠ a ∧ ∃ l, GoodP gs [gx.1] rs a l ∧ lastOf a l = b ∧ n = 1 + (l.length : Int))
            ⟨ns, v5, rfl, s3, hi3, hF3, hnl, fun n => ?_⟩ (fun j σ H' _ ⟨_, _, _, _, h, _⟩ => SqT.of h) (fun j v σ H5 H6 hj hP hY => ?_) (fun σ H5 hP => ?_)⟩
          · rw [hns n]
            constructor
            · rintro ⟨a, ha, b, hb, r⟩
              exact ⟨a, b, .inl ⟨ha, hb⟩, r⟩
            · rintro ⟨a, b, h | ⟨_, h⟩, r⟩
              · exact ⟨a, h.1, b, h.2, r⟩
              · cases h
          · obtain ⟨ns, v5, rfl, s5, hi5, hF5, hnl, hns⟩ := hP
            obtain ⟨rfl, hv⟩ := hY
            rw [List.getElem?_map] at hv
            obtain ⟨z, hz, rfl⟩ := Option.map_eq_some_iff.mp hv
            have hjl : j < gx.2.1.length := (List.getElem?_eq_some_iff.mp hz).1
            have tk : ∀ b, b ∈ gx.2.1.take (j + 1) ↔ b ∈ gx.2.1.take j ∨ b = z := fun b => by
              rw [List.take_add_one, hz]
              simp
            have grow : (m * gx.2.1.length + (j + 1)) * W = (m * gx.2.1.length + j) * W + W := by
              rw [← Nat.add_assoc, Nat.add_mul _ 1, Nat.one_mul]
            have fits : (m * gx.2.1.length + (j + 1)) * W ≤ gx.2.1.length * gx.2.1.length * W := by
              refine Nat.mul_le_mul_right W ?_
              have : (m + 1) * gx.2.1.length ≤ gx.2.1.length * gx.2.1.length := Nat.mul_le_mul_right _ hml
              rw [Nat.add_mul, Nat.one_mul] at this
              omega
            refine ⟨_, rfl, _, rfl, rfl, _, rfl, ?_⟩
            by_cases c : z = y
            · refine ifF (by simp [c]) ⟨ns, _, rfl, s5, hi5, hF5, by omega, fun n => ?_⟩
              rw [hns n]
              constructor
              · rintro ⟨a, b, h, r⟩
                refine ⟨a, b, ?_, r⟩
                rcases h with h | ⟨h1, h2⟩
                · exact .inl h
                · exact .inr ⟨h1, (tk b).mpr (.inl h2)⟩
              · rintro ⟨a, b, h, r⟩
                refine ⟨a, b, ?_, r⟩
                rcases h with h | ⟨h1, h2⟩
                · exact .inl h
                · rcases (tk b).mp h2 with h2 | h2
                  · exact .inr ⟨h1, h2⟩
                  · exact absurd (by rw [h2, h1, c]) r.1
            · refine ifT (by simp [c]) ⟨_, rfl, .inl ⟨rfl, _, SqL.of hF5⟩, ?_⟩
              refine ⟨_, rfl, _, rfl, _, rfl, _, rfl, (by show 1 ≤ sizeLine; decide), fun tn ntn => ?_⟩
              have zt := same_new ntn (o := .tup [.str gx.1])
              refine ⟨wa, r, g, tn, as, rs, gs, y, z, [gx.1], M, D, rfl, (hw.same s5).same zt, SqT.of upd_same, yr, hrok, hgs, hrl, hD y yr, hM y yr, by rw [hW]; exact hMD, fun H7 p ps fs s7 np hp pps hall hfl => ?_⟩
              rw [hW] at hfl
              have s57 := zt.trans s7
              have hF7 := s57 _ _ hF5
              have lps := Paired.length pps
              refine ⟨p, rfl, ⟨_, SqL.of hp⟩, fun L nL => lc_list (K := K) (a := p) (xs := ps.map V.ref) (fun k H' => Same H7 H' ∧ H' L = some (.lst ((fs.take k).map fun l => V.int (1 + (l.length : Int)))))
                ⟨same_new nL, upd_same⟩ (fun k H' _ ⟨s', _⟩ => SqL.of (s' _ _ hp)) (fun k v H8 hk hP => ?_) fun H8 hP => ?_⟩
              · obtain ⟨s8, hL⟩ := hP
                rw [List.getElem?_map] at hk
                obtain ⟨t, ht, rfl⟩ := Option.map_eq_some_iff.mp hk
                obtain ⟨l, hl, hat⟩ := pair_at pps ht
                have hkl : k < fs.length := (List.getElem?_eq_some_iff.mp hl).1
                refine ⟨rfl, _, rfl, _, 2 * l.length + 1, rfl, .inr ⟨_, SqT.of (s8 _ _ hat), (pathV_len y l).symm⟩, ((2 * l.length + 1 : Nat) : Int), 2, rfl, rfl, ⟨by decide, by decide⟩, 1, _, rfl, rfl, _, hL, ?_, fun d o ed => ?_, ?_⟩
                · rw [List.length_map, List.length_take]
                  omega
                · rw [upd_ne (ne_of_none ed nL)]
                  exact s8 _ _ ed
                · rw [upd_same, List.take_add_one, hl, List.map_append]
                  have e : (1 : Int) + ((2 * l.length + 1 : Nat) : Int) / 2 = 1 + (l.length : Int) := by omega
                  show some (HO.lst (_ ++ [V.int (1 + ((2 * l.length + 1 : Nat) : Int) / 2)])) = _
                  rw [e]
                  rfl
              · obtain ⟨s8, hL⟩ := hP
                rw [List.length_map, lps, List.take_length] at hL
                have hF8 := s8 _ _ hF7
                have hL' : H8 L = some (.lst ((fs.map fun l => 1 + (l.length : Int)).map V.int)) := by
                  rw [hL, List.map_map]
                  rfl
                refine ⟨F, L, _, _, rfl, rfl, hF8, hL', ?_, ?_⟩
                · rw [List.length_map, List.length_map, List.length_map]
                  omega
                refine ⟨ns ++ fs.map fun l => 1 + (l.length : Int), _, rfl, fun d o ed => ?_, ?_, ?_, ?_, fun n => ?_⟩
                · rw [upd_ne (ne_of_none ed nF)]
                  exact s8 _ _ (s57 _ _ (s5 _ _ ed))
                · rw [upd_ne (ne_of (s8 _ _ (s57 _ _ hi5)) hF8 (by intro q; cases q))]
                  exact s8 _ _ (s57 _ _ hi5)
                · rw [upd_same, List.map_append]
                · rw [List.length_append, List.length_map, grow]
                  omega
                · rw [List.mem_append, hns n]
                  constructor
                  · rintro (⟨a, b, h, r⟩ | h)
                    · refine ⟨a, b, ?_, r⟩
                      rcases h with h | ⟨h1, h2⟩
                      · exact .inl h
                      · exact .inr ⟨h1, (tk b).mpr (.inl h2)⟩
                    · obtain ⟨l, hl, rfl⟩ := List.mem_map.mp h
                      obtain ⟨h1, h2⟩ := hall.good l hl
                      exact ⟨y, z, .inr ⟨rfl, (tk z).mpr (.inr rfl)⟩, c, l, h1, h2, rfl⟩
                  · rintro ⟨a, b, h, r1, l, r2, r3, r4⟩
                    rcases h with h | ⟨h1, h2⟩
                    · exact .inl ⟨a, b, .inl h, r1, l, r2, r3, r4⟩
                    · rcases (tk b).mp h2 with h2 | h2
                      · exact .inl ⟨a, b, .inr ⟨h1, h2⟩, r1, l, r2, r3, r4⟩
                      · subst h1 h2
                        exact .inr (List.mem_map.mpr ⟨l, hall.all l r2 r3, r4.symm⟩)
          · obtain ⟨ns, v5, rfl, s5, hi5, hF5, hnl, hns⟩ := hP
            rw [List.length_map] at hnl hns
            rw [List.take_length] at hns
            refine ⟨ns, _, _, rfl, s5, hi5, hF5, ?_, fun n => ?_⟩
            · rw [Nat.add_mul m 1, Nat.one_mul]
              exact hnl
            · rw [hns n]
              have tk : ∀ a, a ∈ gx.2.1.take (m + 1) ↔ a ∈ gx.2.1.take m ∨ a = y := fun a => by
                rw [List.take_add_one, hy]
                simp
              constructor
              · rintro ⟨a, b, h, r⟩
                rcases h with ⟨h1, h2⟩ | ⟨h1, h2⟩
                · exact ⟨a, (tk a).mpr (.inl h1), b, h2, r⟩
                · exact ⟨a, (tk a).mpr (.inr h1), b, h2, r⟩
              · rintro ⟨a, h1, b, h2, r⟩
                rcases (tk a).mp h1 with h1 | h1
                · exact ⟨a, b, .inl ⟨h1, h2⟩, r⟩
                · exact ⟨a, b, .inr ⟨h1, h2⟩, r⟩
        · obtain ⟨ns, v4, v5, rfl, s3, hi3, hF3, hnl, hns⟩ := hP
          rw [List.length_map, List.take_length] at hns
          rw [List.length_map] at hnl
          exact ⟨_, rfl, q _ F ns s3 hF3 (by rw [hW]; exact hnl) hns⟩
/-- wrapping(world) -/
def spWrapping : Sp := fun vs H Q _ => ∃ (wa r g : Addr) (as : List Addr) (rs : List Str) (gs : List Gt), vs = [.ref wa] ∧ WorldAt H wa r g as rs gs ∧ gs.length ≤ 100 ∧
  ∀ (H' : Hp) (p : Addr), Same H H' → H p = none → H' p = some (.lst ((wraps gs).map V.str)) → Q (.ref p) H'
theorem ok_wrapping (F : Fun K "_law_wrapping" "_law_wrapping" st_wrapping f fd) : FnG P w K mg base CX0 1 f fd ["_law_world_here"] spWrapping := by
  refine okG F sc_wrapping (fun vs H Q E h => ?_) (fun cdv A outer s H vs Q E hgd hr h => ?_)
  · obtain ⟨_, _, _, _, _, _, rfl, _⟩ := h
    rfl
  · obtain ⟨wa, r, g, as, rs, gs, rfl, hw, hgl, q⟩ := h
    refine ⟨_, (pss_one (ps_ret (pe_lc (own := [("_law_name", 1), ("_law_inside", 2), ("_law_kind", 3)]) (by rfl) sc_wrapping.nd (pi_tup (pe_ix ix_tup (pv 0) pe_int (fun _ _ => rfl))) (blkOk_by (own := [("_law_name", 1), ("_law_inside", 2), ("_law_kind", 3)]) (N := ["_law_world_here", "_law_name", "_law_inside", "_law_kind"]) (sc := defScope st_wrapping) (by decide +kernel)) (fun _ _ _ _ _ => (pg_tupK (K := K) (n := 3) rfl (pgs_cons (pg_name (i := 1) sc_wrapping.nd rfl (.inl rfl)) (pgs_cons (pg_name (i := 2) sc_wrapping.nd rfl (.inl rfl)) (pgs_cons (pg_name (i := 3) sc_wrapping.nd rfl (.inl rfl)) pgs_nil))))) (fun _ _ _ _ _ => (pts_one (pt_cmpR op_eq (pv 3) pe_str (nomark _)))) (fun _ _ _ _ _ => (pv 1))))), ?_⟩
    have hlen := Paired.length hw.each
    refine ⟨_, rfl, wa, _, 1, .ref g, rfl, rfl, SqT.of hw.top, atI_nat (j := 1) rfl, g, rfl, ⟨_, SqT.of hw.gat⟩, fun N nN => lc_tup (K := K) (a := g) (xs := as.map V.ref) (fun m H' => Same H H' ∧ H' N = some (.lst ((wraps (gs.take m)).map V.str)))
      ⟨same_new nN, by rw [upd_same]; rfl⟩ (fun m H' _ ⟨s', _⟩ => SqT.of (s' _ _ hw.gat)) (fun m v H2 hm hP => ?_) fun H2 hP => ?_⟩
    · obtain ⟨s2, hN⟩ := hP
      rw [List.getElem?_map] at hm
      obtain ⟨t, ht, rfl⟩ := Option.map_eq_some_iff.mp hm
      obtain ⟨gg, hgg, ia, e1, e2⟩ := pair_at (hw.same s2).each ht
      have stp : wraps (gs.take (m + 1)) = wraps (gs.take m) ++ (if gg.2.2 = ("wrap" : Str) then [gg.1] else []) := by
        unfold wraps
        rw [List.take_add_one, hgg, List.filter_append, List.map_append]
        by_cases c : gg.2.2 = ("wrap" : Str)
        · rw [if_pos c]
          simp [c]
        · rw [if_neg c]
          simp [c]
      refine ⟨t, [.str gg.1, .ref ia, .str gg.2.2], rfl, SqT.of e1, rfl, .str gg.1, _, rfl, .ref ia, _, rfl, .str gg.2.2, [], rfl, rfl, rfl, _, rfl, rfl, _, rfl, ?_⟩
      by_cases c : gg.2.2 = ("wrap" : Str)
      · refine ifT (by simp [c]) ⟨_, rfl, _, hN, ?_, ?_, ?_⟩
        · have l1 : (wraps (gs.take m)).length ≤ gs.length := by
            unfold wraps
            rw [List.length_map]
            refine Nat.le_trans (List.length_filter_le _ _) ?_
            rw [List.length_take]
            exact Nat.min_le_right _ _
          rw [List.length_map]
          exact Nat.lt_of_le_of_lt (show (wraps (gs.take m)).length ≤ 100 by omega) (by decide)
        · intro c o ec
          rw [upd_ne (ne_of_none ec nN)]
          exact s2 _ _ ec
        · rw [upd_same, stp, if_pos c, List.map_append]
          rfl
      · refine ifF (by simp [c]) ⟨s2, ?_⟩
        rw [stp, if_neg c, List.append_nil]
        exact hN
    · obtain ⟨s2, hN⟩ := hP
      rw [List.length_map, hlen, List.take_length] at hN
      exact q _ N s2 nN hN
end
end K12

set_option Elab.async false
set_option linter.all false
set_option maxRecDepth 100000
set_option maxHeartbeats 4000000
namespace WT
open PySem PySem.Spec PyProof.Rows L2
section
variable {X : Cx}
/-- b is not c, two booleans -/
theorem op_notB : OpR X (compareOp .IsNot) (fun x y H Q => ∃ c d : Bool, x = .bl c ∧ y = .bl d ∧ Q (.bl (c != d)) H) := by
  intro pins s σ H x y v u Q I rx ry h
  obtain ⟨c, d, rfl, rfl, q⟩ := h
  cases rx
  cases ry
  exact isnot_bool (fin_bl I q rfl)
theorem op_eqDK {K : PySem.W.Frag} (hu : X.A.units + 64 < cLine) (hK : X.K = K := by rfl) : OpR X (compareOp .Eq) (rEqD K) := by
  subst hK
  exact op_eqD hu
end
theorem merge_new : ∀ (more kvs : List (Key × V)), ((kvs ++ more).map (·.1)).Nodup → mergeK kvs more = kvs ++ more
  | [], kvs, _ => by
    rw [List.append_nil]
    rfl
  | m :: more, kvs, h => by
    have hn : m.1 ∉ kvs.map (·.1) := fun z => by
      rw [List.map_append] at h
      exact (List.nodup_append.mp h).2.2 _ z m.1 (by simp) rfl
    have e : putK kvs m.1 m.2 = kvs ++ [m] := putK_new _ (valV_none hn)
    have := merge_new more (kvs ++ [m]) (by rw [List.append_assoc]; exact h)
    rw [List.append_assoc] at this
    show mergeK (putK kvs m.1 m.2) more = _
    rw [e]
    exact this
theorem next_mod {c : List (Str × Str)} {i : Nat} (hi : i < c.length) : ((c.map (·.1)).tail ++ (c.map (·.1)).take 1)[i]? = (c[(i + 1) % c.length]?).map (·.1) := by
  cases c with
  | nil => simp at hi
  | cons c0 ct =>
    rw [List.length_cons] at hi ⊢
    show (ct.map (·.1) ++ [c0.1])[i]? = _
    by_cases h : i < ct.length
    · rw [Nat.mod_eq_of_lt (by omega), List.getElem?_append_left (by rw [List.length_map]; exact h), List.getElem?_map]
      rfl
    · obtain rfl : i = ct.length := by omega
      rw [Nat.mod_self, List.getElem?_append_right (by rw [List.length_map]; exact Nat.le_refl _), List.length_map, Nat.sub_self]
      rfl
def cycD (c : List (Str × Str)) : PyData := .tuple (c.map fun q => .tuple [.str q.1, .str q.2])
theorem dp_pairs {K : PySem.W.Frag} {H : Hp} : ∀ {us : List Addr} {c : List (Str × Str)}, Paired (fun u (q : Str × Str) => H u = some (.tup [.str q.1, .str q.2])) us c → DpAll K H (us.map V.ref) (c.map fun q => PyData.tuple [.str q.1, .str q.2])
  | _, _, .nil => .nil
  | _, _, .cons h t => .cons (.tup (SqT.of h) (.cons (.str _) (.cons (.str _) .nil))) (dp_pairs t)
theorem lay_pairs : ∀ c : List (Str × Str), (∀ q ∈ c, PyData.strOk q.1 = true ∧ PyData.strOk q.2 = true) → PyData.canLayAll0 (c.map fun q => PyData.tuple [.str q.1, .str q.2]) = true ∧ PyData.depthAll (c.map fun q => PyData.tuple [.str q.1, .str q.2]) ≤ 1
  | [], _ => ⟨by rw [List.map_nil, PyData.canLayAll0], by rw [List.map_nil, PyData.depthAll]; exact Nat.zero_le _⟩
  | q :: c, h => by
    obtain ⟨h1, h2⟩ := lay_pairs c fun x hx => h x (List.mem_cons_of_mem _ hx)
    obtain ⟨g1, g2⟩ := h q List.mem_cons_self
    have d := lay_strs [q.1, q.2] fun s hs => by
      have : s = q.1 ∨ s = q.2 := by simpa using hs
      rcases this with e | e
      · rw [e]; exact g1
      · rw [e]; exact g2
    have e : ([PyData.str q.1, PyData.str q.2] : List PyData) = [q.1, q.2].map PyData.str := rfl
    rw [List.map_cons, PyData.canLayAll0, PyData.depthAll, h1, PyData.canLay0, PyData.depth, e, d.1, d.2]
    exact ⟨rfl, Nat.max_le.mpr ⟨by decide, h2⟩⟩
theorem shaped_cyc {c : List (Str × Str)} (h : ∀ q ∈ c, PyData.strOk q.1 = true ∧ PyData.strOk q.2 = true) : SeqAt.shaped (cycD c) = true := by
  obtain ⟨h1, h2⟩ := lay_pairs c h
  unfold SeqAt.shaped cycD
  rw [PyData.canLay0, PyData.depth, h1]
  simp
  omega
theorem fit_small : ∀ n : Nat, n < 20 → (PyData.int (n : Int)).showable = true ∧ (PyData.int (n : Int)).depth ≤ 60 ∧ (PyData.int (n : Int)).shown.length ≤ sizeLine := by
  have : ∀ n : Fin 20, (PyData.int ((n.1 : Nat) : Int)).showable = true ∧ (PyData.int ((n.1 : Nat) : Int)).depth ≤ 60 ∧ (PyData.int ((n.1 : Nat) : Int)).shown.length ≤ sizeLine := by decide +kernel
  exact fun n h => this ⟨n, h⟩
end WT

set_option Elab.async false
set_option linter.all false
set_option maxRecDepth 100000
set_option maxHeartbeats 4000000
namespace K12
open PySem PySem.Spec PyProof.Rows L2 WT
abbrev st_rewired : Stmt := top 28
theorem sc_rewired : FnScope ["_law_world_here", "_law_wrapping_here", "_law_changed", "_law_name", "_law_inside", "_law_kind"] ["_law_world_here", "_law_wrapping_here"] (defScope st_rewired) := ⟨rfl, rfl, rfl, by decide +kernel, rfl, by decide +kernel, by decide +kernel⟩
abbrev st_own_is_cycle : Stmt := top 29
theorem sc_own_is_cycle : FnScope ["_law_world_here", "_law_value", "_law_inside_of", "_law_at", "_law_pair", "_law_follower", "_law_name", "_law_inside", "_law_kind"] ["_law_world_here", "_law_value"] (defScope st_own_is_cycle) := ⟨rfl, rfl, rfl, by decide +kernel, rfl, by decide +kernel, by decide +kernel⟩
def rewire (gs : List Gt) (ws : List Str) : List Gt := gs.map fun g => (g.1, g.2.1, if g.1 ∈ ws then ("wrap" : Str) else "open")
section
variable {P : Program} {w : World} {K : PySem.W.Frag} {mg : Str → Option Value} {base : Heap} {f : Addr} {fd : FuncData}
/-- rewired(world, wrapping) -/
def spRewired (K : PySem.W.Frag) : Sp := fun vs H Q _ => ∃ (wa r g wl : Addr) (as : List Addr) (rs : List Str) (gs : List Gt) (ws : List Str), vs = [.ref wa, .ref wl] ∧ WorldAt H wa r g as rs gs ∧ gs.length ≤ 100 ∧ SqL K H wl (ws.map V.str) ∧
  ∀ (H' : Hp) (p g' : Addr) (as' : List Addr), Same H H' → WorldAt H' p r g' as' rs (rewire gs ws) → Q (.ref p) H'
theorem ok_rewired (F : Fun K "_law_rewired" "_law_rewired" st_rewired f fd) (B : Blt mg) : FnG P w K mg base CX0 1 f fd ["_law_world_here", "_law_wrapping_here"] (spRewired K) := by
  refine okG F sc_rewired (fun vs H Q E h => ?_) (fun cdv A outer s H vs Q E hgd hr h => ?_)
  · obtain ⟨_, _, _, _, _, _, _, _, rfl, _⟩ := h
    rfl
  · obtain ⟨wa, r, g, wl, as, rs, gs, ws, rfl, hw, hgl, hwl, q⟩ := h
    refine ⟨_, (pss_cons (ps_setLc (i := 2) (own := [("_law_name", 3), ("_law_inside", 4), ("_law_kind", 5)]) (by rfl) sc_rewired.nd rfl rfl (sw_true rfl rfl rfl (by decide +kernel)) (pi_tup (pe_ix ix_tup (pv 0) pe_int (fun _ _ => rfl))) (blkOk_by (own := [("_law_name", 3), ("_law_inside", 4), ("_law_kind", 5)]) (N := ["_law_world_here", "_law_wrapping_here", "_law_changed", "_law_name", "_law_inside", "_law_kind"]) (sc := defScope st_rewired) (by decide +kernel)) (fun _ _ _ _ _ => (pg_tupK (K := K) (n := 3) rfl (pgs_cons (pg_name (i := 3) sc_rewired.nd rfl (.inl rfl)) (pgs_cons (pg_name (i := 4) sc_rewired.nd rfl (.inl rfl)) (pgs_cons (pg_name (i := 5) sc_rewired.nd rfl (.inl rfl)) pgs_nil))))) (fun _ _ _ _ _ => pts_nil) (fun _ _ _ _ _ => (pe_tup (pa_cons (pv 3) (pa_cons (pv 4) (pa_cons (pe_ifExp (pt_cmpR (op_inK (K := K)) (pv 3) (pv 1) (by rfl)) pe_str pe_str) pa_nil))))))
      (pss_one (ps_ret (pe_tup (pa_cons (pe_ix ix_tup (pv 0) pe_int (fun _ _ => rfl)) (pa_cons (pe_callTy call_tuple_of (by rfl) B.tuple (by decide +kernel) (pa_cons (pv 2) pa_nil)) pa_nil)))))), ?_⟩
    have hlen := Paired.length hw.each
    refine ⟨_, rfl, wa, _, 1, .ref g, rfl, rfl, SqT.of hw.top, atI_nat (j := 1) rfl, g, rfl, ⟨_, SqT.of hw.gat⟩, fun N nN => lc_tup (K := K) (a := g) (xs := as.map V.ref) (fun m H' => Same H H' ∧ ∃ us : List Addr, H' N = some (.lst (us.map V.ref)) ∧ Paired (GateAt H') us (rewire (gs.take m) ws))
      ⟨same_new nN, [], upd_same, .nil⟩ (fun m H' _ ⟨s', _⟩ => SqT.of (s' _ _ hw.gat)) (fun m v H2 hm hP => ?_) fun H2 hP => ?_⟩
    · obtain ⟨s2, us, hN, hus⟩ := hP
      rw [List.getElem?_map] at hm
      obtain ⟨t, ht, rfl⟩ := Option.map_eq_some_iff.mp hm
      obtain ⟨gg, hgg, ia, e1, e2⟩ := pair_at (hw.same s2).each ht
      have lus := Paired.length hus
      have lrw : (rewire (gs.take m) ws).length ≤ gs.length := by
        unfold rewire
        rw [List.length_map, List.length_take]
        exact Nat.min_le_right _ _
      have stp : rewire (gs.take (m + 1)) ws = rewire (gs.take m) ws ++ [(gg.1, gg.2.1, if gg.1 ∈ ws then ("wrap" : Str) else "open")] := by
        unfold rewire
        rw [List.take_add_one, hgg, List.map_append]
        rfl
      have fin : ∀ (kd : Str) (tn : Addr), H2 tn = none → kd = (if gg.1 ∈ ws then ("wrap" : Str) else "open") → ∃ acc, upd H2 tn (.tup [.str gg.1, .ref ia, .str kd]) N = some (.lst acc) ∧ acc.length < sizeLine ∧ Same H (upd (upd H2 tn (.tup [.str gg.1, .ref ia, .str kd])) N (.lst (acc ++ [.ref tn]))) ∧
          ∃ us : List Addr, upd (upd H2 tn (.tup [.str gg.1, .ref ia, .str kd])) N (.lst (acc ++ [.ref tn])) N = some (.lst (us.map V.ref)) ∧ Paired (GateAt (upd (upd H2 tn (.tup [.str gg.1, .ref ia, .str kd])) N (.lst (acc ++ [.ref tn])))) us (rewire (gs.take (m + 1)) ws) := fun kd tn ntn ek => by
        have zt := same_new ntn (o := .tup [.str gg.1, .ref ia, .str kd])
        have hN3 := zt _ _ hN
        have ht3 : upd H2 tn (.tup [.str gg.1, .ref ia, .str kd]) tn = some (.tup [.str gg.1, .ref ia, .str kd]) := upd_same
        generalize upd H2 tn (.tup [.str gg.1, .ref ia, .str kd]) = H3 at zt hN3 ht3 ⊢
        have keep : ∀ (c : Addr) (xs : List V) (o : HO), H3 c = some (.tup xs) → upd H3 N o c = some (.tup xs) := fun c xs o e => by
          rw [upd_ne (ne_of e hN3 (by intro z; cases z))]
          exact e
        refine ⟨_, hN3, ?_, fun d o ed => ?_, us ++ [tn], ?_, ?_⟩
        · rw [List.length_map]
          exact Nat.lt_of_le_of_lt (show us.length ≤ 100 by omega) (by decide)
        · rw [upd_ne (ne_of_none ed nN)]
          exact zt _ _ (s2 _ _ ed)
        · rw [upd_same, List.map_append]
          rfl
        · rw [stp]
          refine pair_snoc (Paired.mapP hus fun _ _ ⟨i, h1, h2⟩ => ⟨i, keep _ _ _ (zt _ _ h1), keep _ _ _ (zt _ _ h2)⟩) ⟨ia, ?_, keep _ _ _ (zt _ _ e2)⟩
          rw [← ek]
          exact keep _ _ _ ht3
      refine ⟨t, [.str gg.1, .ref ia, .str gg.2.2], rfl, SqT.of e1, rfl, .str gg.1, _, rfl, .ref ia, _, rfl, .str gg.2.2, [], rfl, rfl, rfl, ?_⟩
      refine ⟨_, rfl, _, rfl, _, rfl, _, rfl, wl, _, rfl, .inl (s2.seq hwl), rfl, WT.flat_strs _, _, rfl, ?_⟩
      rw [inV_str]
      by_cases c : gg.1 ∈ ws
      · exact ifT (decide_eq_true c) ⟨(by show 3 ≤ sizeLine; decide), fun tn ntn => fin "wrap" tn ntn (by rw [if_pos c])⟩
      · exact ifF (decide_eq_false c) ⟨(by show 3 ≤ sizeLine; decide), fun tn ntn => fin "open" tn ntn (by rw [if_neg c])⟩
    · obtain ⟨s2, us, hN, hus⟩ := hP
      rw [List.length_map, hlen, List.take_length] at hus
      have hw2 := hw.same s2
      refine ⟨_, rfl, wa, _, 0, .ref r, rfl, rfl, SqT.of hw2.top, atI_nat (j := 0) rfl, _, rfl, N, _, rfl, .inl ⟨SqL.of hN, fun t nt => ?_⟩⟩
      have zt := same_new nt (o := .tup (us.map V.ref))
      refine ⟨(by show 2 ≤ sizeLine; decide), fun p np => ?_⟩
      have zp := same_new np (o := .tup [.ref r, .ref t])
      have z2 := zt.trans zp
      exact q _ p t us (s2.trans z2) ⟨upd_same, z2 _ _ hw2.reg, zp _ _ upd_same, Paired.mapP hus fun _ _ z => z.same z2⟩
/-- the members of each gateway, by its name -/
def InsAt (H : Hp) : List (Key × V) → List Gt → Prop := Paired fun (kv : Key × V) (g : Gt) => kv.1 = Sum.inr g.1 ∧ ∃ ia, kv.2 = .ref ia ∧ H ia = some (.tup (g.2.1.map V.str))
theorem InsAt.get {H : Hp} {kvs : List (Key × V)} {gs : List Gt} {g : Gt} (h : InsAt H kvs gs) (hg : g ∈ gs) (nd : (gs.map (·.1)).Nodup) : ∃ ia, valV kvs (Sum.inr g.1) = some (.ref ia) ∧ H ia = some (.tup (g.2.1.map V.str)) := by
  unfold InsAt at h
  induction h with
  | nil => cases hg
  | @cons kv g0 kvs gs r t ih =>
    obtain ⟨n1, n2⟩ := List.nodup_cons.mp nd
    by_cases c : g0.1 = g.1
    · have e : g0 = g := by
        rcases List.mem_cons.mp hg with e | hg
        · exact e.symm
        · exact absurd (List.mem_map.mpr ⟨g, hg, c.symm⟩) n1
      obtain ⟨k1, ia, k2, k3⟩ := r
      rw [e] at k1 k3
      exact ⟨ia, by rw [valV_pos k1, k2], k3⟩
    · rcases List.mem_cons.mp hg with e | hg
      · exact absurd (by rw [e]) c
      · obtain ⟨k1, _⟩ := r
        rw [valV_neg fun z => c (Sum.inr.inj (k1.symm.trans z))]
        exact ih hg n2
/-- is_cycle of the law, of a cycle -/
def spOwnCyc : Sp := fun vs H Q _ => ∃ (wa r g : Addr) (as : List Addr) (rs : List Str) (gs : List Gt) (v : V) (c : List (Str × Str)), vs = [.ref wa, v] ∧ WHere H wa r g as rs gs ∧ CycRes H v (some c) ∧ IsCyc gs rs c ∧ rs.length < 64 ∧ ∀ H', Same H H' → Q (.bl true) H'
theorem ok_own_is_cycle (F : Fun K "_law_is_cycle" "_law_is_cycle" st_own_is_cycle f fd) (B : Blt mg) (hset : mg "set" = none) : FnG P w K mg base CX0 1 f fd ["_law_world_here", "_law_value"] spOwnCyc := by
  refine okG F sc_own_is_cycle (fun vs H Q E h => ?_) (fun cdv A outer s H vs Q E hgd hr h => ?_)
  · obtain ⟨_, _, _, _, _, _, _, _, rfl, _⟩ := h
    rfl
  · obtain ⟨wa, r, g, as, rs, gs, v, c, rfl, W, ⟨p, us, rfl, hp, hus⟩, C, few, q⟩ := h
    refine ⟨_, (pss_cons (ps_set (i := 2) sc_own_is_cycle.nd rfl (.inl rfl) (pe_callTy (call_dictP rfl) (by rfl) B.dict (by decide +kernel) (pa_cons (pe_lc (own := [("_law_name", 6), ("_law_inside", 7), ("_law_kind", 8)]) (by rfl) sc_own_is_cycle.nd (pi_tup (pe_ix ix_tup (pv 0) pe_int (fun _ _ => rfl))) (blkOk_by (own := [("_law_name", 6), ("_law_inside", 7), ("_law_kind", 8)]) (N := ["_law_world_here", "_law_value", "_law_inside_of", "_law_at", "_law_pair", "_law_follower", "_law_name", "_law_inside", "_law_kind"]) (sc := defScope st_own_is_cycle) (by decide +kernel)) (fun _ _ _ _ _ => (pg_tupK (K := K) (n := 3) rfl (pgs_cons (pg_name (i := 6) sc_own_is_cycle.nd rfl (.inl rfl)) (pgs_cons (pg_name (i := 7) sc_own_is_cycle.nd rfl (.inl rfl)) (pgs_cons (pg_name (i := 8) sc_own_is_cycle.nd rfl (.inl rfl)) pgs_nil))))) (fun _ _ _ _ _ => pts_nil) (fun _ _ _ _ _ => (pe_tup (pa_cons (pv 6) (pa_cons (pv 7) pa_nil))))) pa_nil)))
      (pss_cons (ps_if (PW.pt (pw_or (pt_cmpR op_lt (pe_lenSetS (K := K) (by rfl) (by rfl) B.len (by rfl) hset (pe_lc (own := [("_law_pair", 4)]) (by rfl) sc_own_is_cycle.nd (pi_tup (pv 1)) (blkOk_by (own := [("_law_pair", 4)]) (N := ["_law_world_here", "_law_value", "_law_inside_of", "_law_at", "_law_pair", "_law_follower", "_law_name", "_law_inside", "_law_kind"]) (sc := defScope st_own_is_cycle) (by decide +kernel)) (fun _ _ _ _ _ => (pg_name (i := 4) sc_own_is_cycle.nd rfl (.inl rfl))) (fun _ _ _ _ _ => pts_nil) (fun _ _ _ _ _ => (pe_ix (ix_tupK (K := K)) (pv 4) pe_int (fun _ _ => rfl))))) (pe_callB call_len (by rfl) B.len (by decide +kernel) (pa_cons (pv 1) pa_nil)) (nomark _)) (pw_or1 (pt_cmpR op_lt (pe_lenSetS (K := K) (by rfl) (by rfl) B.len (by rfl) hset (pe_lc (own := [("_law_pair", 4)]) (by rfl) sc_own_is_cycle.nd (pi_tup (pv 1)) (blkOk_by (own := [("_law_pair", 4)]) (N := ["_law_world_here", "_law_value", "_law_inside_of", "_law_at", "_law_pair", "_law_follower", "_law_name", "_law_inside", "_law_kind"]) (sc := defScope st_own_is_cycle) (by decide +kernel)) (fun _ _ _ _ _ => (pg_name (i := 4) sc_own_is_cycle.nd rfl (.inl rfl))) (fun _ _ _ _ _ => pts_nil) (fun _ _ _ _ _ => (pe_ix (ix_tupK (K := K)) (pv 4) pe_int (fun _ _ => rfl))))) (pe_callB call_len (by rfl) B.len (by decide +kernel) (pa_cons (pv 1) pa_nil)) (nomark _)))))
       (pss_one (ps_ret pe_bl))
       pss_nil)
      (pss_cons (ps_for PassesOwn.never rfl (pi_enumT (by rfl) B.enumerate (pa_cons (pv 1) pa_nil)) (pg_tup rfl (pgs_cons (pg_name (i := 3) sc_own_is_cycle.nd rfl (.inl rfl)) (pgs_cons (pg_name (i := 4) sc_own_is_cycle.nd rfl (.inl rfl)) pgs_nil)))
       (pss_cons (ps_set (i := 5) sc_own_is_cycle.nd rfl (.inl rfl) (pe_ix ix_tup (pe_ix ix_tup (pv 1) (pe_op op_mod (pe_op op_add (pv 3) pe_int) (pe_callB call_len (by rfl) B.len (by decide +kernel) (pa_cons (pv 1) pa_nil))) (fun _ _ => rfl)) pe_int (fun _ _ => rfl)))
       (pss_one (ps_if (PW.pt (pw_or (pt_cmp (pc_dnotin (hu_of hr) (pe_ix (ix_tupK (K := K)) (pv 4) pe_int (fun _ _ => rfl)) (pv 2))) (pw_or (pt_cmpR op_notIn_seq (pe_ix (ix_tupK (K := K)) (pv 4) pe_int (fun _ _ => rfl)) (pe_dget (hu_of hr) (pv 2) (pe_ix (ix_tupK (K := K)) (pv 4) pe_int (fun _ _ => rfl)) (fun _ _ => rfl)) (by rfl)) (pw_or1 (pt_cmpR op_notIn_seq (pv 5) (pe_dget (hu_of hr) (pv 2) (pe_ix (ix_tupK (K := K)) (pv 4) pe_int (fun _ _ => rfl)) (fun _ _ => rfl)) (by rfl))))))
        (pss_one (ps_ret pe_bl))
        pss_nil))))
      (pss_one (ps_ret (pe_cmpR op_gt (pe_callB call_len (by rfl) B.len (by decide +kernel) (pa_cons (pv 1) pa_nil)) pe_int (nomark _))))))), ?_⟩
    have lus := Paired.length hus
    have ltwo := C.two
    have lsh := C.short
    have hw := W.at_
    have hlen := Paired.length hw.each
    have hgl := W.gl
    -- inside_of = dict([..])
    refine ⟨_, rfl, wa, _, 1, .ref g, rfl, rfl, SqT.of hw.top, atI_nat (j := 1) rfl, g, rfl, ⟨_, SqT.of hw.gat⟩, fun N nN => lc_tup (K := K) (a := g) (xs := as.map V.ref) (fun m H' => Same H H' ∧ ∃ (ts : List Addr) (kvs : List (Key × V)), H' N = some (.lst (ts.map V.ref)) ∧ Paired (fun t (kv : Key × V) => H' t = some (.tup [kV kv.1, kv.2])) ts kvs ∧ InsAt H' kvs (gs.take m))
      ⟨same_new nN, [], [], upd_same, .nil, .nil⟩ (fun m H' _ ⟨s', _⟩ => SqT.of (s' _ _ hw.gat)) (fun m v H2 hm hP => ?_) fun H2 hP => ?_⟩
    · obtain ⟨s2, ts, kvs, hN, hts, hin⟩ := hP
      rw [List.getElem?_map] at hm
      obtain ⟨t, ht, rfl⟩ := Option.map_eq_some_iff.mp hm
      have hml : m < as.length := (List.getElem?_eq_some_iff.mp ht).1
      obtain ⟨gg, hgg, ia, e1, e2⟩ := pair_at (hw.same s2).each ht
      have l1 := Paired.length hts
      have l2 := Paired.length hin
      rw [List.length_take] at l2
      refine ⟨t, [.str gg.1, .ref ia, .str gg.2.2], rfl, SqT.of e1, rfl, .str gg.1, _, rfl, .ref ia, _, rfl, .str gg.2.2, [], rfl, rfl, rfl, _, rfl, _, rfl, (by show 2 ≤ sizeLine; decide), fun tn ntn => ?_⟩
      have zt := same_new ntn (o := .tup [.str gg.1, .ref ia])
      have hN3 := zt _ _ hN
      have ht3 : upd H2 tn (.tup [.str gg.1, .ref ia]) tn = some (.tup [.str gg.1, .ref ia]) := upd_same
      generalize upd H2 tn (.tup [.str gg.1, .ref ia]) = H3 at zt hN3 ht3 ⊢
      have keep : ∀ (c : Addr) (xs : List V) (o : HO), H3 c = some (.tup xs) → upd H3 N o c = some (.tup xs) := fun c xs o e => by
        rw [upd_ne (ne_of e hN3 (by intro z; cases z))]
        exact e
      refine ⟨_, hN3, ?_, fun d o ed => ?_, ts ++ [tn], kvs ++ [(Sum.inr gg.1, .ref ia)], ?_, ?_, ?_⟩
      · rw [List.length_map]
        exact Nat.lt_of_le_of_lt (show ts.length ≤ 100 by omega) (by decide)
      · rw [upd_ne (ne_of_none ed nN)]
        exact zt _ _ (s2 _ _ ed)
      · rw [upd_same, List.map_append]
        rfl
      · exact pair_snoc (Paired.mapP hts fun _ _ z => keep _ _ _ (zt _ _ z)) (keep _ _ _ ht3)
      · rw [List.take_add_one, hgg]
        exact pair_snoc (Paired.mapP hin fun _ _ ⟨k1, i, k2, k3⟩ => ⟨k1, i, k2, keep _ _ _ (zt _ _ k3)⟩) ⟨rfl, ia, rfl, keep _ _ _ (zt _ _ e2)⟩
    obtain ⟨s2, ts, kvs, hN, hts, hin⟩ := hP
    rw [List.length_map, hlen, List.take_length] at hin
    have kk : kvs.map (·.1) = (gs.map (·.1)).map Sum.inr := by
      have : ∀ {kvs : List (Key × V)} {gs : List Gt}, InsAt H2 kvs gs → kvs.map (·.1) = (gs.map (·.1)).map Sum.inr := fun h => by
        unfold InsAt at h
        induction h with
        | nil => rfl
        | cons r _ ih => rw [List.map_cons, List.map_cons, List.map_cons, ih, r.1]
      exact this hin
    have knd : (kvs.map (·.1)).Nodup := by
      rw [kk]
      exact List.pairwise_map.mpr (List.Pairwise.imp (fun {a b} h e => h (by cases e; rfl)) W.nd)
    refine ⟨N, ts, kvs, rfl, SqL.of hN, Paired.mapP hts (fun _ _ z => SqT.of z), fun d nd' => ?_⟩
    rw [show mergeK [] kvs = kvs from merge_new kvs [] knd]
    have zd := same_new nd' (o := .dK kvs)
    have s3 := s2.trans zd
    have hd : upd H2 d (.dK kvs) d = some (.dK kvs) := upd_same
    have hin3 : InsAt (upd H2 d (.dK kvs)) kvs gs := Paired.mapP hin fun _ _ ⟨k1, i, k2, k3⟩ => ⟨k1, i, k2, zd _ _ k3⟩
    generalize upd H2 d (.dK kvs) = H3 at s3 hd hin3 ⊢
    have hp3 := s3 _ _ hp
    have hus3 : PairsAt H3 us c := Paired.mapP hus fun _ _ z => s3 _ _ z
    -- len(set([pair[0] ..])) < len(value)
    refine ⟨_, rfl, p, rfl, ⟨_, SqT.of hp3⟩, fun L nL => lc_tup (K := K) (a := p) (xs := us.map V.ref) (fun m H' => Same H3 H' ∧ H' L = some (.lst (((c.map (·.1)).take m).map V.str)))
      ⟨same_new nL, upd_same⟩ (fun m H' _ ⟨s', _⟩ => SqT.of (s' _ _ hp3)) (fun m v H4 hm hP => ?_) fun H4 hP => ?_⟩
    · obtain ⟨s4, hL⟩ := hP
      rw [List.getElem?_map] at hm
      obtain ⟨u, hu, rfl⟩ := Option.map_eq_some_iff.mp hm
      obtain ⟨pr, hpr, hat⟩ := pair_at hus3 hu
      refine ⟨rfl, _, rfl, u, _, 0, .str pr.1, rfl, rfl, SqT.of (s4 _ _ hat), atI_nat (j := 0) rfl, _, hL, ?_, fun d o ed => ?_, ?_⟩
      · rw [List.length_map, List.length_take, List.length_map]
        exact Nat.lt_of_le_of_lt (show min m c.length ≤ 100 by omega) (by decide)
      · rw [upd_ne (ne_of_none ed nL)]
        exact s4 _ _ ed
      · rw [upd_same, List.take_add_one, List.getElem?_map, hpr, List.map_append]
        rfl
    obtain ⟨s4, hL⟩ := hP
    rw [List.length_map, List.take_of_length_le (by rw [List.length_map]; omega)] at hL
    have hp4 := s4 _ _ hp3
    have hus4 : PairsAt H4 us c := Paired.mapP hus3 fun _ _ z => s4 _ _ z
    refine ⟨L, c.map (·.1), rfl, SqL.of hL, C.reg, by rw [List.length_map]; omega, ?_⟩
    refine ⟨_, rfl, _, us.length, rfl, .inr ⟨_, SqT.of hp4, (List.length_map ..).symm⟩, ((c.map (·.1)).length : Int), (us.length : Int), rfl, rfl, _, rfl, ifF (decide_eq_false (by rw [List.length_map]; omega)) ?_⟩
    -- len(set([pair[1] ..])) < len(value)
    refine ⟨_, rfl, p, rfl, ⟨_, SqT.of hp4⟩, fun M nM => lc_tup (K := K) (a := p) (xs := us.map V.ref) (fun m H' => Same H4 H' ∧ H' M = some (.lst (((c.map (·.2)).take m).map V.str)))
      ⟨same_new nM, upd_same⟩ (fun m H' _ ⟨s', _⟩ => SqT.of (s' _ _ hp4)) (fun m v H5 hm hP => ?_) fun H5 hP => ?_⟩
    · obtain ⟨s5, hM⟩ := hP
      rw [List.getElem?_map] at hm
      obtain ⟨u, hu, rfl⟩ := Option.map_eq_some_iff.mp hm
      obtain ⟨pr, hpr, hat⟩ := pair_at hus4 hu
      refine ⟨rfl, _, rfl, u, _, 1, .str pr.2, rfl, rfl, SqT.of (s5 _ _ hat), atI_nat (j := 1) rfl, _, hM, ?_, fun d o ed => ?_, ?_⟩
      · rw [List.length_map, List.length_take, List.length_map]
        exact Nat.lt_of_le_of_lt (show min m c.length ≤ 100 by omega) (by decide)
      · rw [upd_ne (ne_of_none ed nM)]
        exact s5 _ _ ed
      · rw [upd_same, List.take_add_one, List.getElem?_map, hpr, List.map_append]
        rfl
    obtain ⟨s5, hM⟩ := hP
    rw [List.length_map, List.take_of_length_le (by rw [List.length_map]; omega)] at hM
    have hp5 := s5 _ _ hp4
    refine ⟨M, c.map (·.2), rfl, SqL.of hM, C.gat, by rw [List.length_map]; omega, ?_⟩
    refine ⟨_, rfl, _, us.length, rfl, .inr ⟨_, SqT.of hp5, (List.length_map ..).symm⟩, ((c.map (·.2)).length : Int), (us.length : Int), rfl, rfl, _, rfl, ifF (decide_eq_false (by rw [List.length_map]; omega)) ?_⟩
    have s35 := s4.trans s5
    have hd5 := s35 _ _ hd
    have hin5 : InsAt H5 kvs gs := Paired.mapP hin3 fun _ _ ⟨k1, i, k2, k3⟩ => ⟨k1, i, k2, s35 _ _ k3⟩
    have hus5 : PairsAt H5 us c := Paired.mapP hus4 fun _ _ z => s5 _ _ z
    have s05 := s3.trans s35
    -- for at, pair in enumerate(value)
    refine ⟨_, rfl, p, _, rfl, SqT.of hp5, for_it (walk_enumT (xs := us.map V.ref)) (fun j σ H' => ∃ v3 v4 v5 : Option V, σ = [some (.ref wa), some (.ref p), some (.ref d), v3, v4, v5, none, none, none] ∧ Same H5 H') ⟨none, none, none, rfl, fun _ _ e => e⟩ (fun j σ H' _ ⟨_, _, _, _, s'⟩ => SqT.of (s' _ _ hp5)) (fun j v σ H6 H7 hj hP hY => ?_) (fun σ H6 hP => ?_)⟩
    · obtain ⟨v3, v4, v5, rfl, s6⟩ := hP
      obtain ⟨T, x', y', rfl, nT, rfl, e1, e2⟩ := hY
      cases e1
      have e2 : (us.map V.ref)[j]? = some y' := e2
      rw [List.getElem?_map] at e2
      obtain ⟨u, hu, rfl⟩ := Option.map_eq_some_iff.mp e2
      have hju : j < us.length := (List.getElem?_eq_some_iff.mp hu).1
      obtain ⟨pr, hpr, hat⟩ := pair_at hus5 hu
      have zT := same_new nT (o := .tup [.int ((j : Nat) : Int), .ref u])
      have hT : upd H6 T (.tup [.int ((j : Nat) : Int), .ref u]) T = some (.tup [.int ((j : Nat) : Int), .ref u]) := upd_same
      have s7 := s6.trans zT
      generalize upd H6 T (.tup [.int ((j : Nat) : Int), .ref u]) = H7 at zT hT s7 ⊢
      have hp7 := s7 _ _ hp5
      have hat7 := s7 _ _ hat
      have hd7 := s7 _ _ hd5
      have hin7 : InsAt H7 kvs gs := Paired.mapP hin5 fun _ _ ⟨k1, i, k2, k3⟩ => ⟨k1, i, k2, s7 _ _ k3⟩
      have hus7 : PairsAt H7 us c := Paired.mapP hus5 fun _ _ z => s7 _ _ z
      have jc : j < c.length := by omega
      have klt : (j + 1) % c.length < us.length := by
        rw [lus]
        exact Nat.mod_lt _ (by omega)
      have hk : (us.map V.ref)[(j + 1) % c.length]? = some (V.ref us[(j + 1) % c.length]) := by
        rw [List.getElem?_map, List.getElem?_eq_getElem klt]
        rfl
      obtain ⟨pk, hpk, hatk⟩ := pair_at hus7 (List.getElem?_eq_getElem klt)
      have hz : ((c.map (·.1)).tail ++ (c.map (·.1)).take 1)[j]? = some pk.1 := by
        rw [next_mod jc, hpk]
        rfl
      obtain ⟨gg, hgg, egg, m1, m2⟩ := C.join j pr pk.1 hpr hz
      obtain ⟨ia, ev, hia⟩ := hin7.get hgg W.nd
      rw [egg] at ev
      have emod : ((j : Int) + 1) % ((us.length : Nat) : Int) = (((j + 1) % c.length : Nat) : Int) := by
        rw [lus]
        exact (Int.natCast_emod (j + 1) c.length).symm
      refine ⟨T, _, rfl, SqT.of hT, rfl, _, _, rfl, _, [], rfl, rfl, ?_⟩
      -- follower
      refine ⟨_, rfl, _, rfl, (j : Int), 1, rfl, rfl, _, rfl, _, us.length, rfl, .inr ⟨_, SqT.of hp7, (List.length_map ..).symm⟩, (j : Int) + 1, (us.length : Int), rfl, rfl, by omega, p, _, _, _, rfl, rfl, SqT.of hp7, (by rw [emod]; exact atI_nat hk), _, _, 0, .str pk.1, rfl, rfl, SqT.of hatk, atI_nat (j := 0) rfl, ?_⟩
      -- the tests
      refine ⟨_, rfl, u, _, 1, .str pr.2, rfl, rfl, SqT.of hat7, atI_nat (j := 1) rfl, _, rfl, d, _, rfl, DGet.k (k := Sum.inr pr.2) hd7, _, rfl, ifF (by rw [ev]; rfl) ?_⟩
      refine ⟨_, rfl, u, _, 0, .str pr.1, rfl, rfl, SqT.of hat7, atI_nat (j := 0) rfl, _, rfl, _, rfl, u, _, 1, .str pr.2, rfl, rfl, SqT.of hat7, atI_nat (j := 1) rfl, d, .ref ia, rfl, by rw [← ev]; exact DGet.k (k := Sum.inr pr.2) hd7, ia, _, rfl, .inr (SqT.of hia), rfl, WT.flat_strs _, _, rfl, ?_⟩
      rw [inV_str]
      refine ifF (by rw [decide_eq_true m1]; rfl) ?_
      refine ⟨_, rfl, _, rfl, _, rfl, u, _, 1, .str pr.2, rfl, rfl, SqT.of hat7, atI_nat (j := 1) rfl, d, .ref ia, rfl, by rw [← ev]; exact DGet.k (k := Sum.inr pr.2) hd7, ia, _, rfl, .inr (SqT.of hia), rfl, WT.flat_strs _, _, rfl, ?_⟩
      rw [inV_str]
      refine ifF (by rw [decide_eq_true m2]; rfl) ?_
      exact ⟨_, _, _, rfl, s7⟩
    · obtain ⟨v3, v4, v5, rfl, s6⟩ := hP
      refine ⟨_, rfl, _, us.length, rfl, .inr ⟨_, SqT.of (s6 _ _ hp5), (List.length_map ..).symm⟩, (us.length : Int), 1, rfl, rfl, ?_⟩
      show Q (.bl (decide ((1 : Int) < (us.length : Int)))) H6
      rw [decide_eq_true (show (1 : Int) < (us.length : Int) by omega)]
      exact q _ (s05.trans s6)
end
end K12

set_option Elab.async false
set_option linter.all false
set_option maxRecDepth 100000
set_option maxHeartbeats 4000000
namespace K12
open PySem PySem.Spec PyProof.Rows L2 WT
abbrev st_right : Stmt := top 30
theorem sc_right : FnScope ["_law_world_here", "_law_lengths", "_law_name", "_law_told", "_law_cycle", "_law_wrapping_here", "_law_pair"] ["_law_world_here"] (defScope st_right) := ⟨rfl, rfl, rfl, by decide +kernel, rfl, by decide +kernel, by decide +kernel⟩
theorem cycLn_iff {gs : List Gt} {rs : List Str} {g : Gt} {n : Int} : CycLen gs rs g n ↔ ∃ k : Nat, CycLn gs rs g k ∧ n = (k : Int) := by
  constructor
  · rintro ⟨a, ha, b, hb, ne, l, h1, h2, rfl⟩
    exact ⟨1 + l.length, ⟨a, ha, b, hb, ne, l, h1, h2, rfl⟩, by omega⟩
  · rintro ⟨k, ⟨a, ha, b, hb, ne, l, h1, h2, rfl⟩, rfl⟩
    exact ⟨a, ha, b, hb, ne, l, h1, h2, by omega⟩
/-- small enough: all lengths together fit a list -/
def Small4 (rs : List Str) (gs : List Gt) : Prop := ∃ M D T : Nat, (M + 1) ^ D < sizeLine ∧ T < sizeLine ∧ gs.length * T < sizeLine ∧ ∀ gx ∈ gs, gx.2.1.length * gx.2.1.length * (M + 1) ^ D ≤ T ∧ ∀ one ∈ rs, (∀ k, GoodP gs [gx.1] rs one k → k.length ≤ D) ∧ ∀ l, (kids gs [gx.1] one l).length ≤ M
theorem small4_of {rs : List Str} {gs : List Gt} (hr : rs.length ≤ 6) (hg : gs.length ≤ 4) (hm : ∀ g ∈ gs, g.2.1.length ≤ rs.length) : Small4 rs gs := by
  refine ⟨15, 4, 36 * 65536, by decide, by decide, ?_, fun gx hx => ⟨?_, fun one ho => ⟨fun k hk => Nat.le_trans hk.lenG hg, fun l => Nat.le_trans (kids_lenX (B := 5) hx (fun g h => Nat.le_trans (hm g h) hr) l) ?_⟩⟩⟩
  · exact Nat.lt_of_le_of_lt (Nat.mul_le_mul_right _ hg) (by decide)
  · have h6 : gx.2.1.length ≤ 6 := Nat.le_trans (hm gx hx) hr
    have : gx.2.1.length * gx.2.1.length ≤ 6 * 6 := Nat.mul_le_mul h6 h6
    exact Nat.mul_le_mul this (by decide)
  · omega
section
variable {P : Program} {w : World} {K : PySem.W.Frag} {mg : Str → Option Value} {base : Heap} {f fC fW fG fS fO fI : Addr} {fd fdC fdW fdG fdS fdO fdI : FuncData}
/-- right(world): it returns True -/
def spRight : Sp := fun vs H Q _ => ∃ (wa r g : Addr) (as : List Addr) (rs : List Str) (gs : List Gt), vs = [.ref wa] ∧ WorldAt H wa r g as rs gs ∧ WFine rs gs ∧ Small4 rs gs ∧
  ∀ H' : Hp, Same H H' → Q (.bl true) H'
theorem ok_right (F : Fun K "_law_right" "_law_right" st_right f fd) (B : Blt mg) (hany : mg "any" = none) (hisi : mg "isinstance" = none) (F_cycle_lengths : Df P w K mg base "_law_cycle_lengths" 2 fC fdC ["_law_world_here", "_law_name"] spCl) (F_wrapping : Df P w K mg base "_law_wrapping" 1 fW fdW ["_law_world_here"] spWrapping)
    (F_girth : Df P w K mg base "girth" 5 fG fdG ["world"] spGirth) (F_shortest_cycle : Df P w K mg base "shortest_cycle" 4 fS fdS ["world"] spScyc) (F_own_is_cycle : Df P w K mg base "_law_is_cycle" 1 fO fdO ["_law_world_here", "_law_value"] spOwnCyc) (F_is_cycle : Df P w K mg base "is_cycle" 3 fI fdI ["world", "value"] spIsCycle) :
    FnG P w K mg base CX0 6 f fd ["_law_world_here"] spRight := by
  refine okG F sc_right (fun vs H Q E h => ?_) (fun cdv A outer s H vs Q E hgd hr h => ?_)
  · obtain ⟨_, _, _, _, _, _, rfl, _⟩ := h
    rfl
  · obtain ⟨wa, r, g, as, rs, gs, rfl, hw, wf, ⟨M, D, T, hMD, hT, hgT, hsm⟩, q⟩ := h
    refine ⟨_, (pss_cons (ps_set (i := 1) sc_right.nd rfl (.inl rfl) (pe_lst pa_nil))
      (pss_cons (ps_for PassesOwn.never rfl (pi_list (pe_callG hgd F_wrapping.G (hr.mono (by decide)) (by rfl) F_wrapping.g F_wrapping.kp F_wrapping.bd pass0 (pa_cons (pv 0) pa_nil))) (pg_name (i := 2) sc_right.nd rfl (.inl rfl))
       (pss_one (ps_expr (pe_bm PySem.F.plainAttrs_list PySem.F.slot_list_extend PySem.F.type_list_extend mt_extend (pv 1) (pa_cons (pe_callG hgd F_cycle_lengths.G (hr.mono (by decide)) (by rfl) F_cycle_lengths.g F_cycle_lengths.kp F_cycle_lengths.bd pass0 (pa_cons (pv 0) (pa_cons (pv 2) pa_nil))) pa_nil)))))
      (pss_cons (ps_par (by rfl) sc_right.nd (i := 3) (j := 4) rfl rfl (by decide) rfl rfl (pa_cons (pe_callG hgd F_girth.G (hr.mono (by decide)) (by rfl) F_girth.g F_girth.kp F_girth.bd pass0 (pa_cons (pv 0) pa_nil)) (pa_cons (pe_callG hgd F_shortest_cycle.G (hr.mono (by decide)) (by rfl) F_shortest_cycle.g F_shortest_cycle.kp F_shortest_cycle.bd pass0 (pa_cons (pv 0) pa_nil)) pa_nil)) (by rfl))
      (pss_cons (ps_if (pt_cmpR (op_eqD hr.units) (pv 1) (pe_lst pa_nil) (nomark _))
       (pss_one (ps_ret (pe_and (pe_cmpR op_isN (pv 3) pe_non (nomark _)) (pe_one (pe_cmpR op_isN (pv 4) pe_non (nomark _))))))
       pss_nil)
      (pss_cons (ps_if (PW.pt (pw_or (pt_cmpR op_ne (pe_callB (call_repr hgd hr.units) (by rfl) B.repr (by decide +kernel) (pa_cons (pv 3) pa_nil)) (pe_callB (call_repr hgd hr.units) (by rfl) B.repr (by decide +kernel) (pa_cons (pe_callB (cr_min rfl) (by rfl) B.min (by decide +kernel) (pa_cons (pv 1) pa_nil)) pa_nil)) (nomark _)) (pw_or (pt_not (pt_val (pe_callB call_isi (by rfl) hisi (by decide +kernel) (pa_cons (pv 4) (pa_cons (pe_bltn (v := .ty "tuple") (by rfl) B.tuple (by decide +kernel) rfl) pa_nil))))) (pw_or1 (pt_cmpR op_ne (pe_callB call_len (by rfl) B.len (by decide +kernel) (pa_cons (pv 4) pa_nil)) (pv 3) (nomark _))))))
       (pss_one (ps_ret pe_bl))
       pss_nil)
      (pss_cons (ps_if (PW.pt (pw_or (pt_not (pt_val (pe_callG hgd F_own_is_cycle.G (hr.mono (by decide)) (by rfl) F_own_is_cycle.g F_own_is_cycle.kp F_own_is_cycle.bd pass0 (pa_cons (pv 0) (pa_cons (pv 4) pa_nil))))) (pw_or1 (pt_cmpR op_notB (pe_callG hgd F_is_cycle.G (hr.mono (by decide)) (by rfl) F_is_cycle.g F_is_cycle.kp F_is_cycle.bd pass0 (pa_cons (pv 0) (pa_cons (pv 4) pa_nil))) pe_bl (nomark _)))))
       (pss_one (ps_ret pe_bl))
       pss_nil)
      (pss_cons (ps_set (i := 5) sc_right.nd rfl (.inr rfl) (pe_callG hgd F_wrapping.G (hr.mono (by decide)) (by rfl) F_wrapping.g F_wrapping.kp F_wrapping.bd pass0 (pa_cons (pv 0) pa_nil)))
      (pss_one (ps_ret (pe_and (pe_callB (cr_any rfl) (by rfl) hany (by decide +kernel) (pa_cons (pe_lc (own := [("_law_pair", 6)]) (by rfl) sc_right.nd (pi_tup (pv 4)) (blkOk_by (own := [("_law_pair", 6)]) (N := ["_law_world_here", "_law_lengths", "_law_name", "_law_told", "_law_cycle", "_law_wrapping_here", "_law_pair"]) (sc := defScope st_right) (by decide +kernel)) (fun _ _ _ _ _ => (pg_name (i := 6) sc_right.nd rfl (.inl rfl))) (fun _ _ _ _ _ => pts_nil) (fun _ _ _ _ _ => (pe_cmpR (op_inK (K := K)) (pe_ix (ix_tupK (K := K)) (pv 6) pe_int (fun _ _ => rfl)) (pv 5) (by rfl)))) pa_nil)) (pe_one (pe_cmpR (op_eqD hr.units) (pe_callG hgd F_shortest_cycle.G (hr.mono (by decide)) (by rfl) F_shortest_cycle.g F_shortest_cycle.kp F_shortest_cycle.bd pass0 (pa_cons (pv 0) pa_nil)) (pv 4) (nomark _))))))))))))), ?_⟩
    have hgl := wf.gl
    have hrl := wf.rl
    have hm : ∀ g ∈ gs, ∀ z ∈ g.2.1, z ∈ rs := fun g hg => (wf.each g hg).2.2.1
    have hgs : ∀ g ∈ gs, PyData.strOk g.1 = true ∧ g.2.1.length ≤ 100 ∧ ∀ y ∈ g.2.1, y ∈ rs := fun g hg => ⟨(wf.each g hg).1.ok, by have := (wf.each g hg).2.1; omega, hm g hg⟩
    have hil : ∀ g ∈ gs, g.2.1.length ≤ 100 ∧ ∀ y ∈ g.2.1, y ∈ rs := fun g hg => (hgs g hg).2
    have hrok : ∀ s ∈ rs, PyData.strOk s = true := fun s hs => (wf.rok s hs).ok
    have W : WHere H wa r g as rs gs := ⟨hw, wf.nd, by omega, by omega, hil⟩
    have lw : (wrapsG gs).length ≤ gs.length := List.length_filter_le _ _
    have wsub : ∀ g ∈ wrapsG gs, g ∈ gs := fun g hg => (List.mem_filter.mp hg).1
    -- lengths = []
    refine ⟨(by show 0 ≤ sizeLine; decide), fun F nF => ?_⟩
    have z0 := same_new nF (o := .lst [])
    have hF0 : upd H F (.lst []) F = some (.lst []) := upd_same
    generalize upd H F (.lst []) = H0 at z0 hF0 ⊢
    refine ⟨_, rfl, wa, r, g, as, rs, gs, rfl, hw.same z0, by omega, fun H1 wl s1 nwl hwl => ?_⟩
    have hwl' : H1 wl = some (.lst (((wrapsG gs).map fun g : Gt => g.1).map V.str)) := hwl
    refine ⟨wl, rfl, ⟨_, SqL.of hwl'⟩, for_it (walk_list (xs := ((wrapsG gs).map fun g : Gt => g.1).map V.str)) (fun j σ H' => ∃ (ns : List Int) (v2 : Option V), σ = [some (.ref wa), some (.ref F), v2, none, none, none, none] ∧ Same H H' ∧ H' wl = some (.lst (((wrapsG gs).map fun g : Gt => g.1).map V.str)) ∧ wl ≠ F ∧ H' F = some (.lst (ns.map V.int)) ∧ ns.length ≤ j * T ∧
        ∀ n, n ∈ ns ↔ ∃ g ∈ (wrapsG gs).take j, CycLen gs rs g n)
      ⟨[], none, rfl, z0.trans s1, hwl', ?_, s1 _ _ hF0, by simp, fun n => by simp⟩ (fun j σ H' _ ⟨_, _, _, _, h, _⟩ => SqL.of h) (fun j v σ H2 H3 hj hP hY => ?_) (fun σ H2 hP => ?_)⟩
    · exact Ne.symm (ne_of_none hF0 nwl)
    · obtain ⟨ns, v2, rfl, s2, hwl2, nwF, hF2, hnl, hns⟩ := hP
      obtain ⟨rfl, hv⟩ := hY
      rw [List.getElem?_map, List.getElem?_map] at hv
      obtain ⟨n, hn, rfl⟩ := Option.map_eq_some_iff.mp hv
      obtain ⟨gg, hgg, rfl⟩ := Option.map_eq_some_iff.mp hn
      have hjl : j < (wrapsG gs).length := (List.getElem?_eq_some_iff.mp hgg).1
      have ggm : gg ∈ gs := wsub gg (List.mem_of_getElem? hgg)
      obtain ⟨sm1, sm2⟩ := hsm gg ggm
      refine ⟨_, rfl, .inl ⟨rfl, _, SqL.of hF2⟩, _, rfl, _, rfl, wa, r, g, as, rs, gs, gg, M, D, rfl, hw.same s2, ggm, wf.nd, hrok, hgs, by omega, by omega, fun one ho => (sm2 one ho).1, fun one ho => (sm2 one ho).2, hMD, by omega, fun H4 p ms s4 hp hml hms => ?_⟩
      have hF4 := s4 _ _ hF2
      have fits : j * T + T ≤ gs.length * T := by
        have : (j + 1) * T ≤ gs.length * T := Nat.mul_le_mul_right _ (by omega)
        rw [Nat.add_mul, Nat.one_mul] at this
        exact this
      refine ⟨F, p, _, _, rfl, rfl, hF4, hp, ?_, ?_⟩
      · rw [List.length_map, List.length_map]
        omega
      refine ⟨ns ++ ms, _, rfl, fun d o ed => ?_, ?_, nwF, ?_, ?_, fun n => ?_⟩
      · rw [upd_ne (ne_of_none ed nF)]
        exact s4 _ _ (s2 _ _ ed)
      · rw [upd_ne nwF]
        exact s4 _ _ hwl2
      · rw [upd_same, List.map_append]
      · rw [List.length_append, Nat.add_mul, Nat.one_mul]
        omega
      · rw [List.mem_append, hns n, hms n, List.take_add_one, hgg]
        constructor
        · rintro (⟨g', h1, h2⟩ | h)
          · exact ⟨g', List.mem_append_left _ h1, h2⟩
          · exact ⟨gg, List.mem_append_right _ (by simp), h⟩
        · rintro ⟨g', h1, h2⟩
          rcases List.mem_append.mp h1 with h1 | h1
          · exact .inl ⟨g', h1, h2⟩
          · have : g' = gg := by simpa using h1
            rw [this] at h2
            exact .inr h2
    obtain ⟨ns, v2, rfl, s2, hwl2, nwF, hF2, hnl, hns⟩ := hP
    rw [List.length_map, List.length_map, List.take_length] at hns
    -- told, cycle = girth(world), shortest_cycle(world)
    refine ⟨_, rfl, wa, r, g, as, rs, gs, rfl, W.same s2, fun H3 s3 => ?_⟩
    have s03 := s2.trans s3
    refine ⟨_, rfl, wa, r, g, as, rs, gs, rfl, W.same s03, fun H4 cv s4 hcv => ?_⟩
    refine ⟨_, _, rfl, ?_⟩
    have s24 := s3.trans s4
    have s04 := s2.trans s24
    have hF4 := s24 _ _ hF2
    -- if lengths == []
    refine ⟨_, rfl, (by show 0 ≤ sizeLine; decide), fun e ne => ?_⟩
    have ze := same_new ne (o := .lst [])
    have hF5 := ze _ _ hF4
    have s05 := s04.trans ze
    have he5 : upd H4 e (.lst []) e = some (.lst []) := upd_same
    have hcv5 := hcv.same ze
    generalize upd H4 e (.lst []) = H5 at ze hF5 s05 he5 hcv5 ⊢
    refine ⟨_, _, .lst (SqL.of hF5) (dp_ints ns), .lst (SqL.of he5) .nil, shaped_ints ns, shaped_nil, _, rfl, ?_⟩
    rw [eqv_nilD]
    by_cases c0 : ns = []
    · -- no cycle
      have sn : scyc gs rs = none := by
        refine scyc_none.mpr fun g' hg' => ?_
        cases e2 : cycT gs rs g' with
        | none => rfl
        | some c =>
          have := (hns (c.length : Int)).mpr ⟨g', hg', cycLn_iff.mpr ⟨_, (cycT_some wf.nd hm (wsub g' hg') e2).2.2.1, rfl⟩⟩
          rw [c0] at this
          cases this
      rw [sn] at hcv5 ⊢
      have hcv5 : cv = .non := hcv5
      subst hcv5
      refine ifT (by rw [c0]; rfl) ⟨_, rfl, rfl, _, rfl, ifT rfl ⟨_, rfl, rfl, q _ s05⟩⟩
    · refine ifF (by cases ns with | nil => exact absurd rfl c0 | cons _ _ => rfl) ?_
      obtain ⟨c, hc⟩ : ∃ c, scyc gs rs = some c := by
        cases e2 : scyc gs rs with
        | some c => exact ⟨c, rfl⟩
        | none =>
          exfalso
          obtain ⟨n, hn⟩ := List.exists_mem_of_ne_nil _ c0
          obtain ⟨g', hg', hl⟩ := (hns n).mp hn
          have := scyc_none.mp e2 g' hg'
          rw [cycT_none hm (wsub g' hg')] at this
          obtain ⟨a, ha, b, hb, ne, l, h1, h2, _⟩ := hl
          have cn : Conn gs [g'.1] a b := by
            rw [← h2]
            exact h1.last.conn
          rcases str_tri a b with t | t | t
          · exact this ⟨a, ha, b, hb, t, cn⟩
          · exact ne t.symm
          · exact this ⟨b, hb, a, ha, t, cn.symm⟩
      rw [hc] at hcv5 ⊢
      obtain ⟨⟨gc, hgc, egc⟩, hmin⟩ := scyc_some hc
      obtain ⟨C, cin, cln, _⟩ := cycT_some wf.nd hm (wsub gc hgc) egc
      have lsh := C.short
      have ltwo := C.two
      -- repr(told) != repr(min(lengths))
      obtain ⟨f1, f2, f3⟩ := fit_small c.length (by omega)
      refine ⟨_, rfl, _, .int (c.length : Int), rfl, .int _, f1, f2, f3, ?_⟩
      refine ⟨_, rfl, F, ns, rfl, SqL.of hF5, List.length_pos_iff.mpr c0, fun least hm1 hm2 => ?_⟩
      obtain rfl : least = (c.length : Int) := by
        have k1 := hm2 (c.length : Int) ((hns _).mpr ⟨gc, hgc, cycLn_iff.mpr ⟨_, cln, rfl⟩⟩)
        obtain ⟨g', hg', hl⟩ := (hns least).mp hm1
        obtain ⟨k, hk, ek⟩ := cycLn_iff.mp hl
        cases e2 : cycT gs rs g' with
        | none =>
          exfalso
          rw [cycT_none hm (wsub g' hg')] at e2
          obtain ⟨a, ha, b, hb, ne, l, h1, h2, _⟩ := hk
          have cn : Conn gs [g'.1] a b := by
            rw [← h2]
            exact h1.last.conn
          rcases str_tri a b with t | t | t
          · exact e2 ⟨a, ha, b, hb, t, cn⟩
          · exact ne t.symm
          · exact e2 ⟨b, hb, a, ha, t, cn.symm⟩
        | some c' =>
          have k2 := hmin g' hg' c' e2
          have k3 := (cycT_some wf.nd hm (wsub g' hg') e2).2.2.2 k hk
          omega
      refine ⟨_, .int (c.length : Int), rfl, .int _, f1, f2, f3, rfl, _, rfl, ifF (by simp) ?_⟩
      obtain ⟨p, us, rfl, hp, hus⟩ := hcv5
      have lus := Paired.length hus
      -- not isinstance(cycle, tuple)
      refine ⟨_, rfl, _, _, .type "tuple", .type "tuple", true, rfl, .ty "tuple", .base (.tup hp), kit_ty (by rfl), _, rfl, ifF rfl ?_⟩
      -- len(cycle) != told
      refine ⟨_, rfl, _, c.length, rfl, .inr ⟨_, SqT.of hp, by rw [List.length_map]; exact lus.symm⟩, _, rfl, rfl, _, rfl, ifF (by show (!decide (V.int (c.length : Int) = V.int (c.length : Int))) = false; simp) ?_⟩
      have W5 := W.same s05
      have res5 : CycRes H5 (.ref p) (some c) := ⟨p, us, rfl, hp, hus⟩
      -- not own is_cycle(..)
      refine ⟨_, rfl, _, rfl, wa, r, g, as, rs, gs, .ref p, c, rfl, W5, res5, C, by omega, fun H6 s6 => ⟨_, rfl, ifF rfl ?_⟩⟩
      have res6 := res5.same s6
      have W6 := W5.same s6
      -- is_cycle(..) is not True
      refine ⟨_, rfl, _, rfl, wa, r, g, as, rs, gs, .ref p, c, rfl, W6, res6, C, by omega, fun H7 s7 => ⟨true, true, rfl, rfl, _, rfl, ifF rfl ?_⟩⟩
      have s57 := s6.trans s7
      have W7 := W6.same s7
      have hp7 := s57 _ _ hp
      have hus7 : PairsAt H7 us c := Paired.mapP hus fun _ _ z => s57 _ _ z
      -- wrapping_here
      refine ⟨_, rfl, wa, r, g, as, rs, gs, rfl, W7.at_, by omega, fun H8 w2 s8 _ hw2 => ?_⟩
      have hw2' : H8 w2 = some (.lst (((wrapsG gs).map fun g : Gt => g.1).map V.str)) := hw2
      have hp8 := s8 _ _ hp7
      have hus8 : PairsAt H8 us c := Paired.mapP hus7 fun _ _ z => s8 _ _ z
      -- any([..])
      refine ⟨_, rfl, p, rfl, ⟨_, SqT.of hp8⟩, fun L nL => lc_tup (K := K) (a := p) (xs := us.map V.ref) (fun m H' => Same H8 H' ∧ H' L = some (.lst (((c.take m).map fun q => decide (q.2 ∈ (wrapsG gs).map fun g : Gt => g.1)).map V.bl)))
        ⟨same_new nL, upd_same⟩ (fun m H' _ ⟨s', _⟩ => SqT.of (s' _ _ hp8)) (fun m v H9 hm2 hP => ?_) fun H9 hP => ?_⟩
      · obtain ⟨s9, hL⟩ := hP
        rw [List.getElem?_map] at hm2
        obtain ⟨u, hu, rfl⟩ := Option.map_eq_some_iff.mp hm2
        obtain ⟨pr, hpr, hat⟩ := pair_at hus8 hu
        refine ⟨rfl, _, rfl, u, _, 1, .str pr.2, rfl, rfl, SqT.of (s9 _ _ hat), atI_nat (j := 1) rfl, _, rfl, w2, _, rfl, .inl (SqL.of (s9 _ _ hw2')), rfl, WT.flat_strs _, ?_⟩
        rw [inV_str]
        refine ⟨_, hL, ?_, fun d o ed => ?_, ?_⟩
        · rw [List.length_map, List.length_map, List.length_take]
          exact Nat.lt_of_le_of_lt (show min m c.length ≤ 100 by omega) (by decide)
        · rw [upd_ne (ne_of_none ed nL)]
          exact s9 _ _ ed
        · rw [upd_same, List.take_add_one, hpr, List.map_append, List.map_append]
          rfl
      · obtain ⟨s9, hL⟩ := hP
        rw [List.length_map, lus, List.take_length] at hL
        refine ⟨L, _, rfl, SqL.of hL, ?_⟩
        have yes : (c.map fun q => decide (q.2 ∈ (wrapsG gs).map fun g : Gt => g.1)).any id = true := by
          obtain ⟨qc, hqc, eqc⟩ := List.mem_map.mp cin
          refine List.any_eq_true.mpr ⟨true, List.mem_map.mpr ⟨qc, hqc, ?_⟩, rfl⟩
          exact decide_eq_true (by rw [eqc]; exact List.mem_map.mpr ⟨gc, hgc, rfl⟩)
        rw [yes]
        refine ⟨_, rfl, ifT rfl ?_⟩
        -- shortest_cycle(world) == cycle
        have s79 := s8.trans s9
        refine ⟨_, rfl, wa, r, g, as, rs, gs, rfl, W7.same s79, fun H10 v2 s10 hv2 => ?_⟩
        rw [hc] at hv2
        obtain ⟨p2, us2, rfl, hp2, hus2⟩ := hv2
        have s710 := s79.trans s10
        have ok : ∀ qq ∈ c, PyData.strOk qq.1 = true ∧ PyData.strOk qq.2 = true := fun qq hqq => by
          obtain ⟨i, hi, ei⟩ := List.getElem_of_mem hqq
          have hz : i < ((c.map (·.1)).tail ++ (c.map (·.1)).take 1).length := by
            simp
            omega
          obtain ⟨g', h1, h2, h3, h4⟩ := C.join i qq _ (by rw [List.getElem?_eq_getElem hi, ei]) (List.getElem?_eq_getElem hz)
          exact ⟨hrok _ (hm g' h1 _ h3), by rw [← h2]; exact (hgs g' h1).1⟩
        refine ⟨_, rfl, cycD c, cycD c, .tup (SqT.of hp2) (dp_pairs hus2), .tup (SqT.of (s710 _ _ hp7)) (dp_pairs (Paired.mapP hus7 fun _ _ z => s710 _ _ z)), shaped_cyc ok, shaped_cyc ok, ?_⟩
        rw [SeqAt.eqv_refl _ (SeqAt.canLay_of_shaped (shaped_cyc ok))]
        exact q _ (s05.trans (s57.trans s710))
end
end K12

set_option Elab.async false
set_option linter.all false
set_option maxRecDepth 100000
set_option maxHeartbeats 4000000
namespace K12
open PySem PySem.Spec PyProof.Rows L2 WT
abbrev st_law : Stmt := top 31
theorem sc_law : FnScope ["_law_script", "_law_k", "_law_hand_here", "_law_turn", "_law_world_here", "_law_time", "_law_some", "_law_gateway"] ["_law_script"] (defScope st_law) := ⟨rfl, rfl, rfl, by decide +kernel, rfl, by decide +kernel, by decide +kernel⟩
theorem rewire_fine {rs : List Str} {gs : List Gt} {ws : List Str} (h : WFine rs gs) : WFine rs (rewire gs ws) := by
  have e : (rewire gs ws).map (·.1) = gs.map (·.1) := by
    unfold rewire
    rw [List.map_map]
    rfl
  refine ⟨h.rl, by unfold rewire; rw [List.length_map]; exact h.gl, h.rok, by rw [e]; exact h.nd, fun g hg => ?_⟩
  unfold rewire at hg
  obtain ⟨g0, hg0, rfl⟩ := List.mem_map.mp hg
  obtain ⟨k1, k2, k3, k4⟩ := h.each g0 hg0
  refine ⟨k1, k2, k3, ?_⟩
  show NmOk (if g0.1 ∈ ws then ("wrap" : Str) else "open")
  by_cases c : g0.1 ∈ ws
  · rw [if_pos c]
    exact nm_wrap
  · rw [if_neg c]
    exact nm_open
theorem rewire_len {gs : List Gt} {ws : List Str} : (rewire gs ws).length = gs.length := by
  unfold rewire
  rw [List.length_map]
theorem rewire_mem {gs : List Gt} {ws : List Str} {n : Nat} (h : ∀ g ∈ gs, g.2.1.length ≤ n) : ∀ g ∈ rewire gs ws, g.2.1.length ≤ n := fun g hg => by
  unfold rewire at hg
  obtain ⟨g0, hg0, rfl⟩ := List.mem_map.mp hg
  exact h g0 hg0
section
variable {P : Program} {w : World} {K : PySem.W.Frag} {mg : Str → Option Value} {base : Heap} {f fR fW fH fT fV : Addr} {fd fdR fdW fdH fdT fdV : FuncData}
def spLaw (K : PySem.W.Frag) : Sp := fun vs H Q _ => ∃ (a : Addr) (ns : List Int), vs = [.ref a] ∧ SqL K H a (ns.map V.int) ∧ ns.length ≤ 63 ∧ ∀ H', Q (.bl true) H'
theorem ok_law (F : Fun K "law" "law" st_law f fd) (B : Blt mg) (F_right : Df P w K mg base "_law_right" 6 fR fdR ["_law_world_here"] spRight)
    (F_world : Df P w K mg base "_law_world" 5 fW fdW ["_law_hand_here", "_law_most_regions", "_law_most_gateways"] spWorld) (F_hand : Df P w K mg base "_law_hand" 1 fH fdH ["_law_script", "_law_k"] (spHand K))
    (F_take : Df P w K mg base "_law_take" 1 fT fdT ["_law_hand_here", "_law_many"] spTake) (F_rewired : Df P w K mg base "_law_rewired" 1 fV fdV ["_law_world_here", "_law_wrapping_here"] (spRewired K)) :
    FnG P w K mg base CX0 7 f fd ["_law_script"] (spLaw K) := by
  refine okG F sc_law (fun vs H Q E h => ?_) (fun cdv A outer s H vs Q E hgd hr h => ?_)
  · obtain ⟨_, _, rfl, _⟩ := h
    rfl
  · obtain ⟨a, ns, rfl, hs, hl, q⟩ := h
    refine ⟨_, (pss_cons (ps_for PassesOwn.never rfl (pi_range1 (by rfl) B.range (pa_cons (pe_callB (call_max2 rfl) (by rfl) B.max (by decide +kernel) (pa_cons pe_int (pa_cons (pe_callB (call_min2 rfl) (by rfl) B.min (by decide +kernel) (pa_cons pe_int (pa_cons (pe_callB call_len (by rfl) B.len (by decide +kernel) (pa_cons (pv 0) pa_nil)) pa_nil))) pa_nil))) pa_nil)) (pg_name (i := 1) sc_law.nd rfl (.inl rfl))
       (pss_cons (ps_set (i := 2) sc_law.nd rfl (.inr rfl) (pe_callG hgd F_hand.G (hr.mono (by decide)) (by rfl) F_hand.g F_hand.kp F_hand.bd pass0 (pa_cons (pv 0) (pa_cons (pv 1) pa_nil))))
       (pss_one (ps_for PassesOwn.never rfl (pi_range1 (by rfl) B.range (pa_cons pe_int pa_nil)) (pg_name (i := 3) sc_law.nd rfl (.inl rfl))
        (pss_cons (ps_set (i := 4) sc_law.nd rfl (.inl rfl) (pe_callG hgd F_world.G (hr.mono (by decide)) (by rfl) F_world.g F_world.kp F_world.bd pass0 (pa_cons (pv 2) (pa_cons pe_int (pa_cons pe_int pa_nil)))))
        (pss_cons (ps_if (pt_not (pt_val (pe_callG hgd F_right.G (hr.mono (by decide)) (by rfl) F_right.g F_right.kp F_right.bd pass0 (pa_cons (pv 4) pa_nil))))
         (pss_one (ps_ret pe_bl))
         pss_nil)
        (pss_one (ps_for PassesOwn.never rfl (pi_range1 (by rfl) B.range (pa_cons pe_int pa_nil)) (pg_name (i := 5) sc_law.nd rfl (.inl rfl))
         (pss_cons (ps_setLc (i := 6) (own := [("_law_gateway", 7)]) (by rfl) sc_law.nd rfl rfl (sw_true rfl rfl rfl (by decide +kernel)) (pi_tup (pe_ix ix_tup (pv 4) pe_int (fun _ _ => rfl))) (blkOk_by (own := [("_law_gateway", 7)]) (N := ["_law_script", "_law_k", "_law_hand_here", "_law_turn", "_law_world_here", "_law_time", "_law_some", "_law_gateway"]) (sc := defScope st_law) (by decide +kernel)) (fun _ _ _ _ _ => (pg_name (i := 7) sc_law.nd rfl (.inl rfl))) (fun _ _ _ _ _ => (pts_one (pt_cmpR op_eq (pe_callG hgd F_take.G (hr.mono (by decide)) (by rfl) F_take.g F_take.kp F_take.bd pass0 (pa_cons (pv 2) (pa_cons pe_int pa_nil))) pe_int (nomark _)))) (fun _ _ _ _ _ => (pe_ix (ix_tupK (K := K)) (pv 7) pe_int (fun _ _ => rfl))))
         (pss_one (ps_if (pt_not (pt_val (pe_callG hgd F_right.G (hr.mono (by decide)) (by rfl) F_right.g F_right.kp F_right.bd pass0 (pa_cons (pe_callG hgd F_rewired.G (hr.mono (by decide)) (by rfl) F_rewired.g F_rewired.kp F_rewired.bd pass0 (pa_cons (pv 4) (pa_cons (pv 6) pa_nil))) pa_nil))))
          (pss_one (ps_ret pe_bl))
          pss_nil)))))))))))
      (pss_one (ps_ret pe_bl))), ?_⟩
    refine ⟨_, rfl, _, ns.length, rfl, .inl ⟨_, hs, (List.length_map ..).symm⟩, 3, (ns.length : Int), rfl, 1, _, rfl, ?_⟩
    obtain ⟨n, hn, hn1, hn2⟩ : ∃ n : Int, (if (if (ns.length : Int) < 3 then (ns.length : Int) else 3) > 1 then (if (ns.length : Int) < 3 then (ns.length : Int) else 3) else 1) = n ∧ 1 ≤ n ∧ n ≤ 3 := by
      refine ⟨_, rfl, ?_, ?_⟩ <;> (split <;> split <;> omega)
    rw [hn]
    refine ⟨n, rfl, by omega, by omega, for_it (walk_range (lo := 0) (n := n.toNat)) (fun j σ H' => ∃ v1 v2 v3 v4 v5 v6 : Option V, σ = [some (.ref a), v1, v2, v3, v4, v5, v6, none] ∧ Same H H') ⟨none, none, none, none, none, none, rfl, fun _ _ e => e⟩ (fun _ _ _ _ _ => trivial) (fun j v σ H2 H3 hj hP hY => ?_) (fun σ H2 hP => ?_)⟩
    · obtain ⟨v1, v2, v3, v4, v5, v6, rfl, sj⟩ := hP
      obtain ⟨rfl, hv⟩ := hY
      refine ⟨_, rfl, _, rfl, a, ns, j, by rw [hv]; simp, sj.seq hs, hl, by omega, fun H4 p s4 np hp => ?_⟩
      refine ⟨3, rfl, by omega, by omega, for_it (walk_range (lo := 0) (n := 3)) (fun i σ H' => ∃ v3 v4 v5 v6 : Option V, σ = [some (.ref a), some v, some (.ref p), v3, v4, v5, v6, none] ∧ But p H4 H' ∧ PotAt H' p (400 * i)) ⟨v3, v4, v5, v6, rfl, .refl _ _, hp⟩ (fun _ _ _ _ _ => trivial) (fun i u σ H5 H6 hi hP hY => ?_) (fun σ H5 hP => ?_)⟩
      · obtain ⟨w3, w4, w5, w6, rfl, b5, p5⟩ := hP
        obtain ⟨rfl, hu⟩ := hY
        refine ⟨_, rfl, p, 400 * i, 6, 4, rfl, p5, by omega, by omega, by omega, by omega, fun H7 wp r g as rs gs b7 p7 hw hok l1 l2 => ?_⟩
        have gm : ∀ g ∈ gs, g.2.1.length ≤ rs.length := fun g hg => (hok.each g hg).len.2
        have lgs := Paired.length hw.each
        refine ⟨_, rfl, wp, r, g, as, rs, gs, rfl, hw, hok.fine, small4_of l1 l2 gm, fun H8 s8 => ?_⟩
        refine ⟨_, rfl, ifF rfl ?_⟩
        have hw8 := hw.same s8
        have p8 := p7.same s8
        refine ⟨3, rfl, by omega, by omega, for_it (walk_range (lo := 0) (n := 3)) (fun m σ H' => ∃ v5 v6 : Option V, σ = [some (.ref a), some v, some (.ref p), some u, some (.ref wp), v5, v6, none] ∧ But p H8 H' ∧ PotAt H' p (400 * i + 300 + 4 * m)) ⟨w5, w6, rfl, .refl _ _, p8.more (by omega)⟩ (fun _ _ _ _ _ => trivial) (fun m x σ H9 H10 hm hP hY => ?_) (fun σ H9 hP => ?_)⟩
        · obtain ⟨x5, x6, rfl, b9, p9⟩ := hP
          obtain ⟨rfl, hx⟩ := hY
          have hw9 := hw8.but p8 b9
          -- some = [gateway[0] .. if take(hand, 2) == 0]
          refine ⟨_, rfl, wp, _, 1, .ref g, rfl, rfl, SqT.of hw9.top, atI_nat (j := 1) rfl, g, rfl, ⟨_, SqT.of hw9.gat⟩, fun L nL => ?_⟩
          have nLp : L ≠ p := Ne.symm (p9.ne_new nL)
          refine lc_tup (K := K) (a := g) (xs := as.map V.ref) (fun k H' => But p H10 H' ∧ PotAt H' p (400 * i + 300 + 4 * m + k) ∧ ∃ zs : List Str, H' L = some (.lst (zs.map V.str)) ∧ zs.length ≤ k)
            ⟨.of (same_new nL), (p9.same (same_new nL)).more (by omega), [], upd_same, Nat.le_refl _⟩ (fun k H' _ ⟨b', _⟩ => SqT.of (b' _ _ (p9.ne_tup hw9.gat) hw9.gat)) (fun k y H11 hk hP => ?_) fun H11 hP => ?_
          · obtain ⟨b11, p11, zs, hL, hzl⟩ := hP
            rw [List.getElem?_map] at hk
            obtain ⟨t, ht, rfl⟩ := Option.map_eq_some_iff.mp hk
            have hkl : k < as.length := (List.getElem?_eq_some_iff.mp ht).1
            refine ⟨rfl, _, rfl, p, 400 * i + 300 + 4 * m + k, 2, rfl, p11, by omega, by decide, by decide, fun H12 z b12 p12 z0 z1 => ⟨rfl, _, rfl, ?_⟩⟩
            have hL12 := b12 _ _ nLp hL
            have hw12 := (hw9.but p9 b11).but p11 b12
            obtain ⟨gg, hgg, ia, e1, e2⟩ := pair_at hw12.each ht
            by_cases c : z = 0
            · subst c
              refine ifT (by simp) ⟨_, rfl, t, _, 0, .str gg.1, rfl, rfl, SqT.of e1, atI_nat (j := 0) rfl, _, hL12, ?_, fun d o nd ed => ?_, ?_, zs ++ [gg.1], ?_, ?_⟩
              · rw [List.length_map]
                exact Nat.lt_of_le_of_lt (show zs.length ≤ 100 by omega) (by decide)
              · rw [upd_ne (ne_of_none ed nL)]
                exact b12 _ _ nd (b11 _ _ nd ed)
              · exact (pot_upd p12 (Ne.symm nLp)).more (by omega)
              · rw [upd_same, List.map_append]
                rfl
              · rw [List.length_append]
                show zs.length + 1 ≤ k + 1
                omega
            · refine ifF (by simp [c]) ⟨b11.trans b12, p12.more (by omega), zs, hL12, by omega⟩
          · obtain ⟨b11, p11, zs, hL, hzl⟩ := hP
            rw [List.length_map] at p11
            have hw11 := hw9.but p9 b11
            refine ⟨_, rfl, _, rfl, wp, r, g, L, as, rs, gs, zs, rfl, hw11, by omega, SqL.of hL, fun H12 pw g' as' s12 hw12 => ?_⟩
            refine ⟨pw, r, g', as', rs, rewire gs zs, rfl, hw12, rewire_fine hok.fine, small4_of l1 (by rw [rewire_len]; exact l2) (rewire_mem gm), fun H13 s13 => ?_⟩
            refine ⟨_, rfl, ifF rfl ⟨_, _, rfl, ?_, ?_⟩⟩
            · exact b9.trans (b11.trans (.of (s12.trans s13)))
            · exact ((p11.same s12).same s13).more (by omega)
        · obtain ⟨x5, x6, rfl, b9, p9⟩ := hP
          exact ⟨_, _, _, _, rfl, b5.trans (b7.trans ((But.of s8).trans b9)), p9.more (by omega)⟩
      · obtain ⟨w3, w4, w5, w6, rfl, b5, p5⟩ := hP
        refine ⟨_, _, _, _, _, _, rfl, fun c o ec => ?_⟩
        exact b5 _ _ (ne_of_none (sj _ _ ec) np) (s4 _ _ (sj _ _ ec))
    · exact q _
end
end K12

set_option Elab.async false
set_option linter.all false
set_option maxRecDepth 100000
set_option maxHeartbeats 4000000
/-! The law's own call, from a promise that holds where no repr is under way. -/
namespace WT
open PySem PySem.Spec PyProof.Rows L2
section
variable {P : Program} {w : World} {K : PySem.W.Frag} {mg mb : Str → Option Value} {k : Nat} {fa a : Addr} {fd : FuncData} {x : Str} {sp : Sp} {s1 : Shared} {us : List Value} {ns : List Int}
/-- from an abstract heap that tracks the script alone, or nothing -/
theorem lawG_core {H : Hp} (kin : K.In s1.heap) (hg : s1.heap.Ns mainGlobals mg) (hb : s1.heap.Ns builtinsNs mb) (hbb : ∀ y : Str, y ≠ "__name__" → mb y = bootBuiltins y) (hlim : s1.heap.NoLimit) (hgn : s1.gens = #[])
    (ha : s1.heap.get? a = some { cls := .type "list", data := .seq us.toArray }) (hr : Room k callerA) (F : ∀ base : Heap, K.In base → base.Ns mainGlobals mg → FnG P w K mg base CX0 k fa fd [x] sp)
    (hbind : ∀ (s : Shared) (u : Value), BindsTo s fd ⟨[u], []⟩ [(x, u)]) (hO : Only H) (hok : HOk P w H s1.heap) (hA : ∀ b, H b ≠ none → b = a) (hK : H a ≠ none → K.lookup a = none)
    (hsp : sp [.ref a] H (fun v _ => v = .bl true) fun _ _ _ => False) :
    codeAny (model P w) callerA (.call (.ref fa) ⟨[.ref a], []⟩) (fun r s' => r = .ok (.ret (.bool true)) ∧ OldK s1.heap s'.heap ∧ s'.os = s1.os ∧ AllBare s'.gens) s1 := by
  have nodict : ∀ {b : Addr} {o : Obj} {es : Array DictEntry} {ep : Nat}, s1.heap.get? b = some o → o.data = .dict es ep → H b = none := by
    intro b o es ep e d
    cases q : H b with
    | none => rfl
    | some u =>
      obtain rfl := hA b (by rw [q]; exact fun z => nomatch z)
      rw [ha] at e
      cases e
      cases d
  have ns : ∀ {b : Addr} {m : Str → Option Value}, s1.heap.Ns b m → (hidT s1.heap H).Ns b m := by
    intro b m hn
    obtain ⟨o, es, ep, e, d, r⟩ := hn
    exact ⟨o, es, ep, hidT_get e (nodict e d), d, r⟩
  have kin' : K.In (hidT s1.heap H) := by
    intro b o e
    refine hidT_get (kin b o e) ?_
    cases q : H b with
    | none => rfl
    | some u =>
      have eb := hA b (by rw [q]; exact fun z => nomatch z)
      rw [eb] at e q
      rw [hK (by rw [q]; exact fun z => nomatch z)] at e
      cases e
  obtain ⟨mc, l1, l2⟩ := hlim
  have md : Mod K mg (hidT s1.heap H) := ⟨kin', ns hg, ⟨mb, ns hb, hbb⟩, ⟨mc, ns l1, l2⟩⟩
  have e0 : Env0 P w K mg (hidT s1.heap H) callerA [] s1 H :=
    { frames := rfl, mod := md, bs := fun b o e => of_hidT e, bsz := Nat.le_of_eq (hidT_size _ _), funs := trivial, frf := fun b z => absurd (show b ∈ ([] : List Addr) from z) (by simp), hok := hok, bare := .of_eq hgn }
  refine codeAny_mono ((F _ kin' (ns hg)).run callerA [] s1 H ⟨[.ref a], []⟩ [.ref a] [.ref a] _ _ rfl hr e0 (hbind s1 (.ref a)) (.cons rfl .nil) hsp) fun r s' h => ?_
  match r, h with
  | .error e, h => exact h.elim
  | .ok .next, h => exact h.elim
  | .ok .brk, h => exact h.elim
  | .ok .cont, h => exact h.elim
  | .ok (.ret u), h =>
    obtain ⟨v, H', os, bare, un, hok', rv, q⟩ := h
    have q' : v = .bl true := q
    subst q'
    obtain rfl : u = Value.bool true := rv
    refine ⟨rfl, OldK.of_keep fun b o e => ?_, os, bare⟩
    rcases hO b with z | ⟨ob, xs, z⟩
    · exact un.keep b o e z (fun y => absurd (show b ∈ ([] : List Addr) from y) (by simp)) (by simp)
    · have e1 := (hok b _ z).1
      have e2 := (hok' b _ (un.frzs b ob _ z)).1
      rw [e] at e1
      cases e1
      exact e2
theorem lawG_call (kin : K.In s1.heap) (hg : s1.heap.Ns mainGlobals mg) (hb : s1.heap.Ns builtinsNs mb) (hbb : ∀ y : Str, y ≠ "__name__" → mb y = bootBuiltins y) (hlim : s1.heap.NoLimit) (hgn : s1.gens = #[])
    (ha : s1.heap.get? a = some { cls := .type "list", data := .seq us.toArray }) (hi : IntsAre us ns) (hl : ns.length ≤ sizeLine) (hr : Room k callerA)
    (F : ∀ base : Heap, K.In base → base.Ns mainGlobals mg → FnG P w K mg base CX0 k fa fd [x] sp) (hbind : ∀ (s : Shared) (u : Value), BindsTo s fd ⟨[u], []⟩ [(x, u)])
    (hsp : ∀ H : Hp, Only H → SqL K H a (ns.map V.int) → sp [.ref a] H (fun v _ => v = .bl true) fun _ _ _ => False) :
    codeAny (model P w) callerA (.call (.ref fa) ⟨[.ref a], []⟩) (fun r s' => r = .ok (.ret (.bool true)) ∧ OldK s1.heap s'.heap ∧ s'.os = s1.os ∧ AllBare s'.gens) s1 := by
  have rv := vals_ints hi
  cases hk : K.lookup a with
  | some o =>
    have e := kin a o hk
    rw [ha] at e
    cases e
    have no : ∀ b : Addr, (fun _ : Addr => (none : Option HO)) b = none := fun _ => rfl
    refine lawG_core (H := fun _ => none) kin hg hb hbb hlim hgn ha hr F hbind (fun b => .inl rfl) (fun b u z => nomatch z) (fun b z => absurd (no b) z) (fun z => absurd (no a) z) (hsp _ (fun b => .inl rfl) ?_)
    exact .inr ⟨_, us.toArray, _, hk, rfl, rfl, rfl, by rw [List.size_toArray, hi.length]; exact hl, by simpa using rv⟩
  | none =>
    obtain ⟨H, hH⟩ : ∃ H : Hp, ∀ b, H b = if b = a then some (.frz { cls := .type "list", data := .seq us.toArray } (.lst (ns.map V.int))) else none := ⟨_, fun _ => rfl⟩
    have at_ : H a = some (.frz { cls := .type "list", data := .seq us.toArray } (.lst (ns.map V.int))) := by rw [hH a, if_pos rfl]
    have off : ∀ b, b ≠ a → H b = none := fun b z => by rw [hH b, if_neg z]
    have only : Only H := fun b => by
      by_cases z : b = a
      · rw [z]
        exact .inr ⟨_, _, at_⟩
      · exact .inl (off b z)
    refine lawG_core (H := H) kin hg hb hbb hlim hgn ha hr F hbind only (fun b u z => ?_) (fun b z => ?_) (fun _ => hk) (hsp H only (.inl (.inr ⟨_, at_⟩)))
    · by_cases e : b = a
      · subst e
        rw [at_] at z
        cases z
        exact ⟨ha, by rw [List.length_map]; exact hl, us, _, rv, ha⟩
      · rw [off b e] at z
        cases z
    · by_cases e : b = a
      · exact e
      · exact absurd (off b e) z
end
/-- the goal that the head leaves, from the law's promise -/
theorem walkG {l : PySem.W.OpenLaw} {n k : Nat} {q : Program} {loose : List Str} {XP : (Str → Option Value) → Heap → Prop} {YP : World → Heap → Prop} {d : DefRec} {K : Params → PySem.W.Frag} {sp : World → Sp} {x : Str}
    (hn : l.most = some n) (hn2 : n ≤ sizeLine) (hdf : d.params.defaults = []) (hr : Room k callerA) (hY : ∀ (w : World) (h : Heap), YP w h → (K w.params).In h)
    (F : ∀ (w : World) (mg : Str → Option Value) (fa : Addr) (h : Heap), (K w.params).In h → h.Ns mainGlobals mg → mg d.name = some (.ref fa) →
      ∃ fd : FuncData, (∀ (s : Shared) (u : Value), BindsTo s fd ⟨[u], []⟩ [(x, u)]) ∧ ∀ base : Heap, (K w.params).In base → base.Ns mainGlobals mg → FnG l.prog w (K w.params) mg base CX0 k fa fd [x] (sp w))
    (hsp : ∀ (w : World) (H : Hp) (a : Addr) (ns : List Int), ns.length ≤ n → Only H → SqL (K w.params) H a (ns.map V.int) → sp w [.ref a] H (fun v _ => v = .bl true) fun _ _ _ => False) :
    PySem.W.WalkO q loose XP YP l.row.toRowW d [] (fun f vs => PySem.call f vs) := by
  refine Att.attach_call hn hdf fun w s0 s1 mg mb fa o pm cd doc a vs ns G Y ho hd hcd hmg hobj hints hlen hgn => ?_
  have kin := hY w _ Y
  obtain ⟨fd, hb, hF⟩ := F w mg fa _ kin G.T.g hmg
  exact lawG_call kin G.T.g G.T.b G.T.builtins G.T.nolimit hgn hobj hints (Nat.le_trans hlen hn2) hr hF hb fun H hO hS => hsp w H a ns hlen hO hS
end WT

set_option Elab.async false
set_option linter.all false
set_option maxRecDepth 100000
set_option maxHeartbeats 4000000
namespace K12
open PySem PySem.Spec PyProof.Rows L2 WT
theorem all_mk {l : PySem.W.OpenLaw} {w : World} {K : PySem.W.Frag} {h : Heap} {mg : Str → Option Value} {fa : Addr} {f_gateway_names f_wrapping_names f_members f_are_different f_are_joined f_is_pair f_is_cycle f_exits f_shortest_path f_cycle_through f_shortest_cycle f_girth f_hand f_take f_of f_mixed f_names f_gateways f_world f_paths f_cycle_lengths f_wrapping f_rewired f_own_is_cycle f_right f_law : Addr} (X : K.In h) (G : h.Ns mainGlobals mg) (hfa : mg "law" = some (.ref fa))
    {od_gateway_names an_gateway_names : Option Addr} {sl_gateway_names : Array (Option Value)} {oc_gateway_names kV_gateway_names dc_gateway_names pm_gateway_names cd_gateway_names ct_gateway_names : Value}
    {od_wrapping_names an_wrapping_names : Option Addr} {sl_wrapping_names : Array (Option Value)} {oc_wrapping_names kV_wrapping_names dc_wrapping_names pm_wrapping_names cd_wrapping_names ct_wrapping_names : Value}
    {od_members an_members : Option Addr} {sl_members : Array (Option Value)} {oc_members kV_members dc_members pm_members cd_members ct_members : Value}
    {od_are_different an_are_different : Option Addr} {sl_are_different : Array (Option Value)} {oc_are_different kV_are_different dc_are_different pm_are_different cd_are_different ct_are_different : Value}
    {od_are_joined an_are_joined : Option Addr} {sl_are_joined : Array (Option Value)} {oc_are_joined kV_are_joined dc_are_joined pm_are_joined cd_are_joined ct_are_joined : Value}
    {od_is_pair an_is_pair : Option Addr} {sl_is_pair : Array (Option Value)} {oc_is_pair kV_is_pair dc_is_pair pm_is_pair cd_is_pair ct_is_pair : Value}
    {od_is_cycle an_is_cycle : Option Addr} {sl_is_cycle : Array (Option Value)} {oc_is_cycle kV_is_cycle dc_is_cycle pm_is_cycle cd_is_cycle ct_is_cycle : Value}
    {od_exits an_exits : Option Addr} {sl_exits : Array (Option Value)} {oc_exits kV_exits dc_exits pm_exits cd_exits ct_exits : Value}
    {od_shortest_path an_shortest_path : Option Addr} {sl_shortest_path : Array (Option Value)} {oc_shortest_path kV_shortest_path dc_shortest_path pm_shortest_path cd_shortest_path ct_shortest_path : Value}
    {od_cycle_through an_cycle_through : Option Addr} {sl_cycle_through : Array (Option Value)} {oc_cycle_through kV_cycle_through dc_cycle_through pm_cycle_through cd_cycle_through ct_cycle_through : Value}
    {od_shortest_cycle an_shortest_cycle : Option Addr} {sl_shortest_cycle : Array (Option Value)} {oc_shortest_cycle kV_shortest_cycle dc_shortest_cycle pm_shortest_cycle cd_shortest_cycle ct_shortest_cycle : Value}
    {od_girth an_girth : Option Addr} {sl_girth : Array (Option Value)} {oc_girth kV_girth dc_girth pm_girth cd_girth ct_girth : Value}
    {od_hand an_hand : Option Addr} {sl_hand : Array (Option Value)} {oc_hand kV_hand dc_hand pm_hand cd_hand ct_hand : Value}
    {od_take an_take : Option Addr} {sl_take : Array (Option Value)} {oc_take kV_take dc_take pm_take cd_take ct_take : Value}
    {od_of an_of : Option Addr} {sl_of : Array (Option Value)} {oc_of kV_of dc_of pm_of cd_of ct_of : Value}
    {od_mixed an_mixed : Option Addr} {sl_mixed : Array (Option Value)} {oc_mixed kV_mixed dc_mixed pm_mixed cd_mixed ct_mixed : Value}
    {od_names an_names : Option Addr} {sl_names : Array (Option Value)} {oc_names kV_names dc_names pm_names cd_names ct_names : Value}
    {od_gateways an_gateways : Option Addr} {sl_gateways : Array (Option Value)} {oc_gateways kV_gateways dc_gateways pm_gateways cd_gateways ct_gateways : Value}
    {od_world an_world : Option Addr} {sl_world : Array (Option Value)} {oc_world kV_world dc_world pm_world cd_world ct_world : Value}
    {od_paths an_paths : Option Addr} {sl_paths : Array (Option Value)} {oc_paths kV_paths dc_paths pm_paths cd_paths ct_paths : Value}
    {od_cycle_lengths an_cycle_lengths : Option Addr} {sl_cycle_lengths : Array (Option Value)} {oc_cycle_lengths kV_cycle_lengths dc_cycle_lengths pm_cycle_lengths cd_cycle_lengths ct_cycle_lengths : Value}
    {od_wrapping an_wrapping : Option Addr} {sl_wrapping : Array (Option Value)} {oc_wrapping kV_wrapping dc_wrapping pm_wrapping cd_wrapping ct_wrapping : Value}
    {od_rewired an_rewired : Option Addr} {sl_rewired : Array (Option Value)} {oc_rewired kV_rewired dc_rewired pm_rewired cd_rewired ct_rewired : Value}
    {od_own_is_cycle an_own_is_cycle : Option Addr} {sl_own_is_cycle : Array (Option Value)} {oc_own_is_cycle kV_own_is_cycle dc_own_is_cycle pm_own_is_cycle cd_own_is_cycle ct_own_is_cycle : Value}
    {od_right an_right : Option Addr} {sl_right : Array (Option Value)} {oc_right kV_right dc_right pm_right cd_right ct_right : Value}
    {od_law an_law : Option Addr} {sl_law : Array (Option Value)} {oc_law kV_law dc_law pm_law cd_law ct_law : Value}
    (a_gateway_names : PySem.W.nsIn K mainGlobals "gateway_names" = some (some (.ref f_gateway_names)))
    (l_gateway_names : K.lookup f_gateway_names = some ⟨oc_gateway_names, od_gateway_names, .func (PySem.W.fnOf "gateway_names" "gateway_names" (defArgs st_gateway_names) (defBody st_gateway_names) (defScope st_gateway_names) .none kV_gateway_names dc_gateway_names pm_gateway_names an_gateway_names cd_gateway_names ct_gateway_names), sl_gateway_names⟩)
    (c_gateway_names : PySem.W.codeIn K cd_gateway_names "gateway_names" = true)
    (k_gateway_names : PySem.W.keepIn K (.ref f_gateway_names) = true)
    (a_wrapping_names : PySem.W.nsIn K mainGlobals "wrapping_names" = some (some (.ref f_wrapping_names)))
    (l_wrapping_names : K.lookup f_wrapping_names = some ⟨oc_wrapping_names, od_wrapping_names, .func (PySem.W.fnOf "wrapping_names" "wrapping_names" (defArgs st_wrapping_names) (defBody st_wrapping_names) (defScope st_wrapping_names) .none kV_wrapping_names dc_wrapping_names pm_wrapping_names an_wrapping_names cd_wrapping_names ct_wrapping_names), sl_wrapping_names⟩)
    (c_wrapping_names : PySem.W.codeIn K cd_wrapping_names "wrapping_names" = true)
    (k_wrapping_names : PySem.W.keepIn K (.ref f_wrapping_names) = true)
    (a_members : PySem.W.nsIn K mainGlobals "members" = some (some (.ref f_members)))
    (l_members : K.lookup f_members = some ⟨oc_members, od_members, .func (PySem.W.fnOf "members" "members" (defArgs st_members) (defBody st_members) (defScope st_members) .none kV_members dc_members pm_members an_members cd_members ct_members), sl_members⟩)
    (c_members : PySem.W.codeIn K cd_members "members" = true)
    (k_members : PySem.W.keepIn K (.ref f_members) = true)
    (a_are_different : PySem.W.nsIn K mainGlobals "are_different" = some (some (.ref f_are_different)))
    (l_are_different : K.lookup f_are_different = some ⟨oc_are_different, od_are_different, .func (PySem.W.fnOf "are_different" "are_different" (defArgs st_are_different) (defBody st_are_different) (defScope st_are_different) .none kV_are_different dc_are_different pm_are_different an_are_different cd_are_different ct_are_different), sl_are_different⟩)
    (c_are_different : PySem.W.codeIn K cd_are_different "are_different" = true)
    (k_are_different : PySem.W.keepIn K (.ref f_are_different) = true)
    (a_are_joined : PySem.W.nsIn K mainGlobals "are_joined" = some (some (.ref f_are_joined)))
    (l_are_joined : K.lookup f_are_joined = some ⟨oc_are_joined, od_are_joined, .func (PySem.W.fnOf "are_joined" "are_joined" (defArgs st_are_joined) (defBody st_are_joined) (defScope st_are_joined) .none kV_are_joined dc_are_joined pm_are_joined an_are_joined cd_are_joined ct_are_joined), sl_are_joined⟩)
    (c_are_joined : PySem.W.codeIn K cd_are_joined "are_joined" = true)
    (k_are_joined : PySem.W.keepIn K (.ref f_are_joined) = true)
    (a_is_pair : PySem.W.nsIn K mainGlobals "is_pair" = some (some (.ref f_is_pair)))
    (l_is_pair : K.lookup f_is_pair = some ⟨oc_is_pair, od_is_pair, .func (PySem.W.fnOf "is_pair" "is_pair" (defArgs st_is_pair) (defBody st_is_pair) (defScope st_is_pair) .none kV_is_pair dc_is_pair pm_is_pair an_is_pair cd_is_pair ct_is_pair), sl_is_pair⟩)
    (c_is_pair : PySem.W.codeIn K cd_is_pair "is_pair" = true)
    (k_is_pair : PySem.W.keepIn K (.ref f_is_pair) = true)
    (a_is_cycle : PySem.W.nsIn K mainGlobals "is_cycle" = some (some (.ref f_is_cycle)))
    (l_is_cycle : K.lookup f_is_cycle = some ⟨oc_is_cycle, od_is_cycle, .func (PySem.W.fnOf "is_cycle" "is_cycle" (defArgs st_is_cycle) (defBody st_is_cycle) (defScope st_is_cycle) .none kV_is_cycle dc_is_cycle pm_is_cycle an_is_cycle cd_is_cycle ct_is_cycle), sl_is_cycle⟩)
    (c_is_cycle : PySem.W.codeIn K cd_is_cycle "is_cycle" = true)
    (k_is_cycle : PySem.W.keepIn K (.ref f_is_cycle) = true)
    (a_exits : PySem.W.nsIn K mainGlobals "exits" = some (some (.ref f_exits)))
    (l_exits : K.lookup f_exits = some ⟨oc_exits, od_exits, .func (PySem.W.fnOf "exits" "exits" (defArgs st_exits) (defBody st_exits) (defScope st_exits) .none kV_exits dc_exits pm_exits an_exits cd_exits ct_exits), sl_exits⟩)
    (c_exits : PySem.W.codeIn K cd_exits "exits" = true)
    (k_exits : PySem.W.keepIn K (.ref f_exits) = true)
    (a_shortest_path : PySem.W.nsIn K mainGlobals "shortest_path" = some (some (.ref f_shortest_path)))
    (l_shortest_path : K.lookup f_shortest_path = some ⟨oc_shortest_path, od_shortest_path, .func (PySem.W.fnOf "shortest_path" "shortest_path" (defArgs st_shortest_path) (defBody st_shortest_path) (defScope st_shortest_path) .none kV_shortest_path dc_shortest_path pm_shortest_path an_shortest_path cd_shortest_path ct_shortest_path), sl_shortest_path⟩)
    (c_shortest_path : PySem.W.codeIn K cd_shortest_path "shortest_path" = true)
    (k_shortest_path : PySem.W.keepIn K (.ref f_shortest_path) = true)
    (a_cycle_through : PySem.W.nsIn K mainGlobals "cycle_through" = some (some (.ref f_cycle_through)))
    (l_cycle_through : K.lookup f_cycle_through = some ⟨oc_cycle_through, od_cycle_through, .func (PySem.W.fnOf "cycle_through" "cycle_through" (defArgs st_cycle_through) (defBody st_cycle_through) (defScope st_cycle_through) .none kV_cycle_through dc_cycle_through pm_cycle_through an_cycle_through cd_cycle_through ct_cycle_through), sl_cycle_through⟩)
    (c_cycle_through : PySem.W.codeIn K cd_cycle_through "cycle_through" = true)
    (k_cycle_through : PySem.W.keepIn K (.ref f_cycle_through) = true)
    (a_shortest_cycle : PySem.W.nsIn K mainGlobals "shortest_cycle" = some (some (.ref f_shortest_cycle)))
    (l_shortest_cycle : K.lookup f_shortest_cycle = some ⟨oc_shortest_cycle, od_shortest_cycle, .func (PySem.W.fnOf "shortest_cycle" "shortest_cycle" (defArgs st_shortest_cycle) (defBody st_shortest_cycle) (defScope st_shortest_cycle) .none kV_shortest_cycle dc_shortest_cycle pm_shortest_cycle an_shortest_cycle cd_shortest_cycle ct_shortest_cycle), sl_shortest_cycle⟩)
    (c_shortest_cycle : PySem.W.codeIn K cd_shortest_cycle "shortest_cycle" = true)
    (k_shortest_cycle : PySem.W.keepIn K (.ref f_shortest_cycle) = true)
    (a_girth : PySem.W.nsIn K mainGlobals "girth" = some (some (.ref f_girth)))
    (l_girth : K.lookup f_girth = some ⟨oc_girth, od_girth, .func (PySem.W.fnOf "girth" "girth" (defArgs st_girth) (defBody st_girth) (defScope st_girth) .none kV_girth dc_girth pm_girth an_girth cd_girth ct_girth), sl_girth⟩)
    (c_girth : PySem.W.codeIn K cd_girth "girth" = true)
    (k_girth : PySem.W.keepIn K (.ref f_girth) = true)
    (a_hand : PySem.W.nsIn K mainGlobals "_law_hand" = some (some (.ref f_hand)))
    (l_hand : K.lookup f_hand = some ⟨oc_hand, od_hand, .func (PySem.W.fnOf "_law_hand" "_law_hand" (defArgs st_hand) (defBody st_hand) (defScope st_hand) .none kV_hand dc_hand pm_hand an_hand cd_hand ct_hand), sl_hand⟩)
    (c_hand : PySem.W.codeIn K cd_hand "_law_hand" = true)
    (k_hand : PySem.W.keepIn K (.ref f_hand) = true)
    (a_take : PySem.W.nsIn K mainGlobals "_law_take" = some (some (.ref f_take)))
    (l_take : K.lookup f_take = some ⟨oc_take, od_take, .func (PySem.W.fnOf "_law_take" "_law_take" (defArgs st_take) (defBody st_take) (defScope st_take) .none kV_take dc_take pm_take an_take cd_take ct_take), sl_take⟩)
    (c_take : PySem.W.codeIn K cd_take "_law_take" = true)
    (k_take : PySem.W.keepIn K (.ref f_take) = true)
    (a_of : PySem.W.nsIn K mainGlobals "_law_of" = some (some (.ref f_of)))
    (l_of : K.lookup f_of = some ⟨oc_of, od_of, .func (PySem.W.fnOf "_law_of" "_law_of" (defArgs st_of) (defBody st_of) (defScope st_of) .none kV_of dc_of pm_of an_of cd_of ct_of), sl_of⟩)
    (c_of : PySem.W.codeIn K cd_of "_law_of" = true)
    (k_of : PySem.W.keepIn K (.ref f_of) = true)
    (a_mixed : PySem.W.nsIn K mainGlobals "_law_mixed" = some (some (.ref f_mixed)))
    (l_mixed : K.lookup f_mixed = some ⟨oc_mixed, od_mixed, .func (PySem.W.fnOf "_law_mixed" "_law_mixed" (defArgs st_mixed) (defBody st_mixed) (defScope st_mixed) .none kV_mixed dc_mixed pm_mixed an_mixed cd_mixed ct_mixed), sl_mixed⟩)
    (c_mixed : PySem.W.codeIn K cd_mixed "_law_mixed" = true)
    (k_mixed : PySem.W.keepIn K (.ref f_mixed) = true)
    (a_names : PySem.W.nsIn K mainGlobals "_law_names" = some (some (.ref f_names)))
    (l_names : K.lookup f_names = some ⟨oc_names, od_names, .func (PySem.W.fnOf "_law_names" "_law_names" (defArgs st_names) (defBody st_names) (defScope st_names) .none kV_names dc_names pm_names an_names cd_names ct_names), sl_names⟩)
    (c_names : PySem.W.codeIn K cd_names "_law_names" = true)
    (k_names : PySem.W.keepIn K (.ref f_names) = true)
    (a_gateways : PySem.W.nsIn K mainGlobals "_law_gateways" = some (some (.ref f_gateways)))
    (l_gateways : K.lookup f_gateways = some ⟨oc_gateways, od_gateways, .func (PySem.W.fnOf "_law_gateways" "_law_gateways" (defArgs st_gateways) (defBody st_gateways) (defScope st_gateways) .none kV_gateways dc_gateways pm_gateways an_gateways cd_gateways ct_gateways), sl_gateways⟩)
    (c_gateways : PySem.W.codeIn K cd_gateways "_law_gateways" = true)
    (k_gateways : PySem.W.keepIn K (.ref f_gateways) = true)
    (a_world : PySem.W.nsIn K mainGlobals "_law_world" = some (some (.ref f_world)))
    (l_world : K.lookup f_world = some ⟨oc_world, od_world, .func (PySem.W.fnOf "_law_world" "_law_world" (defArgs st_world) (defBody st_world) (defScope st_world) .none kV_world dc_world pm_world an_world cd_world ct_world), sl_world⟩)
    (c_world : PySem.W.codeIn K cd_world "_law_world" = true)
    (k_world : PySem.W.keepIn K (.ref f_world) = true)
    (a_paths : PySem.W.nsIn K mainGlobals "_law_paths" = some (some (.ref f_paths)))
    (l_paths : K.lookup f_paths = some ⟨oc_paths, od_paths, .func (PySem.W.fnOf "_law_paths" "_law_paths" (defArgs st_paths) (defBody st_paths) (defScope st_paths) .none kV_paths dc_paths pm_paths an_paths cd_paths ct_paths), sl_paths⟩)
    (c_paths : PySem.W.codeIn K cd_paths "_law_paths" = true)
    (k_paths : PySem.W.keepIn K (.ref f_paths) = true)
    (a_cycle_lengths : PySem.W.nsIn K mainGlobals "_law_cycle_lengths" = some (some (.ref f_cycle_lengths)))
    (l_cycle_lengths : K.lookup f_cycle_lengths = some ⟨oc_cycle_lengths, od_cycle_lengths, .func (PySem.W.fnOf "_law_cycle_lengths" "_law_cycle_lengths" (defArgs st_cycle_lengths) (defBody st_cycle_lengths) (defScope st_cycle_lengths) .none kV_cycle_lengths dc_cycle_lengths pm_cycle_lengths an_cycle_lengths cd_cycle_lengths ct_cycle_lengths), sl_cycle_lengths⟩)
    (c_cycle_lengths : PySem.W.codeIn K cd_cycle_lengths "_law_cycle_lengths" = true)
    (k_cycle_lengths : PySem.W.keepIn K (.ref f_cycle_lengths) = true)
    (a_wrapping : PySem.W.nsIn K mainGlobals "_law_wrapping" = some (some (.ref f_wrapping)))
    (l_wrapping : K.lookup f_wrapping = some ⟨oc_wrapping, od_wrapping, .func (PySem.W.fnOf "_law_wrapping" "_law_wrapping" (defArgs st_wrapping) (defBody st_wrapping) (defScope st_wrapping) .none kV_wrapping dc_wrapping pm_wrapping an_wrapping cd_wrapping ct_wrapping), sl_wrapping⟩)
    (c_wrapping : PySem.W.codeIn K cd_wrapping "_law_wrapping" = true)
    (k_wrapping : PySem.W.keepIn K (.ref f_wrapping) = true)
    (a_rewired : PySem.W.nsIn K mainGlobals "_law_rewired" = some (some (.ref f_rewired)))
    (l_rewired : K.lookup f_rewired = some ⟨oc_rewired, od_rewired, .func (PySem.W.fnOf "_law_rewired" "_law_rewired" (defArgs st_rewired) (defBody st_rewired) (defScope st_rewired) .none kV_rewired dc_rewired pm_rewired an_rewired cd_rewired ct_rewired), sl_rewired⟩)
    (c_rewired : PySem.W.codeIn K cd_rewired "_law_rewired" = true)
    (k_rewired : PySem.W.keepIn K (.ref f_rewired) = true)
    (a_own_is_cycle : PySem.W.nsIn K mainGlobals "_law_is_cycle" = some (some (.ref f_own_is_cycle)))
    (l_own_is_cycle : K.lookup f_own_is_cycle = some ⟨oc_own_is_cycle, od_own_is_cycle, .func (PySem.W.fnOf "_law_is_cycle" "_law_is_cycle" (defArgs st_own_is_cycle) (defBody st_own_is_cycle) (defScope st_own_is_cycle) .none kV_own_is_cycle dc_own_is_cycle pm_own_is_cycle an_own_is_cycle cd_own_is_cycle ct_own_is_cycle), sl_own_is_cycle⟩)
    (c_own_is_cycle : PySem.W.codeIn K cd_own_is_cycle "_law_is_cycle" = true)
    (k_own_is_cycle : PySem.W.keepIn K (.ref f_own_is_cycle) = true)
    (a_right : PySem.W.nsIn K mainGlobals "_law_right" = some (some (.ref f_right)))
    (l_right : K.lookup f_right = some ⟨oc_right, od_right, .func (PySem.W.fnOf "_law_right" "_law_right" (defArgs st_right) (defBody st_right) (defScope st_right) .none kV_right dc_right pm_right an_right cd_right ct_right), sl_right⟩)
    (c_right : PySem.W.codeIn K cd_right "_law_right" = true)
    (k_right : PySem.W.keepIn K (.ref f_right) = true)
    (a_law : PySem.W.nsIn K mainGlobals "law" = some (some (.ref f_law)))
    (l_law : K.lookup f_law = some ⟨oc_law, od_law, .func (PySem.W.fnOf "law" "law" (defArgs st_law) (defBody st_law) (defScope st_law) .none kV_law dc_law pm_law an_law cd_law ct_law), sl_law⟩)
    (c_law : PySem.W.codeIn K cd_law "law" = true)
    (k_law : PySem.W.keepIn K (.ref f_law) = true)
    (z_len : PySem.W.nsIn K mainGlobals "len" = some none)
    (z_abs : PySem.W.nsIn K mainGlobals "abs" = some none)
    (z_int : PySem.W.nsIn K mainGlobals "int" = some none)
    (z_range : PySem.W.nsIn K mainGlobals "range" = some none)
    (z_list : PySem.W.nsIn K mainGlobals "list" = some none)
    (z_tuple : PySem.W.nsIn K mainGlobals "tuple" = some none)
    (z_sorted : PySem.W.nsIn K mainGlobals "sorted" = some none)
    (z_min : PySem.W.nsIn K mainGlobals "min" = some none)
    (z_max : PySem.W.nsIn K mainGlobals "max" = some none)
    (z_all : PySem.W.nsIn K mainGlobals "all" = some none)
    (z_repr : PySem.W.nsIn K mainGlobals "repr" = some none)
    (z_dict : PySem.W.nsIn K mainGlobals "dict" = some none)
    (z_enumerate : PySem.W.nsIn K mainGlobals "enumerate" = some none)
    (z_zip : PySem.W.nsIn K mainGlobals "zip" = some none)
    (z_isinstance : PySem.W.nsIn K mainGlobals "isinstance" = some none)
    (z_set : PySem.W.nsIn K mainGlobals "set" = some none)
    (z_any : PySem.W.nsIn K mainGlobals "any" = some none) :
    ∃ fd : FuncData, (∀ (s : Shared) (v : Value), BindsTo s fd ⟨[v], []⟩ [("_law_script", v)]) ∧ ∀ base : Heap, K.In base → base.Ns mainGlobals mg → FnG l.prog w K mg base CX0 7 fa fd ["_law_script"] (spLaw K) := by
  have e := hfa.symm.trans (PySem.W.mg_of X G a_law)
  cases e
  have Fgateway_names := fun_mk (x := "gateway_names") (st := st_gateway_names) l_gateway_names c_gateway_names k_gateway_names
  have bgateway_names := Fgateway_names.binds (ps := ["world"]) fun _ _ _ _ _ _ us hl => match us, hl with | [_], _ => rfl
  have Fwrapping_names := fun_mk (x := "wrapping_names") (st := st_wrapping_names) l_wrapping_names c_wrapping_names k_wrapping_names
  have bwrapping_names := Fwrapping_names.binds (ps := ["world"]) fun _ _ _ _ _ _ us hl => match us, hl with | [_], _ => rfl
  have Fmembers := fun_mk (x := "members") (st := st_members) l_members c_members k_members
  have bmembers := Fmembers.binds (ps := ["world", "name"]) fun _ _ _ _ _ _ us hl => match us, hl with | [_, _], _ => rfl
  have Fare_different := fun_mk (x := "are_different") (st := st_are_different) l_are_different c_are_different k_are_different
  have bare_different := Fare_different.binds (ps := ["values", "known"]) fun _ _ _ _ _ _ us hl => match us, hl with | [_, _], _ => rfl
  have Fare_joined := fun_mk (x := "are_joined") (st := st_are_joined) l_are_joined c_are_joined k_are_joined
  have bare_joined := Fare_joined.binds (ps := ["world", "regions", "names"]) fun _ _ _ _ _ _ us hl => match us, hl with | [_, _, _], _ => rfl
  have Fis_pair := fun_mk (x := "is_pair") (st := st_is_pair) l_is_pair c_is_pair k_is_pair
  have bis_pair := Fis_pair.binds (ps := ["value"]) fun _ _ _ _ _ _ us hl => match us, hl with | [_], _ => rfl
  have Fis_cycle := fun_mk (x := "is_cycle") (st := st_is_cycle) l_is_cycle c_is_cycle k_is_cycle
  have bis_cycle := Fis_cycle.binds (ps := ["world", "value"]) fun _ _ _ _ _ _ us hl => match us, hl with | [_, _], _ => rfl
  have Fexits := fun_mk (x := "exits") (st := st_exits) l_exits c_exits k_exits
  have bexits := Fexits.binds (ps := ["world", "region", "without"]) fun _ _ _ _ _ _ us hl => match us, hl with | [_, _, _], _ => rfl
  have Fshortest_path := fun_mk (x := "shortest_path") (st := st_shortest_path) l_shortest_path c_shortest_path k_shortest_path
  have bshortest_path := Fshortest_path.binds (ps := ["world", "one", "other", "without"]) fun _ _ _ _ _ _ us hl => match us, hl with | [_, _, _, _], _ => rfl
  have Fcycle_through := fun_mk (x := "cycle_through") (st := st_cycle_through) l_cycle_through c_cycle_through k_cycle_through
  have bcycle_through := Fcycle_through.binds (ps := ["world", "name"]) fun _ _ _ _ _ _ us hl => match us, hl with | [_, _], _ => rfl
  have Fshortest_cycle := fun_mk (x := "shortest_cycle") (st := st_shortest_cycle) l_shortest_cycle c_shortest_cycle k_shortest_cycle
  have bshortest_cycle := Fshortest_cycle.binds (ps := ["world"]) fun _ _ _ _ _ _ us hl => match us, hl with | [_], _ => rfl
  have Fgirth := fun_mk (x := "girth") (st := st_girth) l_girth c_girth k_girth
  have bgirth := Fgirth.binds (ps := ["world"]) fun _ _ _ _ _ _ us hl => match us, hl with | [_], _ => rfl
  have Fhand := fun_mk (x := "_law_hand") (st := st_hand) l_hand c_hand k_hand
  have bhand := Fhand.binds (ps := ["_law_script", "_law_k"]) fun _ _ _ _ _ _ us hl => match us, hl with | [_, _], _ => rfl
  have Ftake := fun_mk (x := "_law_take") (st := st_take) l_take c_take k_take
  have btake := Ftake.binds (ps := ["_law_hand_here", "_law_many"]) fun _ _ _ _ _ _ us hl => match us, hl with | [_, _], _ => rfl
  have Fof := fun_mk (x := "_law_of") (st := st_of) l_of c_of k_of
  have bof := Fof.binds (ps := ["_law_hand_here", "_law_some"]) fun _ _ _ _ _ _ us hl => match us, hl with | [_, _], _ => rfl
  have Fmixed := fun_mk (x := "_law_mixed") (st := st_mixed) l_mixed c_mixed k_mixed
  have bmixed := Fmixed.binds (ps := ["_law_hand_here", "_law_some"]) fun _ _ _ _ _ _ us hl => match us, hl with | [_, _], _ => rfl
  have Fnames := fun_mk (x := "_law_names") (st := st_names) l_names c_names k_names
  have bnames := Fnames.binds (ps := ["_law_hand_here", "_law_count"]) fun _ _ _ _ _ _ us hl => match us, hl with | [_, _], _ => rfl
  have Fgateways := fun_mk (x := "_law_gateways") (st := st_gateways) l_gateways c_gateways k_gateways
  have bgateways := Fgateways.binds (ps := ["_law_hand_here", "_law_regions", "_law_count"]) fun _ _ _ _ _ _ us hl => match us, hl with | [_, _, _], _ => rfl
  have Fworld := fun_mk (x := "_law_world") (st := st_world) l_world c_world k_world
  have bworld := Fworld.binds (ps := ["_law_hand_here", "_law_most_regions", "_law_most_gateways"]) fun _ _ _ _ _ _ us hl => match us, hl with | [_, _, _], _ => rfl
  have Fpaths := fun_mk (x := "_law_paths") (st := st_paths) l_paths c_paths k_paths
  have bpaths := Fpaths.binds (ps := ["_law_world_here", "_law_one", "_law_other", "_law_barred"]) fun _ _ _ _ _ _ us hl => match us, hl with | [_, _, _, _], _ => rfl
  have Fcycle_lengths := fun_mk (x := "_law_cycle_lengths") (st := st_cycle_lengths) l_cycle_lengths c_cycle_lengths k_cycle_lengths
  have bcycle_lengths := Fcycle_lengths.binds (ps := ["_law_world_here", "_law_name"]) fun _ _ _ _ _ _ us hl => match us, hl with | [_, _], _ => rfl
  have Fwrapping := fun_mk (x := "_law_wrapping") (st := st_wrapping) l_wrapping c_wrapping k_wrapping
  have bwrapping := Fwrapping.binds (ps := ["_law_world_here"]) fun _ _ _ _ _ _ us hl => match us, hl with | [_], _ => rfl
  have Frewired := fun_mk (x := "_law_rewired") (st := st_rewired) l_rewired c_rewired k_rewired
  have brewired := Frewired.binds (ps := ["_law_world_here", "_law_wrapping_here"]) fun _ _ _ _ _ _ us hl => match us, hl with | [_, _], _ => rfl
  have Fown_is_cycle := fun_mk (x := "_law_is_cycle") (st := st_own_is_cycle) l_own_is_cycle c_own_is_cycle k_own_is_cycle
  have bown_is_cycle := Fown_is_cycle.binds (ps := ["_law_world_here", "_law_value"]) fun _ _ _ _ _ _ us hl => match us, hl with | [_, _], _ => rfl
  have Fright := fun_mk (x := "_law_right") (st := st_right) l_right c_right k_right
  have bright := Fright.binds (ps := ["_law_world_here"]) fun _ _ _ _ _ _ us hl => match us, hl with | [_], _ => rfl
  have Flaw := fun_mk (x := "law") (st := st_law) l_law c_law k_law
  have blaw := Flaw.binds (ps := ["_law_script"]) fun _ _ _ _ _ _ us hl => match us, hl with | [_], _ => rfl
  have B : Blt mg := ⟨PySem.W.mg_none_of X G z_len, PySem.W.mg_none_of X G z_abs, PySem.W.mg_none_of X G z_int, PySem.W.mg_none_of X G z_range, PySem.W.mg_none_of X G z_list, PySem.W.mg_none_of X G z_tuple, PySem.W.mg_none_of X G z_sorted, PySem.W.mg_none_of X G z_min, PySem.W.mg_none_of X G z_max, PySem.W.mg_none_of X G z_all, PySem.W.mg_none_of X G z_repr, PySem.W.mg_none_of X G z_dict, PySem.W.mg_none_of X G z_enumerate⟩
  have hzip : mg "zip" = none := PySem.W.mg_none_of X G z_zip
  have hisinstance : mg "isinstance" = none := PySem.W.mg_none_of X G z_isinstance
  have hset : mg "set" = none := PySem.W.mg_none_of X G z_set
  have hany : mg "any" = none := PySem.W.mg_none_of X G z_any
  refine ⟨PySem.W.fnOf "law" "law" (defArgs st_law) (defBody st_law) (defScope st_law) .none kV_law dc_law pm_law an_law cd_law ct_law, fun s v => .of_eq rfl, fun base _ _ => ?_⟩
  · have Dexits : Df l.prog w K mg base "exits" 1 f_exits _ _ _ := ⟨PySem.W.mg_of X G a_exits, k_exits, bexits, ok_exits Fexits⟩
    have Dshortest_path : Df l.prog w K mg base "shortest_path" 2 f_shortest_path _ _ _ := ⟨PySem.W.mg_of X G a_shortest_path, k_shortest_path, bshortest_path, ok_shortest_path Fshortest_path Dexits⟩
    have Dgateway_names : Df l.prog w K mg base "gateway_names" 1 f_gateway_names _ _ _ := ⟨PySem.W.mg_of X G a_gateway_names, k_gateway_names, bgateway_names, ok_gateway_names Fgateway_names B⟩
    have Dwrapping_names : Df l.prog w K mg base "wrapping_names" 1 f_wrapping_names _ _ _ := ⟨PySem.W.mg_of X G a_wrapping_names, k_wrapping_names, bwrapping_names, ok_wrapping_names Fwrapping_names B⟩
    have Dmembers : Df l.prog w K mg base "members" 1 f_members _ _ _ := ⟨PySem.W.mg_of X G a_members, k_members, bmembers, ok_members Fmembers⟩
    have Dcycle_through : Df l.prog w K mg base "cycle_through" 3 f_cycle_through _ _ _ := ⟨PySem.W.mg_of X G a_cycle_through, k_cycle_through, bcycle_through, ok_cycle_through Fcycle_through B hzip Dmembers Dshortest_path⟩
    have Dshortest_cycle : Df l.prog w K mg base "shortest_cycle" 4 f_shortest_cycle _ _ _ := ⟨PySem.W.mg_of X G a_shortest_cycle, k_shortest_cycle, bshortest_cycle, ok_shortest_cycle Fshortest_cycle B Dwrapping_names Dcycle_through⟩
    have Dgirth : Df l.prog w K mg base "girth" 5 f_girth _ _ _ := ⟨PySem.W.mg_of X G a_girth, k_girth, bgirth, ok_girth Fgirth B Dshortest_cycle⟩
    have Dis_pair : Df l.prog w K mg base "is_pair" 1 f_is_pair _ _ _ := ⟨PySem.W.mg_of X G a_is_pair, k_is_pair, bis_pair, ok_is_pair Fis_pair B hisinstance⟩
    have Dare_different : Df l.prog w K mg base "are_different" 1 f_are_different _ _ _ := ⟨PySem.W.mg_of X G a_are_different, k_are_different, bare_different, ok_are_different Fare_different B hset⟩
    have Dare_joined : Df l.prog w K mg base "are_joined" 2 f_are_joined _ _ _ := ⟨PySem.W.mg_of X G a_are_joined, k_are_joined, bare_joined, ok_are_joined Fare_joined B hzip Dmembers⟩
    have Dis_cycle : Df l.prog w K mg base "is_cycle" 3 f_is_cycle _ _ _ := ⟨PySem.W.mg_of X G a_is_cycle, k_is_cycle, bis_cycle, ok_is_cycle Fis_cycle B hisinstance Dis_pair Dare_different Dgateway_names Dare_joined⟩
    have Dtake : Df l.prog w K mg base "_law_take" 1 f_take _ _ _ := ⟨PySem.W.mg_of X G a_take, k_take, btake, ok_take Ftake⟩
    have Dhand : Df l.prog w K mg base "_law_hand" 1 f_hand _ _ _ := ⟨PySem.W.mg_of X G a_hand, k_hand, bhand, ok_hand Fhand B⟩
    have Dof : Df l.prog w K mg base "_law_of" 2 f_of _ _ _ := ⟨PySem.W.mg_of X G a_of, k_of, bof, ok_of Fof B Dtake⟩
    have Dmixed : Df l.prog w K mg base "_law_mixed" 2 f_mixed _ _ _ := ⟨PySem.W.mg_of X G a_mixed, k_mixed, bmixed, ok_mixed Fmixed B Dtake⟩
    have Dnames : Df l.prog w K mg base "_law_names" 3 f_names _ _ _ := ⟨PySem.W.mg_of X G a_names, k_names, bnames, ok_names Fnames B Dtake Dof⟩
    have Dgateways : Df l.prog w K mg base "_law_gateways" 4 f_gateways _ _ _ := ⟨PySem.W.mg_of X G a_gateways, k_gateways, bgateways, ok_gateways Fgateways B Dof Dmixed Dnames⟩
    have Dworld : Df l.prog w K mg base "_law_world" 5 f_world _ _ _ := ⟨PySem.W.mg_of X G a_world, k_world, bworld, ok_world Fworld B Dtake Dnames Dgateways⟩
    have Dpaths : Df l.prog w K mg base "_law_paths" 1 f_paths _ _ _ := ⟨PySem.W.mg_of X G a_paths, k_paths, bpaths, ok_paths Fpaths⟩
    have Dcycle_lengths : Df l.prog w K mg base "_law_cycle_lengths" 2 f_cycle_lengths _ _ _ := ⟨PySem.W.mg_of X G a_cycle_lengths, k_cycle_lengths, bcycle_lengths, ok_cycle_lengths Fcycle_lengths B Dpaths⟩
    have Dwrapping : Df l.prog w K mg base "_law_wrapping" 1 f_wrapping _ _ _ := ⟨PySem.W.mg_of X G a_wrapping, k_wrapping, bwrapping, ok_wrapping Fwrapping⟩
    have Drewired : Df l.prog w K mg base "_law_rewired" 1 f_rewired _ _ _ := ⟨PySem.W.mg_of X G a_rewired, k_rewired, brewired, ok_rewired Frewired B⟩
    have Down_is_cycle : Df l.prog w K mg base "_law_is_cycle" 1 f_own_is_cycle _ _ _ := ⟨PySem.W.mg_of X G a_own_is_cycle, k_own_is_cycle, bown_is_cycle, ok_own_is_cycle Fown_is_cycle B hset⟩
    have Dright : Df l.prog w K mg base "_law_right" 6 f_right _ _ _ := ⟨PySem.W.mg_of X G a_right, k_right, bright, ok_right Fright B hany hisinstance Dcycle_lengths Dwrapping Dgirth Dshortest_cycle Down_is_cycle Dis_cycle⟩
    exact ok_law Flaw B Dright Dworld Dhand Dtake Drewired
end K12

set_option Elab.async false
set_option linter.all false
open PySem PySem.W PyProof.Rows
set_option maxRecDepth 100000 in
set_option maxHeartbeats 0 in
theorem PySem.Challenge.cw_wraptrails_k12_girths_and_shortest_cycle_holds : PySem.Challenge.rw_wraptrails_k12_girths_and_shortest_cycle.Holds := by
  w_on; o_law; k_head; (case hw => w_witness2)
  k_fill
  refine WT.walkG (l := PySem.Challenge.rw_wraptrails_k12_girths_and_shortest_cycle) (n := 63) (k := 7) (x := "_law_script") (sp := fun w => K12.spLaw _) rfl (by decide) rfl ⟨rfl, by decide, by decide⟩ (fun w h Y => PySem.W.kIn_of Y) ?F (fun _ _ a ns hl _ hS => ⟨a, ns, rfl, hS, hl, fun _ => rfl⟩)
  case F =>
    intro w mg fa h KX G hmg
    refine' K12.all_mk KX G hmg ?a_gateway_names ?l_gateway_names ?c_gateway_names ?k_gateway_names ?a_wrapping_names ?l_wrapping_names ?c_wrapping_names ?k_wrapping_names ?a_members ?l_members ?c_members ?k_members ?a_are_different ?l_are_different ?c_are_different ?k_are_different ?a_are_joined ?l_are_joined ?c_are_joined ?k_are_joined ?a_is_pair ?l_is_pair ?c_is_pair ?k_is_pair ?a_is_cycle ?l_is_cycle ?c_is_cycle ?k_is_cycle ?a_exits ?l_exits ?c_exits ?k_exits ?a_shortest_path ?l_shortest_path ?c_shortest_path ?k_shortest_path ?a_cycle_through ?l_cycle_through ?c_cycle_through ?k_cycle_through ?a_shortest_cycle ?l_shortest_cycle ?c_shortest_cycle ?k_shortest_cycle ?a_girth ?l_girth ?c_girth ?k_girth ?a_hand ?l_hand ?c_hand ?k_hand ?a_take ?l_take ?c_take ?k_take ?a_of ?l_of ?c_of ?k_of ?a_mixed ?l_mixed ?c_mixed ?k_mixed ?a_names ?l_names ?c_names ?k_names ?a_gateways ?l_gateways ?c_gateways ?k_gateways ?a_world ?l_world ?c_world ?k_world ?a_paths ?l_paths ?c_paths ?k_paths ?a_cycle_lengths ?l_cycle_lengths ?c_cycle_lengths ?k_cycle_lengths ?a_wrapping ?l_wrapping ?c_wrapping ?k_wrapping ?a_rewired ?l_rewired ?c_rewired ?k_rewired ?a_own_is_cycle ?l_own_is_cycle ?c_own_is_cycle ?k_own_is_cycle ?a_right ?l_right ?c_right ?k_right ?a_law ?l_law ?c_law ?k_law ?z_len ?z_abs ?z_int ?z_range ?z_list ?z_tuple ?z_sorted ?z_min ?z_max ?z_all ?z_repr ?z_dict ?z_enumerate ?z_zip ?z_isinstance ?z_set ?z_any
    (case a_gateway_names => k_is)
    (case l_gateway_names => k_is)
    (case c_gateway_names => k_is)
    (case k_gateway_names => k_is)
    (case a_wrapping_names => k_is)
    (case l_wrapping_names => k_is)
    (case c_wrapping_names => k_is)
    (case k_wrapping_names => k_is)
    (case a_members => k_is)
    (case l_members => k_is)
    (case c_members => k_is)
    (case k_members => k_is)
    (case a_are_different => k_is)
    (case l_are_different => k_is)
    (case c_are_different => k_is)
    (case k_are_different => k_is)
    (case a_are_joined => k_is)
    (case l_are_joined => k_is)
    (case c_are_joined => k_is)
    (case k_are_joined => k_is)
    (case a_is_pair => k_is)
    (case l_is_pair => k_is)
    (case c_is_pair => k_is)
    (case k_is_pair => k_is)
    (case a_is_cycle => k_is)
    (case l_is_cycle => k_is)
    (case c_is_cycle => k_is)
    (case k_is_cycle => k_is)
    (case a_exits => k_is)
    (case l_exits => k_is)
    (case c_exits => k_is)
    (case k_exits => k_is)
    (case a_shortest_path => k_is)
    (case l_shortest_path => k_is)
    (case c_shortest_path => k_is)
    (case k_shortest_path => k_is)
    (case a_cycle_through => k_is)
    (case l_cycle_through => k_is)
    (case c_cycle_through => k_is)
    (case k_cycle_through => k_is)
    (case a_shortest_cycle => k_is)
    (case l_shortest_cycle => k_is)
    (case c_shortest_cycle => k_is)
    (case k_shortest_cycle => k_is)
    (case a_girth => k_is)
    (case l_girth => k_is)
    (case c_girth => k_is)
    (case k_girth => k_is)
    (case a_hand => k_is)
    (case l_hand => k_is)
    (case c_hand => k_is)
    (case k_hand => k_is)
    (case a_take => k_is)
    (case l_take => k_is)
    (case c_take => k_is)
    (case k_take => k_is)
    (case a_of => k_is)
    (case l_of => k_is)
    (case c_of => k_is)
    (case k_of => k_is)
    (case a_mixed => k_is)
    (case l_mixed => k_is)
    (case c_mixed => k_is)
    (case k_mixed => k_is)
    (case a_names => k_is)
    (case l_names => k_is)
    (case c_names => k_is)
    (case k_names => k_is)
    (case a_gateways => k_is)
    (case l_gateways => k_is)
    (case c_gateways => k_is)
    (case k_gateways => k_is)
    (case a_world => k_is)
    (case l_world => k_is)
    (case c_world => k_is)
    (case k_world => k_is)
    (case a_paths => k_is)
    (case l_paths => k_is)
    (case c_paths => k_is)
    (case k_paths => k_is)
    (case a_cycle_lengths => k_is)
    (case l_cycle_lengths => k_is)
    (case c_cycle_lengths => k_is)
    (case k_cycle_lengths => k_is)
    (case a_wrapping => k_is)
    (case l_wrapping => k_is)
    (case c_wrapping => k_is)
    (case k_wrapping => k_is)
    (case a_rewired => k_is)
    (case l_rewired => k_is)
    (case c_rewired => k_is)
    (case k_rewired => k_is)
    (case a_own_is_cycle => k_is)
    (case l_own_is_cycle => k_is)
    (case c_own_is_cycle => k_is)
    (case k_own_is_cycle => k_is)
    (case a_right => k_is)
    (case l_right => k_is)
    (case c_right => k_is)
    (case k_right => k_is)
    (case a_law => k_is)
    (case l_law => k_is)
    (case c_law => k_is)
    (case k_law => k_is)
    (case z_len => k_is)
    (case z_abs => k_is)
    (case z_int => k_is)
    (case z_range => k_is)
    (case z_list => k_is)
    (case z_tuple => k_is)
    (case z_sorted => k_is)
    (case z_min => k_is)
    (case z_max => k_is)
    (case z_all => k_is)
    (case z_repr => k_is)
    (case z_dict => k_is)
    (case z_enumerate => k_is)
    (case z_zip => k_is)
    (case z_isinstance => k_is)
    (case z_set => k_is)
    (case z_any => k_is)
