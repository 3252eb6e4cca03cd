import PyProof.Rows.All
import Wide.All
import OpenK.AllK
import Wide.FinOn
import HandS.ForMost
import HandS.TupAny
import HandS.SortKw
import HandS.Deep
import HandS.Wide
import HandS.Defaults
import HandS.Conv
import HandS.Evl
import KE.SortData
import KE.SortKeyHeap
import PyProof.P3In
import HandS.FStrTup
import HandS.SetTxt0
import HandS.SetBool
import HandS.TupSets
import HandS.IsInst
import HandS.Zip
import HandS.Iter
import HandS.Text
import HandS.Exc
import HandS.ExcInit
import HandS.ExcIs
import HandS.ExcField
import KE.KExcIs
import PySem.Challenge.RW_crewbook_k50_first_crews_found
import HandS.Star
import HandS.Lambda
import HandS.WordsExc
import KE.DataMinMax
import HandS.EndOwn
set_option Elab.async false
set_option linter.all false
set_option maxRecDepth 100000
set_option maxHeartbeats 4000000
/-! Rules that the layer lacks: sorted of data, repr, in over tuples of data. -/
namespace Cb
open PySem PySem.Spec PyProof.Rows L2 PySem.W

/-! ### data that stands in the heap -/
theorem sameT {K : Frag} {H H' : Hp} {a : Addr} {xs : List V} (e : Same H H') (h : SqT K H a xs) : SqT K H' a xs := by
  rcases h with (h | ⟨o, h⟩) | h
  · exact .inl (.inl (e _ _ h))
  · exact .inl (.inr ⟨o, e _ _ h⟩)
  · exact .inr h
mutual
theorem dpSame {K : Frag} {H H' : Hp} (e : Same H H') : ∀ (d : PyData) (v : V), Dp K H v d → Dp K H' v d
  | .none, _, h => by cases h; exact .non
  | .bool _, _, h => by cases h; exact .bl _
  | .int _, _, h => by cases h; exact .int _
  | .str _, _, h => by cases h; exact .str _
  | .list ds, _, h => by
    cases h with
    | lst hs ha => exact .lst (e.seq hs) (dpsSame e ds _ ha)
  | .tuple ds, _, h => by
    cases h with
    | tup hs ha => exact .tup (sameT e hs) (dpsSame e ds _ ha)
  | .dict _, _, h => by cases h
theorem dpsSame {K : Frag} {H H' : Hp} (e : Same H H') : ∀ (ds : List PyData) (vs : List V), DpAll K H vs ds → DpAll K H' vs ds
  | [], _, h => by cases h; exact .nil
  | d :: ds, _, h => by
    cases h with
    | cons h1 h2 => exact .cons (dpSame e d _ h1) (dpsSame e ds _ h2)
end

/-! ### sorted of a list of data -/
theorem each_in {β : Type} (f : β → V) : ∀ {bs : List β} {us : List Value}, Vals (bs.map f) us → EachIs (fun u b => RelV (f b) u) us bs
  | [], us, h => by
    have h' : Vals [] us := h
    cases h'
    exact .nil
  | b :: bs, us, h => by
    have h' : Vals (f b :: bs.map f) us := h
    cases h' with
    | cons r t => exact .cons r (each_in f t)
theorem each_out {β : Type} (f : β → V) : ∀ {bs : List β} {us : List Value}, EachIs (fun u b => RelV (f b) u) us bs → Vals (bs.map f) us
  | _, _, .nil => .nil
  | _, _, .cons r t => .cons r (each_out f t)
theorem each_and {β γ : Type} {R S : γ → β → Prop} : ∀ {us : List γ} {bs : List β}, EachIs R us bs → (∀ u b, b ∈ bs → R u b → S u b) → EachIs S us bs
  | _, _, .nil, _ => .nil
  | _, _, .cons r t, f => .cons (f _ _ List.mem_cons_self r) (each_and t fun u b hb => f u b (List.mem_cons_of_mem _ hb))
/-! ### sorted of a tuple -/
section
variable {prog : Program} {w : World} {A : Around} {E : Value → Shared → Prop} {s : Shared}
theorem collect_tup {l : Addr} {vs : List Value} {Q : List Value → Shared → Prop} (hl : IsTup s.heap l vs.toArray) (hz : vs.length ≤ sizeLine) (h : Q vs { s with heap := (s.heap.push (seqObj "list" #[] 0)).update s.heap.objs.size (Obj.mapSeq (· ++ vs.toArray)) }) :
    wpAny (model prog w) A (collect (.ref l)) Q E s := by
  obtain ⟨o, ho, hc, n, hd⟩ := id hl
  have h1 : (s.heap.push (seqObj "list" #[] 0)).get? l = some o := Heap.get?_push_of_some _ ho
  have h2 : (s.heap.push (seqObj "list" #[] 0)).get? s.heap.objs.size = some (seqObj "list" #[] 0) := Heap.get?_push_size _ rfl
  have tt : (Value.type "tuple" == Value.type "tuple") = true := by rfl
  unfold collect
  refine wpAny_bind (wpAny_runValue (codeAny_builtin entry_proto_collect' ?_))
  show wpAny _ _ (newList [] >>= fun b => again (.builtin "list.__iadd__" ⟨[b, .ref l], []⟩)) _ _ s
  refine wpAny_bind (wpAny_newList (wpAny_pure ⟨Code.quiet_builtin _ (by decide +kernel), codeAny_builtin entry_list_iadd' ?_⟩))
  show wpAny _ _ (Builtin.List.listExtendWith (.ref s.heap.objs.size) (.ref l) (.ref s.heap.objs.size)) _ _ { s with heap := s.heap.push (seqObj "list" #[] 0) }
  unfold Builtin.List.listExtendWith
  refine wpAny_bind (wpAny_typeOf (T := "tuple") ⟨o, h1, hc⟩ ?_)
  rw [if_pos (by rw [tt]; simp)]
  refine wpAny_bind (listItems_at h1 hd (wpAny_bind (listItems_at h2 rfl ?_)))
  rw [if_neg (by simp)]
  refine wpAny_bind (listUpdate_at h2 rfl (wpAny_pure ?_) (Nat.zero_le _) (by rw [Array.size_append, List.size_toArray]; simp only [List.size_toArray, List.length_nil]; omega))
  refine wpAny_bind (wpAny_load (get?_update_seq h2 _) ?_)
  show wpAny _ _ (pure ((#[] : Array Value) ++ vs.toArray).toList) Q E _
  have e : ((#[] : Array Value) ++ vs.toArray).toList = vs := by simp
  rw [e]
  exact wpAny_pure h
theorem sortedT_data {β : Type} {R : Value → β → Prop} {enc : β → PyData} {vs : List Value} {bs : List β} {l : Addr} {Q : Value → Shared → Prop} (hl : IsTup s.heap l vs.toArray) (e : EachIs R vs bs) (er : EachIs (fun v b => ∃ as, Reads s.heap v (enc b) as) vs bs)
    (hal : AllAlike (bs.map enc)) (hk : Sortable (bs.map enc)) (hL : bs.length ≤ sizeLine) (hu : ∀ b, b ∈ bs → A.units + 2 + (enc b).depth < cLine)
    (h : ∀ out, out.length = bs.length → EachIs R out (bs.mergeSort (dataLe false enc)) → Q (.ref (s.heap.objs.size + 1)) { s with heap := sortedAll s.heap vs (List.toArray out) }) : wpAny (model prog w) A (call (.builtin "sorted") [.ref l]) Q E s := by
  have hv : vs.length ≤ sizeLine := by rw [e.length]; exact hL
  have er' : EachIs (fun v b => ∃ as, Reads (sortingHeap (copyHeap s.heap vs) (s.heap.objs.size + 1) vs) v (enc b) as) vs bs := er.mono fun _ _ ⟨as, r⟩ => ⟨as, PyProof.Rows.Reads.keeps (fun _ _ => sorting_copy_old) r⟩
  refine call_function_entry_kw kind_sorted plain_sorted entry_sorted (args_sorted1 _) ?_
  unfold Builtin.«sorted»
  refine wpAny_bind (m := checkCount "sorted" 1 1 _) (wpAny_pure (wpAny_bind (collect_tup hl hv (wpAny_bind (wpAny_newList ?_ hv)))))
  have sz : ((s.heap.push (seqObj "list" #[] 0)).update s.heap.objs.size (Obj.mapSeq (· ++ vs.toArray))).objs.size = s.heap.objs.size + 1 := by rw [Heap.size_update, size_push']
  show wpAny _ _ _ _ _ { s with heap := copyHeap s.heap vs }
  rw [sz]
  refine wpAny_bind (wpAny_holding (wpAny_call_entry_kw slot_list_sort ⟨_, copyHeap_at s.heap vs, rfl⟩ entry_list_sort ?_ (args_list_sort _)))
  refine list_sort_vals (s := { s with heap := copyHeap s.heap vs }) (copyHeap_at s.heap vs)
    (SortsAt.data (s := { s with heap := sortingHeap (copyHeap s.heap vs) (s.heap.objs.size + 1) vs }) (each_map (R := fun v d => ∃ as, Reads (sortingHeap (copyHeap s.heap vs) (s.heap.objs.size + 1) vs) v d as) enc er') hal hk (bound_map hu)) hv ?_
  exact ⟨_, rfl, wpAny_pure ⟨_, rfl, h _ (by rw [sortVals_length false rfl]; exact e.length) (sortVals_data false e er' hal)⟩⟩
end
/-- values with the data they stand for, in order -/
abbrev ordD (bs : List (V × PyData)) : List (V × PyData) := bs.mergeSort (dataLe false fun b : V × PyData => b.2)
def rSrt (K : Frag) : List V → Hp → VK → Prop := fun vs H Q => ∃ (a : Addr) (bs : List (V × PyData)), vs = [.ref a] ∧ (SqL K H a (bs.map (·.1)) ∨ SqT K H a (bs.map (·.1))) ∧ (∀ b ∈ bs, Dp K H b.1 b.2) ∧ AllAlike (bs.map (·.2)) ∧ Sortable (bs.map (·.2)) ∧
  (∀ b ∈ bs, b.2.depth ≤ 50) ∧ ∀ p, H p = none → Q (.ref p) (upd H p (.lst ((ordD bs).map (·.1))))
section
variable {X : Cx}
theorem cr_srt (hu : X.A.units + 64 < cLine) : CallR X (.builtin "sorted") (rSrt X.K) := by
  intro pins s σ H vs us Q I r h
  obtain ⟨a, bs, rfl, hs, hd, hal, hk, hdp, q⟩ := h
  rw [Vals.ref1 r]
  have fin : ∀ its : List Value, Vals (bs.map (·.1)) its → (bs.map (·.1)).length ≤ sizeLine → ∀ out : List Value, EachIs (fun u b => RelV b.1 u) out (ordD bs) →
      EP X pins σ Q (.ref (s.heap.objs.size + 1)) { s with heap := sortedAll s.heap its (List.toArray out) } := fun its rv hz out h2 => by
    have ro := each_out (fun b : V × PyData => b.1) h2
    obtain ⟨ep, he'⟩ := PyProof.Rows.sortedAll_at s.heap its out.toArray
    have hl2 : ((ordD bs).map (·.1)).length ≤ sizeLine := by
      rw [List.length_map, List.length_mergeSort, ← List.length_map (f := (·.1))]
      exact hz
    exact ⟨.ref _, upd H (s.heap.objs.size + 1) (.lst ((ordD bs).map (·.1))), I.laid (t' := s.toks) (fun _ _ => PyProof.Rows.sortedAll_old) (Nat.le_succ _) ⟨hl2, out, ep, ro, by simpa using he'⟩, rfl, q _ (I.hok.fresh (Nat.le_succ _))⟩
  rcases hs with hs | hs
  · obtain ⟨its, rv, hl, hz⟩ := I.list hs
    have e0 := each_in (fun b : V × PyData => b.1) rv
    exact sorted_data (enc := fun b : V × PyData => b.2) hl.isList e0 (each_and e0 fun u b hb r => Dp.reads I b.2 b.1 u (hd b hb) r) hal hk (by rw [List.length_map] at hz; exact hz) (fun b hb => by have := hdp b hb; omega) fun out h1 h2 => fin its rv hz out h2
  · obtain ⟨its, rv, hl, hz⟩ := I.tuple hs
    have e0 := each_in (fun b : V × PyData => b.1) rv
    exact sortedT_data (enc := fun b : V × PyData => b.2) hl e0 (each_and e0 fun u b hb r => Dp.reads I b.2 b.1 u (hd b hb) r) hal hk (by rw [List.length_map] at hz; exact hz) (fun b hb => by have := hdp b hb; omega) fun out h1 h2 => fin its rv hz out h2

/-! ### repr -/
def rRepr (K : Frag) : List V → Hp → VK → Prop := fun vs H Q => ∃ (a : Addr) (d : PyData), vs = [.ref a] ∧ Dp K H (.ref a) d ∧ d.showable = true ∧ d.hasDict = false ∧ d.depth ≤ 50 ∧ d.shown.length ≤ sizeLine ∧ Q (.str d.shown) H
theorem guards0 {k : Nat} {A : Around} (hr : Room k A) (h : A.guards = some []) : A.guards = some [] := h
theorem cr_repr (hu : X.A.units + 64 < cLine) (hg : X.A.guards = some []) : CallR X (.builtin "repr") (rRepr X.K) := by
  intro pins s σ H vs us Q I r h
  obtain ⟨a, d, rfl, hd, hs, hn, hdp, hz, q⟩ := h
  rw [Vals.ref1 r]
  obtain ⟨as, rd⟩ := Dp.reads I d (.ref a) (.ref a) hd rfl
  exact repr_of_reads' rd hs (PyData.noDict_hsm hn) hg (by omega) (fun _ _ e => e) (fun h' u tk hk => ⟨.str d.shown, H, I.kept hk, ⟨_, rfl⟩, q⟩) hz
theorem cr_reprB : CallR X (.builtin "repr") (fun vs H Q => ∃ b : Bool, vs = [.bl b] ∧ Q (.str (if b then "True" else "False")) H) := by
  intro pins s σ H vs us Q I r h
  obtain ⟨b, rfl, q⟩ := h
  obtain ⟨u, rfl, e⟩ := vals1 r
  obtain rfl : u = Value.bool b := e
  exact PySem.P.repr_of_bool ⟨.str _, H, I.tok _, ⟨_, rfl⟩, q⟩

/-! ### x in t, t a tuple of data -/
def rInT (K : Frag) : R2 := fun x y H Q => ∃ d ds, Dp K H x d ∧ Dp K H y (.tuple ds) ∧ SeqAt.shaped d = true ∧ SeqAt.shaped (.list ds) = true ∧ Q (.bl (ds.any fun z => PyData.eqv z d)) H
theorem op_inT (hu : X.A.units + 65 < cLine) : OpR X (compareOp .In) (rInT X.K) := by
  intro pins s σ H x y v u Q I rx ry h
  obtain ⟨d, ds, hd, he, sd, se, q⟩ := h
  obtain ⟨as, r1⟩ := Dp.reads I d x v hd rx
  obtain ⟨bs, r2⟩ := Dp.reads I (.tuple ds) y u he ry
  exact SeqAt.in_tuple_reads r2 r1 (SeqAt.canLay_of_shaped se) (SeqAt.canLay_of_shaped sd) (room_in_shaped sd hu) ⟨.bl _, H, I, rfl, q⟩
end


end Cb

/-! Defs that are called where no repr is under way. -/
namespace Cb
open PySem PySem.Spec PyProof.Rows L2 PySem.W
/-- nothing stands around that a repr would meet again -/
def Gu (A : Around) : Prop := A.guards = some []
structure FnG (P : Program) (w : World) (K : Frag) (mg : Str → Option Value) (base : Heap) (k : Nat) (f : Addr) (fd : FuncData) (ps : List Str) (sp : Sp) : Prop where
  ln : ∀ vs H Q E, sp vs H Q E → vs.length = ps.length
  go : ∀ (A : Around) (out : List Env) (s : Shared) (H : Hp) (ar : Args) (us : List Value) (vs : List V) (Q : VK) (E : XK), Gu A → Room k A → Env0 P w K mg base A out s H →
    BindsTo s fd ar (ps.zip us) → Vals vs us → sp vs H Q E → codeAny (model P w) A (.call (.ref f) ar) (CR CX0 out P w H s Q E) s
theorem FnG.of {P : Program} {w : World} {K : Frag} {mg : Str → Option Value} {base : Heap} {k : Nat} {f : Addr} {fd : FuncData} {ps : List Str} {sp : Sp} (F : FnOk P w K mg base CX0 k f fd ps sp) : FnG P w K mg base k f fd ps sp :=
  ⟨F.len, fun A out s H ar us vs Q E _ hr => F.run A out s H ar us vs Q E hr⟩
theorem FnG.up {P : Program} {w : World} {K : Frag} {mg : Str → Option Value} {base : Heap} {j k : Nat} {f : Addr} {fd : FuncData} {ps : List Str} {sp : Sp} (F : FnG P w K mg base j f fd ps sp) (h : j ≤ k) : FnG P w K mg base k f fd ps sp :=
  ⟨F.ln, fun A out s H ar us vs Q E g hr => F.go A out s H ar us vs Q E g (hr.mono h)⟩
section
variable {P : Program} {w : World} {K : Frag} {mg : Str → Option Value} {base : Heap}
/-- a def's body, with that said of what stands around -/
theorem fnG_mk {x q : Str} {st : Stmt} {f : Addr} {fd : FuncData} {N ps : List Str} {k : Nat} {sp : Sp} (F : Fun K x q st f fd) (S : FnScope N ps (defScope st)) (ln : ∀ vs H Q E, sp vs H Q E → vs.length = ps.length)
    (hb : ∀ (cdv : Value) (A : Around) (out : List Env) (s : Shared) (H : Hp) (vs : List V) (Q : VK) (E : XK), Gu A → Room k (A.deeper (envOfC q (defScope st) s.heap.objs.size f cdv)) → sp vs H Q E →
      ∃ t, PSs (cxOf CX0 P w K mg base N q (defScope st) f cdv A out s H E).nox (defBody st) t ∧ t { nx := fun _ H' => Q .non H', rt := Q } (start N vs) H) : FnG P w K mg base (k + 1) f fd ps sp := by
  obtain ⟨oc, od, kV, doc, pm, an, cdv, ct, osl, rfl, lk, hcd⟩ := F.ex
  refine ⟨ln, fun A out s H ar us vs Q E g hr e0 hbi r hsp => ?_⟩
  -- the promise of this one entry, as if it were made for all
  have one : ∀ (B : Around) (o2 : List Env) (s2 : Shared) (H2 : Hp) (v2 : List V) (Q2 : VK) (E2 : XK), Room k (B.deeper (envOfC q (defScope st) s2.heap.objs.size f cdv)) → (Gu B ∧ sp v2 H2 Q2 E2) →
      ∃ t, PSs (cxOf CX0 P w K mg base N q (defScope st) f cdv B o2 s2 H2 E2) (defBody st) t ∧ t { nx := fun _ H' => Q2 .non H', rt := Q2 } (start N v2) H2 := fun B o2 s2 H2 v2 Q2 E2 hr2 h2 => by
    obtain ⟨t, h, z⟩ := hb cdv B o2 s2 H2 v2 Q2 E2 h2.1 hr2 h2.2
    exact ⟨t, h.nox, z⟩
  have hl := ln _ _ _ _ hsp
  have KX : K.In s.heap := e0.mod.kin.keeps fun b o e => (e0.bs b o e).1
  have lim : s.heap.NoLimit := e0.mod.nolimit.keeps fun b o e => (e0.bs b o e).1
  refine codeAny_call_function hr.depth (KX _ _ lk) rfl S.co S.gen rfl (codeRec_of KX hcd) (hbi _ _ _ _ ?_)
  refine wpAny_newFunctionEnv_cells S.kind (fun ⟨n, v⟩ hy => ?_) fun env he s1 x => ?_
  · rcases S.par n (List.of_mem_zip hy).1 with z | z
    · exact .inl z
    · exact .inr ⟨z, cellsFrom_some _ _ _ (.inl z)⟩
  · subst he
    refine ⟨lim.keeps x.toInCall.keep, codeAny_func ?_⟩
    obtain ⟨t, ht, hq⟩ := one A out s H vs Q E (hr.deeper _) ⟨g, hsp⟩
    refine wpAny_mono (ht.run [] s1 (start N vs) H _ (inv_start S hr.hd e0 hl r x) hq) (fun fl s' hs => ?_) fun e s' hs => hs
    cases fl with
    | ret u => exact let ⟨v, _, H', J, rv, z⟩ := hs; ⟨v, H', J.os, J.bare, J.base, J.hok, rv, z⟩
    | next => exact let ⟨_, H', J, z⟩ := hs; ⟨V.non, H', J.os, J.bare, J.base, J.hok, rfl, z⟩
    | brk => exact let ⟨_, _, _, z⟩ := hs; False.elim z
    | cont => exact let ⟨_, _, _, z⟩ := hs; False.elim z
end
section
variable {X : Cx} {k : Nat} {f : Addr} {fd : FuncData} {ps : List Str} {sp : Sp} {x : Str} {p pos : Pos} {e : Expr} {es : List Expr} {t : TA}
theorem runG {pins : List (Addr × Obj)} {σ : L2.St} {H : Hp} {s : Shared} {Q : VK} {us : List Value} {vs : List V} (F : FnG X.prog X.w X.K X.mg X.base k f fd ps sp) (g : Gu X.A) (hr : Room k X.A) (hb : Binds X.K fd ps []) (I : Inv X pins σ H s) (r : Vals vs us)
    (h : sp vs H Q E0) : wpAny (model X.prog X.w) X.A (call (.ref f) us) (EP X pins σ Q) X.xe s := by
  have hl : (us ++ ([] : List Value)).length = ps.length := by rw [List.append_nil, ← r.length]; exact F.ln _ _ _ _ h
  have hz := hb s us I.kIn hl
  rw [List.append_nil] at hz
  refine wpAny_call (codeAny_mono (F.go X.A X.stack s H ⟨us, []⟩ us vs Q E0 g hr I.env0 hz r h) fun z s' hq => ?_)
  match z, hq with
  | .ok (.ret u), hq => exact I.after hq
  | .ok .next, hq => exact False.elim hq
  | .ok .brk, hq => exact False.elim hq
  | .ok .cont, hq => exact False.elim hq
  | .error _, hq => exact False.elim hq
/-- f(e, ..) of such a def -/
theorem pe_callG (F : FnG X.prog X.w X.K X.mg X.base k f fd ps sp) (g : Gu X.A) (hr : Room k X.A) (hg : Gl X x) (hm : X.mg x = some (.ref f)) (hk : keepIn X.K (.ref f) = true) (hb : Binds X.K fd ps [])
    (ha : PA X (e :: es) t) (hdb : (x == ("__debug__" : Str)) = false := by decide) (he : starEach (e :: es) X.env = (false, eval e X.env) :: starEach es X.env := by rfl) (hpl : (backTo pos (starEach es X.env)).any (·.1) = false := by rfl) :
    PE X (.Call (.Name x p) (e :: es) [] pos) (tCall sp [] E0 t) := by
  refine ⟨fun pins s σ H Q I h => wpAny_Call_Name_kw (ld_glob I hg hm ?_ hdb)⟩
  refine callWith_K (h₀ := X.base) I.ok.mod.kin hk (thn (ha.run pos pins s σ H _ I h) fun us s1 ⟨vs, H1, I1, r, q⟩ => ⟨I1.kIn, ?_⟩) he hpl
  have q1 : sp (vs ++ []) H1 Q E0 := q
  rw [List.append_nil] at q1
  exact runG F g hr hb I1 r q1
end

/-! ### the end of a law's row -/
theorem lawG {P : Program} {w : World} {K : Frag} {mg mb : Str → Option Value} {k : Nat} {fa a : Addr} {fd : FuncData} {x : Str} {sp : Sp} {s₁ : Shared} {vs : List Value} {ns : List Int}
    (KX : K.In s₁.heap) (hns : s₁.heap.Ns mainGlobals mg) (hb : s₁.heap.Ns builtinsNs mb) (hbb : ∀ x : Str, x ≠ "__name__" → mb x = bootBuiltins x) (hlim : s₁.heap.NoLimit) (hg : s₁.gens = #[])
    (ha : s₁.heap.get? a = some { cls := .type "list", data := .seq vs.toArray }) (hi : IntsAre vs ns) (hl : ns.length ≤ sizeLine) (hr : Room k callerA)
    (F : ∀ base : Heap, K.In base → base.Ns mainGlobals mg → FnG P w K mg base k fa fd [x] sp) (hbind : ∀ (s : Shared) (u : Value), BindsTo s fd ⟨[u], []⟩ [(x, u)])
    (hsp : ∀ H : Hp, Only H → SqL K H a (ns.map V.int) → sp [.ref a] H (fun v _ => v = .bl true) fun _ _ _ => False) :
    codeAny (model P w) callerA (.call (.ref fa) ⟨[.ref a], []⟩) (fun r s' => r = .ok (.ret (.bool true)) ∧ OldK s₁.heap s'.heap ∧ s'.os = s₁.os ∧ AllBare s'.gens) s₁ := by
  have main : ∀ H : Hp, Only H → SqL K H a (ns.map V.int) → HOk P w H s₁.heap → (∀ b, H b ≠ none → b = a ∧ K.lookup a = none) →
      codeAny (model P w) callerA (.call (.ref fa) ⟨[.ref a], []⟩) (fun r s' => r = .ok (.ret (.bool true)) ∧ OldK s₁.heap s'.heap ∧ s'.os = s₁.os ∧ AllBare s'.gens) s₁ := by
    intro H hO hS hok hA
    have off : ∀ {b : Addr}, b ≠ a → H b = none := fun {b} n => Classical.byContradiction fun z => n (hA b z).1
    have dict_off : ∀ {b : Addr} {o : Obj} {es : Array DictEntry} {ep : Nat}, s₁.heap.get? b = some o → o.data = .dict es ep → b ≠ a := fun {b o es ep} e d z => by
      subst z
      rw [ha] at e
      cases e
      exact nomatch (show Data.seq vs.toArray _ = Data.dict es ep from d)
    have ns_ : ∀ {b : Addr} {m : Str → Option Value}, s₁.heap.Ns b m → (hidT s₁.heap H).Ns b m := fun {b m} ⟨o, es, ep, e, d, r⟩ => ⟨o, es, ep, hidT_get e (off (dict_off e d)), d, r⟩
    have k_ : K.In (hidT s₁.heap H) := fun b o e => hidT_get (KX b o e) (Classical.byContradiction fun z => by
      obtain ⟨z1, z2⟩ := hA b z
      rw [z1, z2] at e
      cases e)
    have e0 : Env0 P w K mg (hidT s₁.heap H) callerA [] s₁ H :=
      ⟨rfl, ⟨k_, ns_ hns, ⟨mb, ns_ hb, hbb⟩, let ⟨mc, h1, h2⟩ := hlim; ⟨mc, ns_ h1, h2⟩⟩, fun b o e => of_hidT e, Nat.le_of_eq (hidT_size _ _), trivial, fun b z => absurd (show b ∈ ([] : List Addr) from z) (by simp), hok, .of_eq hg⟩
    refine codeAny_mono ((F _ k_ (ns_ hns)).go callerA [] s₁ H ⟨[.ref a], []⟩ [.ref a] [.ref a] _ _ rfl hr e0 (hbind s₁ (.ref a)) (.cons rfl .nil) (hsp H hO hS)) fun r s' h => ?_
    match r, h with
    | .ok (.ret u), h =>
      obtain ⟨v, H', os, bare, un, hok', r', q⟩ := h
      obtain rfl : v = .bl true := q
      obtain rfl : u = Value.bool true := r'
      refine ⟨rfl, OldK.of_keep fun b o e => ?_, os, bare⟩
      cases q : H b with
      | none => exact un.keep b o e q (fun z => absurd (show b ∈ ([] : List Addr) from z) (by simp)) (by simp)
      | some u =>
        rcases hO b with z | ⟨ob, xs, z⟩
        · exact absurd (q.symm.trans z) (by simp)
        · have e1 := (hok b _ z).1
          have e2 := (hok' b _ (un.frzs b ob _ z)).1
          rw [e] at e1
          cases e1
          exact e2
    | .ok .next, h => exact False.elim h
    | .ok .brk, h => exact False.elim h
    | .ok .cont, h => exact False.elim h
    | .error _, h => exact False.elim h
  cases hk : K.lookup a with
  | some o =>
    have e := KX a o hk
    rw [ha] at e
    cases e
    exact main (fun _ => none) (fun _ => .inl rfl) (.inr ⟨_, vs.toArray, _, hk, rfl, rfl, rfl, by rw [List.size_toArray, hi.length]; exact hl, by simpa using vals_ints hi⟩) (fun b u z => nomatch (show (none : Option HO) = some u from z)) fun b z => absurd rfl z
  | none =>
    have here : (if a = a then some (HO.frz { cls := .type "list", data := .seq vs.toArray } (.lst (ns.map V.int))) else none) = some (HO.frz { cls := .type "list", data := .seq vs.toArray } (.lst (ns.map V.int))) := if_pos rfl
    refine main (fun b => if b = a then some (.frz { cls := .type "list", data := .seq vs.toArray } (.lst (ns.map V.int))) else none) (fun b => ?_) (.inl (.inr ⟨_, here⟩)) (fun b u z => ?_) (fun b z => ?_)
    · by_cases hb : b = a
      · exact .inr ⟨_, _, if_pos hb⟩
      · exact .inl (if_neg hb)
    · by_cases hb : b = a
      · subst hb
        cases here.symm.trans z
        exact ⟨ha, by rw [List.length_map]; exact hl, vs, _, vals_ints hi, ha⟩
      · exact absurd z (by simp [hb])
    · by_cases hb : b = a
      · exact ⟨hb, hk⟩
      · exact absurd (if_neg hb) z
theorem walkG {l : OpenLaw} {n k : Nat} {q : Program} {loose : List Str} {XP : (Str → Option Value) → Heap → Prop} {YP : World → Heap → Prop} {d : DefRec} {K : Params → Frag} {sp : World → Sp} {x : Str}
    (hn : l.most = some n) (hn2 : n ≤ sizeLine) (hdf : d.params.defaults = []) (hr : Room k callerA) (hY : ∀ (w : World) (h : Heap), YP w h → (K w.params).In h)
    (F : ∀ (w : World) (mg : Str → Option Value) (fa : Addr) (h : Heap), (K w.params).In h → h.Ns mainGlobals mg → mg d.name = some (.ref fa) →
      ∃ fd : FuncData, (∀ (s : Shared) (u : Value), BindsTo s fd ⟨[u], []⟩ [(x, u)]) ∧ ∀ base : Heap, (K w.params).In base → base.Ns mainGlobals mg → FnG l.prog w (K w.params) mg base k fa fd [x] (sp w))
    (hsp : ∀ (w : World) (H : Hp) (a : Addr) (ns : List Int), ns.length ≤ n → Only H → SqL (K w.params) H a (ns.map V.int) → sp w [.ref a] H (fun v _ => v = .bl true) fun _ _ _ => False) :
    WalkO q loose XP YP l.row.toRowW d [] (fun f vs => PySem.call f vs) := by
  refine Att.attach_call hn hdf fun w s₀ s₁ mg mb fa o pm cd doc a vs ns G Y ho hd hcd hmg hobj hints hlen hg => ?_
  obtain ⟨fd, hb, hF⟩ := F w mg fa _ (hY w _ Y) G.T.g hmg
  exact lawG (hY w _ Y) G.T.g G.T.b G.T.builtins G.T.nolimit hg hobj hints (Nat.le_trans hlen hn2) hr hF hb fun H hO hS => hsp w H a ns hlen hO hS
end Cb

/-! Comprehensions with three for. -/
namespace Cb
open PySem PySem.Spec PyProof.Rows L2 PySem.W
section turns
variable {prog : Program} {w : World} {A : Around} {R : Result → Shared → Prop} {elt tg i1 : Expr} {gs : List Comprehension} {sc : Scope} {pos : Pos} {k : Nat} {fs : List Expr} {p : Pos} {it acc : Value} {env : Env} {bd : Sem PySem.Fin → Sem PySem.Fin} {s : Shared}
/-- what a turn of clause k does: bd stands for what lies behind its tests, ahead of the next turn -/
def TurnIs (c tg : Expr) (k : Nat) (fs : List Expr) (p : Pos) (it acc : Value) (env : Env) (bd : Sem PySem.Fin → Sem PySem.Fin) : Prop :=
  compTurn c k it acc env = (do
    standAt p
    match ← pyNext it with
    | none => pure (.done .next)
    | some v =>
      letOwnedTupleGo tg it v
      assign tg env v
      let mut ok := true
      for f in fs do
        if ok then ok ← isTrue f env (eval f env)
      if ok then bd (again (.compLoop c k it acc env)) else again (.compLoop c k it acc env))
/-- bd comes to its end, where Z holds -/
def Ends3 (prog : Program) (w : World) (A : Around) (bd : Sem PySem.Fin → Sem PySem.Fin) (Z : Shared → Prop) (s : Shared) : Prop :=
  ∀ (n : Sem PySem.Fin) (Q : PySem.Fin → Shared → Prop) (E : Value → Shared → Prop), (∀ s', Z s' → wpAny (model prog w) A n Q E s') → wpAny (model prog w) A (bd n) Q E s
theorem loopB (ht : TurnIs (.ListComp elt gs sc pos) tg k fs p it acc env bd) (I : Nat → Shared → Prop)
    (turn : ∀ n s, I n s → wpAny (model prog w) A (pyNext it) (fun r s1 => match r with
      | none => R (.ok .next) s1
      | some v => wpAny (model prog w) A (letOwnedTupleGo tg it v) (fun _ s2 => wpAny (model prog w) A (assign tg env v) (fun _ s3 =>
          wpAny (model prog w) A (forIn fs true fun f r => if r = true then do let ok ← isTrue f env (eval f env); pure (ForInStep.yield ok) else pure (ForInStep.yield r)) (fun ok s4 =>
            if ok = true then Ends3 prog w A bd (fun s5 => ∃ m, m < n ∧ I m s5) s4 else ∃ m, m < n ∧ I m s4) (fun _ _ => False) s3) (fun _ _ => False) s2) (fun _ _ => False) s1) (fun _ _ => False) s)
    (n : Nat) (s : Shared) (h : I n s) : codeAny (model prog w) A (.compLoop (.ListComp elt gs sc pos) k it acc env) R s := by
  refine codeAny_loop rfl I (fun n s hI => ?_) n h
  show wpAny _ A ((compTurn (.ListComp elt gs sc pos) k it acc env).onRaise (fun x => do noteFrame x env; theTreesLotGoes x)) _ _ s
  refine wpAny_noted ?_
  rw [show compTurn (.ListComp elt gs sc pos) k it acc env = _ from ht]
  refine wpAny_bind (wpAny_standAt (wpAny_bind (thnF (turn n s hI) fun r s1 h1 => ?_)))
  match r, h1 with
  | none, h1 => exact wpAny_pure h1
  | some v, h1 =>
    refine wpAny_bind (thnF h1 fun _ s2 h2 => wpAny_bind (thnF h2 fun _ s3 h3 => wpAny_bind (thnF h3 fun ok s4 h4 => ?_)))
    cases ok with
    | false => exact wpAny_pure ⟨rfl, h4⟩
    | true => exact h4 _ _ _ fun s5 h5 => wpAny_pure ⟨rfl, h5⟩
/-- where a later clause begins -/
def NextIs (c i1 : Expr) (k : Nat) (acc : Value) (env : Env) (n : Sem PySem.Fin) : Sem PySem.Fin := do
  let x ← eval i1 env
  standAt i1.pos
  let x ← foldedSetIterable i1 env x
  let _ ← runOwn (.compStart c k (← holding [x] (pyIter x)) acc env) env
  n
def LastIs (elt : Expr) (acc : Value) (env : Env) (n : Sem PySem.Fin) : Sem PySem.Fin := do
  (do let _ ← call (.builtin "list.append") [acc, ← eval elt env])
  n
theorem last_ok {Z : Shared → Prop} (h : wpAny (model prog w) A (eval elt env) (fun x s1 => wpAny (model prog w) A (call (.builtin "list.append") [acc, x]) (fun _ s2 => Z s2) (fun _ _ => False) s1) (fun _ _ => False) s) : Ends3 prog w A (LastIs elt acc env) Z s := by
  intro n Q E hn
  unfold LastIs
  exact wpAny_bind (wpAny_bind (thnF h fun x s1 h1 => wpAny_bind (thnF h1 fun _ s2 h2 => wpAny_pure (hn s2 h2))))
theorem next_ok {c : Expr} {Z : Shared → Prop} (hs : ∀ x, foldedSetIterable i1 env x = pure x)
    (h : wpAny (model prog w) A (eval i1 env) (fun x s1 => wpAny (model prog w) A (pyIter x) (fun it1 s2 => codeAny (model prog w) A (.compStart c k it1 acc env) (fun r s3 => match r with
      | .ok _ => Z s3
      | .error _ => False) s2) (fun _ _ => False) s1) (fun _ _ => False) s) : Ends3 prog w A (NextIs c i1 k acc env) Z s := by
  intro n Q E hn
  unfold NextIs
  refine wpAny_bind (thnF h fun x s1 h1 => wpAny_bind (wpAny_standAt (wpAny_bind (wpAny_of_eq (hs x) (wpAny_bind (wpAny_holding (thnF h1 fun it1 s2 h2 => ?_)))))))
  refine wpAny_bind (wpAny_runOwn ?_)
  rw [Around.mark_none]
  refine codeAny_mono h2 fun r s3 hr => ?_
  match r, hr with
  | .ok f, hr => exact hn s3 hr
  | .error e, hr => exact False.elim hr
/-- a later clause's iterator gives itself -/
theorem start_ok (hc : ((gs)[k]?).elim false (fun g => g.is_async != 0) = false) (h0 : codeAny (model prog w) A (.compLoop (.ListComp elt gs sc pos) k it acc env) R s)
    (h : wpAny (model prog w) A (pyIter it) (fun it' s' => codeAny (model prog w) A (.compLoop (.ListComp elt gs sc pos) k it' acc env) R s') (fun _ _ => False) s) :
    codeAny (model prog w) A (.compStart (.ListComp elt gs sc pos) k it acc env) R s := by
  refine codeAny_of_tree ?_
  show wpAny _ _ ((compStart (.ListComp elt gs sc pos) k it acc env).onRaise (fun x => do noteFrame x env; standAt theWindowsPlace)) _ _ s
  refine wpAny_notedAt ?_
  unfold compStart
  rw [show ((clausesOf (.ListComp elt gs sc pos))[k]?).elim false (fun g => g.is_async != 0) = false from hc]
  show wpAny _ _ (ask >>= _) _ _ s
  refine wpAny_bind (wpAny_askSetting (wpAny_ite ?_))
  split
  · exact wpAny_pure (And.intro rfl h0)
  · refine wpAny_bind (wpAny_rule ?_)
    have jp : wpAny (model prog w) A (pyIter it >>= fun l => again (.compLoop (.ListComp elt gs sc pos) k l acc env)) (fun f s' => match f with
        | .done f => R (.ok f) s'
        | .again c' => c'.quiet = true ∧ codeAny (model prog w) A c' R s') (fun _ _ => False) s := wpAny_bind (thnF h fun it' s' h' => wpAny_pure ⟨rfl, h'⟩)
    show wpAny _ _ (match (clausesOf (.ListComp elt gs sc pos))[k]? with
      | some g => standAt g.iter.pos >>= fun _ => (pyIter it >>= fun l => again (.compLoop (.ListComp elt gs sc pos) k l acc env))
      | _ => (pyIter it >>= fun l => again (.compLoop (.ListComp elt gs sc pos) k l acc env))) _ _ s
    split
    · exact wpAny_bind (wpAny_standAt (thnF jp fun _ _ z => z))
    · exact thnF jp fun _ _ z => z
end turns
section forms
variable (elt t0 i0 t1 i1 t2 i2 : Expr) (f0 f1 f2 : List Expr) (sc : Scope) (pos : Pos) (it acc : Value) (env : Env)
abbrev c3 : Expr := .ListComp elt [⟨t0, i0, f0, 0⟩, ⟨t1, i1, f1, 0⟩, ⟨t2, i2, f2, 0⟩] sc pos
theorem turn3_0 : TurnIs (c3 elt t0 i0 t1 i1 t2 i2 f0 f1 f2 sc pos) t0 0 f0 i0.pos it acc env (NextIs (c3 elt t0 i0 t1 i1 t2 i2 f0 f1 f2 sc pos) i1 1 acc env) := by
  unfold TurnIs NextIs
  rfl
theorem turn3_1 : TurnIs (c3 elt t0 i0 t1 i1 t2 i2 f0 f1 f2 sc pos) t1 1 f1 i1.pos it acc env (NextIs (c3 elt t0 i0 t1 i1 t2 i2 f0 f1 f2 sc pos) i2 2 acc env) := by
  unfold TurnIs NextIs
  rfl
theorem turn3_2 : TurnIs (c3 elt t0 i0 t1 i1 t2 i2 f0 f1 f2 sc pos) t2 2 f2 i2.pos it acc env (LastIs elt acc env) := by
  unfold TurnIs LastIs
  rfl
end forms
end Cb

namespace Cb
open PySem PySem.Spec PyProof.Rows L2 PySem.W
abbrev Stt := List (Option V)
abbrev TB := Stt → Hp → (Hp → Prop) → Prop
/-- what a clause's end asks: the element, laid behind the list at D -/
def tEnd (te : TE) (D : Addr) : TB := fun σ H N => te σ H fun y H1 => ∃ acc, H1 D = some (.lst acc) ∧ acc.length < sizeLine ∧ N (upd H1 D (.lst (acc ++ [y])))
/-- what a later clause asks -/
def tCl (wi : TI) (g : TG) (tt : TT) (tb : TB) (vs : List Nat) : TB := fun σ H N => wi σ H fun J H1 => ∃ W : Nat → Nat → Hp → Prop, (∃ m, W 0 m H1) ∧ ∀ j m H, W j m H →
  (J.stop j H ∧ N H) ∨ (J.go j H ∧ ∃ N1 : Hp → Prop, (∀ H', N1 H' → ∃ m', m' < m ∧ W (j + 1) m' H') ∧ ∀ x H', J.yld j H x H' → g x (wipe σ vs) H' fun σ2 H2 => wipe σ2 vs = wipe σ vs ∧ tt σ2 H2 fun b H3 => if b = true then tb σ2 H3 N1 else N1 H3)
section
variable {Y : Cx} {elt tg i1 : Expr} {gs : List Comprehension} {sc : Scope} {pos p : Pos} {k : Nat} {fs : List Expr} {D : Addr} {bd : Sem PySem.Fin → Sem PySem.Fin} {wi : TI} {g : TG} {tt : TT} {te : TE} {tb : TB} {vI vs : List Nat}
/-- bd keeps the block and does what tb asks; the slots vI are forgotten behind it -/
def Bd (Y : Cx) (bd : Sem PySem.Fin → Sem PySem.Fin) (tb : TB) (vI : List Nat) : Prop := ∀ (pins : List (Addr × Obj)) (σ : Stt) (H : Hp) (s : Shared) (N : Hp → Prop), Inv Y pins σ H s → tb σ H N →
  Ends3 Y.prog Y.w Y.A bd (fun s' => ∃ H', Inv Y pins (wipe σ vI) H' s' ∧ N H') s
theorem bd_last (hx : Y.xe = fun _ _ => False) (he : PE Y elt te) : Bd Y (LastIs elt (.ref D) Y.env) (tEnd te D) [] := by
  intro pins σ H s N I h
  have q := he.run pins s σ H _ I h
  rw [hx] at q
  refine last_ok (thnF q fun x s1 hz => ?_)
  obtain ⟨yv, H1, I1, r1, acc, hD, hl, nx⟩ := hz
  exact app_ok I1 hD hl r1 fun s2 I2 => ⟨_, I2, nx⟩
theorem bd_clause (hx : Y.xe = fun _ _ => False) (hc : Y.calm = true) (tu : ∀ it, TurnIs (.ListComp elt gs sc pos) tg k fs p it (.ref D) Y.env bd) (hgs : ((gs)[k]?).elim false (fun g => g.is_async != 0) = false)
    (hs : ∀ x, foldedSetIterable i1 Y.env x = pure x) (hi : PI Y tg i1 wi) (hg : PG Y tg g) (ht : PTs Y fs tt) (hb : Bd Y bd tb vI) (hv : ∀ i ∈ vI, i ∈ vs) :
    Bd Y (NextIs (.ListComp elt gs sc pos) i1 k (.ref D) Y.env) (tCl wi g tt tb vs) vs := by
  intro pins σ H s N I h
  have q := hi.run pins s σ H _ I h
  rw [hx] at q
  refine next_ok hs (thnF q fun xv s1 hz => thnF hz fun itv s2 h2 => ?_)
  obtain ⟨it, fp, tn, J, H2, rfl, I2, T, st2, f2, W, ⟨m0, w0⟩, tr⟩ := h2
  have fpk : ∀ {H' : Hp}, (∀ b ∈ fp, H' b = none) → ∀ b ∈ fp, FpOk Y pins H' b := fun n b hb => ⟨n b hb, (f2 b hb).2⟩
  have lp : codeAny (model Y.prog Y.w) Y.A (.compLoop (.ListComp elt gs sc pos) k (.ref it) (.ref D) Y.env) (fun r s3 => match r with
      | .ok _ => ∃ H', Inv Y pins (wipe σ vs) H' s3 ∧ N H'
      | .error _ => False) s2 := by
    refine loopB (tu _) (fun n s' => ∃ j H', Inv Y pins (wipe σ vs) H' s' ∧ tn j s'.heap ∧ (∀ b ∈ fp, H' b = none) ∧ W j n H') (fun n s3 h3 => ?_) m0 s2 ⟨0, H2, I2.weak (wipe_length _ _) (fun _ _ e => (wipe_some e).1), st2, fun b hb => (f2 b hb).1, w0⟩
    obtain ⟨j, H3, I3, st3, n3, w3⟩ := h3
    rcases tr j n H3 w3 with ⟨stop, nx⟩ | ⟨go, N1, hN, step⟩
    · refine thnF (T.done Y rfl rfl rfl hc j pins s3 _ H3 (fun _ _ => False) I3 (fpk n3) st3 stop) fun r s4 hr => ?_
      obtain ⟨rfl, I4⟩ := hr
      exact ⟨H3, I4, nx⟩
    · refine thnF (T.item Y rfl rfl rfl hc j pins s3 _ H3 (fun _ _ => False) I3 (fpk n3) st3 go) fun r s4 hr => ?_
      obtain ⟨u, rfl, h4⟩ := hr
      refine thnF h4 fun _ s5 h5 => ?_
      obtain ⟨x, H5, I5, r5, y5, st5, n5⟩ := h5
      have a1 := hg.run _ s5 _ H5 x u _ (I5.pinned (fpk n5) (T.obj _ _ st5)) r5 (step x H5 y5)
      rw [hx] at a1
      refine thnF a1 fun _ s6 h6 => ?_
      obtain ⟨σ6, H6, I6, e6, q6⟩ := h6
      have a2 := ht.run _ s6 σ6 H6 _ I6 q6
      rw [hx] at a2
      refine thnF a2 fun b s7 h7 => ?_
      obtain ⟨H7, I7, q7⟩ := h7
      have back : ∀ {σ8 : Stt} {s' : Shared} {H' : Hp}, Inv Y (pins ++ pinsAt fp s5.heap) σ8 H' s' → σ8.length = σ6.length → (∀ (i : Nat) v, (wipe σ vs)[i]? = some (some v) → σ8[i]? = some (some v)) → N1 H' →
          ∃ m, m < n ∧ ∃ j H', Inv Y pins (wipe σ vs) H' s' ∧ tn j s'.heap ∧ (∀ b ∈ fp, H' b = none) ∧ W j m H' := fun {σ8 s' H'} I' hl hk nx => by
        obtain ⟨m', hm, w'⟩ := hN H' nx
        have at_ : ∀ b ∈ fp, ∀ o, s5.heap.get? b = some o → s'.heap.get? b = some o ∧ H' b = none := fun b hb o e =>
          ⟨(I'.pin (b, o) (List.mem_append_right _ (List.mem_append_right _ (mem_pinsAt hb e)))).1, (I'.pin (b, o) (List.mem_append_right _ (List.mem_append_right _ (mem_pinsAt hb e)))).2.1⟩
        refine ⟨m', hm, j + 1, H', I'.unpinned.weak (by rw [hl, ← wipe_length σ6 vs, e6]) hk, T.keep _ _ _ st5 fun b hb o e => (at_ b hb o e).1, fun b hb => ?_, w'⟩
        obtain ⟨o, e, _⟩ := T.obj _ _ st5 b hb
        exact (at_ b hb o e).2
      have k6 : ∀ (i : Nat) v, (wipe σ vs)[i]? = some (some v) → σ6[i]? = some (some v) ∧ i ∉ vs := fun i v e => by
        rw [← e6] at e
        exact wipe_some e
      cases b with
      | false => exact back I7 rfl (fun i v e => (k6 i v e).1) q7
      | true =>
        intro nn QQ EE hn
        refine hb _ σ6 H7 s7 N1 I7 q7 nn QQ EE fun s8 h8 => hn s8 ?_
        obtain ⟨H8, I8, nx⟩ := h8
        refine back I8 (wipe_length _ _) (fun i v e => ?_) nx
        rw [wipe_out fun z => (k6 i v e).2 (hv i z)]
        exact (k6 i v e).1
  exact start_ok hgs lp (T.self Y.A 0 _ _ _ st2 lp)
end
section
variable {X : Cx}
/-- [elt for t0 in i0 for t1 in i1 for t2 in i2 ..]: D the new list -/
def tLcN (wi : TI) (g : TG) (tt : TT) (tb : Addr → TB) (vs : List Nat) : TE := fun σ H Q => wi σ H fun J H1 => ∀ D, H1 D = none → ∃ W : Nat → Nat → Hp → Prop, (∃ m, W 0 m (upd H1 D (.lst []))) ∧ ∀ i m H, W i m H →
  (J.stop i H ∧ Q (.ref D) H) ∨ (J.go i H ∧ ∃ N : Hp → Prop, (∀ H', N H' → ∃ m', m' < m ∧ W (i + 1) m' H') ∧ ∀ x H', J.yld i H x H' → g x (wipe σ vs) H' fun σ2 H2 => wipe σ2 vs = wipe σ vs ∧ tt σ2 H2 fun b H3 => if b = true then tb D σ2 H3 N else N H3)
theorem lcN_ok {elt tg iter : Expr} {ifs : List Expr} {rest : List Comprehension} {scope : Scope} {own : List (Str × Nat)} {pos : Pos} {wi : TI} {g : TG} {tt : TT} {tb : Addr → TB} {vI : List Nat} {bd : Addr → Env → Sem PySem.Fin → Sem PySem.Fin}
    (hc : X.calm = true) (hN : X.N.Nodup) (hi : PI X tg iter wi) (ok : BlkOk X.N X.env.scope scope own) (hs : ∀ x, foldedSetIterable iter X.env x = pure x)
    (tu : ∀ (it D : Addr) (env : Env), TurnIs (.ListComp elt (⟨tg, iter, ifs, 0⟩ :: rest) scope pos) tg 0 ifs iter.pos (.ref it) (.ref D) env (bd D env))
    (hg : ∀ (s : Shared) (H : Hp) (C : Addr) (cl : List (Str × Addr)) (fp : List Addr), PG (X.blk s H scope (compEnvC scope cl C X.env) fp) tg g) (ht : ∀ (s : Shared) (H : Hp) (C : Addr) (cl : List (Str × Addr)) (fp : List Addr), PTs (X.blk s H scope (compEnvC scope cl C X.env) fp) ifs tt)
    (hb : ∀ (s : Shared) (H : Hp) (C : Addr) (cl : List (Str × Addr)) (fp : List Addr) (D : Addr), Bd (X.blk s H scope (compEnvC scope cl C X.env) fp) (bd D (compEnvC scope cl C X.env)) (tb D) vI) (hv : ∀ i ∈ vI, i ∈ own.map (·.2)) :
    PE X (.ListComp elt (⟨tg, iter, ifs, 0⟩ :: rest) scope pos) (tLcN wi g tt tb (own.map (·.2))) := by
  refine ⟨fun pins s σ H Q I h => ?_⟩
  rw [eval_ListComp]
  have free_ : ∀ y ∈ scope.names, y.2 = .free → ∃ c, X.env.cells.lookup y.1 = some c := fun y hy e => I.ok.has _ (ok.free y hy e)
  refine wpAny_comprehension_free (use := none) rfl hs (closure_ok free_) ok.kind (fun y hy e => by rw [ok.uniq y hy, e]) (thn (hi.run pins s σ H _ I h) fun xv s1 hz => thn hz fun itv s2 h2 => ?_)
  obtain ⟨it, fp, tn, J, H2, rfl, I2, T, st2, f2, q⟩ := h2
  refine wpAny_newObj_type (newEnv_comp ?_) (by show 0 ≤ sizeLine; decide)
  generalize hD : s2.heap.objs.size = D
  obtain ⟨W, ⟨m0, w0⟩, tr⟩ := q D (I2.hok.fresh (Nat.le_of_eq hD))
  generalize es : ({ s2 with heap := s2.heap.push { cls := .type "list", data := .seq ([] : List Value).toArray } } : Shared) = s3
  have h3 : s3.heap = s2.heap.push { cls := .type "list", data := .seq ([] : List Value).toArray } := by rw [← es]
  have I3 : Inv X pins σ (upd H2 D (.lst [])) s3 := by
    rw [← es]
    refine I2.laid (t' := s2.toks) (fun b o e => Heap.get?_push_of_some _ e) (Nat.le_of_eq hD) ⟨Nat.zero_le _, [], 0, .nil, ?_⟩
    rw [← hD]
    exact Heap.get?_push_size _ rfl
  have f3 : ∀ b ∈ fp, FpOk X pins (upd H2 D (.lst [])) b ∧ b < s3.heap.objs.size := fun b hb => by
    obtain ⟨o, e, _⟩ := T.obj _ _ st2 b hb
    have lt_ := Heap.lt_size e
    refine ⟨⟨?_, (f2 b hb).2⟩, by rw [h3, Heap.size_push]; exact Nat.lt_succ_of_lt lt_⟩
    rw [upd_ne (by rw [← hD]; exact Nat.ne_of_lt lt_)]
    exact (f2 b hb).1
  have st3 : tn 0 s3.heap := T.keep _ _ _ st2 fun b _ o e => by rw [h3]; exact Heap.get?_push_of_some _ e
  have I4 := block_start I3 ok hN f3
  have pg := hg s3 (upd H2 D (.lst [])) s3.heap.objs.size (cellsFrom (s3.heap.objs.size + 1) scope.names (cloFrom X.env.cells scope.names [])) fp
  have pt := ht s3 (upd H2 D (.lst [])) s3.heap.objs.size (cellsFrom (s3.heap.objs.size + 1) scope.names (cloFrom X.env.cells scope.names [])) fp
  have pb := hb s3 (upd H2 D (.lst [])) s3.heap.objs.size (cellsFrom (s3.heap.objs.size + 1) scope.names (cloFrom X.env.cells scope.names [])) fp D
  show codeAny _ _ (.compStart (.ListComp elt (⟨tg, iter, ifs, 0⟩ :: rest) scope pos) 0 (.ref it) (.ref D) (compEnvC scope (cellsFrom (s3.heap.objs.size + 1) scope.names (cloFrom X.env.cells scope.names [])) s3.heap.objs.size X.env)) (compPost (model X.prog X.w) X.A X.xe none _ (.ref D) s3.heap.objs.size) { s3 with heap := pushCells (s3.heap.push { cls := .type "dict", data := .dict #[] }) scope.names }
  have nfp : ∀ b ∈ fp, (upd H2 D (.lst [])) b = none := fun b hb => (f3 b hb).1.1
  have tu0 := tu it D (compEnvC scope (cellsFrom (s3.heap.objs.size + 1) scope.names (cloFrom X.env.cells scope.names [])) s3.heap.objs.size X.env)
  generalize ec : compEnvC scope (cellsFrom (s3.heap.objs.size + 1) scope.names (cloFrom X.env.cells scope.names [])) s3.heap.objs.size X.env = ce at I4 pg pt pb tu0 ⊢
  have cL : ce.locals = s3.heap.objs.size := by subst ec; rfl
  generalize eH : upd H2 D (.lst []) = H3 at I3 I4 pg pt pb w0 nfp f3
  generalize e4 : ({ s3 with heap := pushCells (s3.heap.push { cls := .type "dict", data := .dict #[] }) scope.names } : Shared) = s4 at I4 ⊢
  have st4 : tn 0 s4.heap := T.keep _ _ _ st3 fun b _ o e => by rw [← e4]; exact pushCells_keeps _ _ _ _ (Heap.get?_push_of_some _ e)
  have fpk : ∀ {σ' : Stt} {H' : Hp} {s' : Shared}, Inv (X.blk s3 H3 scope ce fp) [] σ' H' s' → (∀ b ∈ fp, H' b = none) → ∀ b ∈ fp, FpOk (X.blk s3 H3 scope ce fp) [] H' b := fun {σ' H' s'} I' hn b hb =>
    ⟨hn b hb, (I'.ok.exf b hb).1, I'.ok.exfs b hb, .inl hb, fun x c e => (I'.ok.exf b hb).2 x c e, fun p hp => absurd (show p ∈ ([] : List (Addr × Obj)) ++ [] from hp) (by simp)⟩
  have lp : codeAny (model X.prog X.w) X.A (.compLoop (.ListComp elt (⟨tg, iter, ifs, 0⟩ :: rest) scope pos) 0 (.ref it) (.ref D) ce)
      (compPost (model X.prog X.w) X.A X.xe none (EP X pins σ Q) (.ref D) s3.heap.objs.size) s4 := by
    refine loopB tu0 (fun n s' => ∃ i H', Inv (X.blk s3 H3 scope ce fp) [] (wipe σ (own.map (·.2))) H' s' ∧ tn i s'.heap ∧ (∀ b ∈ fp, H' b = none) ∧ W i n H') (fun n s5 h5 => ?_) m0 s4 ⟨0, H3, I4, st4, nfp, w0⟩
    obtain ⟨i, H5, I5, st5, n5, w5⟩ := h5
    rcases tr i n H5 w5 with ⟨stop, qq⟩ | ⟨go, N1, hN1, step⟩
    · refine thnF (T.done (X.blk s3 H3 scope ce fp) rfl rfl rfl hc i [] s5 _ H5 (fun _ _ => False) I5 (fpk I5 n5) st5 stop) fun r s6 hr => ?_
      obtain ⟨rfl, I6⟩ := hr
      have I7 : Inv X pins σ H5 s6 := I3.call' (ch := fp) I6.os I6.base I6.hok I6.bare fun b hb => ⟨(f3 b hb).1.2.2.2.1, (f3 b hb).1.2.1, (f3 b hb).1.2.2.2.2.1, (f3 b hb).1.2.2.2.2.2⟩
      have nC : H5 s3.heap.objs.size = none := by
        rw [← cL]
        exact I6.free
      obtain ⟨m, hn, _⟩ := I6.loc
      have hn : s6.heap.Ns ce.locals m := hn
      rw [cL] at hn
      obtain ⟨g0, g1, _, g3, g4, g5⟩ := I3.fpOk (H' := H5) (Nat.le_refl _) nC
      exact ⟨m, hn, fun h'' sb => ⟨.ref D, H5, I7.turned (t' := s6.toks) (fun b o hb e => (sb.2 b hb).trans e) g0 g1 (by assumption) (by assumption) (by assumption), rfl, qq⟩⟩
    · refine thnF (T.item (X.blk s3 H3 scope ce fp) rfl rfl rfl hc i [] s5 _ H5 (fun _ _ => False) I5 (fpk I5 n5) st5 go) fun r s6 hr => ?_
      obtain ⟨u, rfl, h6⟩ := hr
      refine thnF h6 fun _ s7 h7 => ?_
      obtain ⟨x, H7, I7, r7, y7, st7, n7⟩ := h7
      refine thnF (pg.run _ s7 _ H7 x u _ (I7.pinned (fpk I7 n7) (T.obj _ _ st7)) r7 (step x H7 y7)) fun _ s8 h8 => ?_
      obtain ⟨σ8, H8, I8, e8, q8⟩ := h8
      refine thnF (pt.run _ s8 σ8 H8 _ I8 q8) fun b s9 h9 => ?_
      obtain ⟨H9, I9, q9⟩ := h9
      have back : ∀ {σ9 : Stt} {s' : Shared} {H' : Hp}, Inv (X.blk s3 H3 scope ce fp) ([] ++ pinsAt fp s7.heap) σ9 H' s' → σ9.length = σ8.length → (∀ (j : Nat) v, (wipe σ (own.map (·.2)))[j]? = some (some v) → σ9[j]? = some (some v)) → N1 H' →
          ∃ m, m < n ∧ ∃ i H', Inv (X.blk s3 H3 scope ce fp) [] (wipe σ (own.map (·.2))) H' s' ∧ tn i s'.heap ∧ (∀ b ∈ fp, H' b = none) ∧ W i m H' := fun {σ9 s' H'} I' hl hk nx => by
        obtain ⟨m', hm, w'⟩ := hN1 H' nx
        have at_ : ∀ b ∈ fp, ∀ o, s7.heap.get? b = some o → s'.heap.get? b = some o ∧ H' b = none := fun b hb o e =>
          ⟨(I'.pin (b, o) (List.mem_append_right _ (List.mem_append_right _ (mem_pinsAt hb e)))).1, (I'.pin (b, o) (List.mem_append_right _ (List.mem_append_right _ (mem_pinsAt hb e)))).2.1⟩
        refine ⟨m', hm, i + 1, H', (I'.unpinned (pins := [])).weak (by rw [hl, ← wipe_length σ8 (own.map (·.2)), e8]) hk, T.keep _ _ _ st7 fun b hb o e => (at_ b hb o e).1, fun b hb => ?_, w'⟩
        obtain ⟨o, e, _⟩ := T.obj _ _ st7 b hb
        exact (at_ b hb o e).2
      have k8 : ∀ (j : Nat) v, (wipe σ (own.map (·.2)))[j]? = some (some v) → σ8[j]? = some (some v) ∧ j ∉ own.map (·.2) := fun j v e => by
        rw [← e8] at e
        exact wipe_some e
      cases b with
      | false => exact back I9 rfl (fun j v e => (k8 j v e).1) q9
      | true =>
        intro nn QQ EE hn
        refine pb _ σ8 H9 s9 N1 I9 q9 nn QQ EE fun s10 h10 => hn s10 ?_
        obtain ⟨H10, I10, nx⟩ := h10
        refine back I10 (wipe_length _ _) (fun j v e => ?_) nx
        rw [wipe_out fun z => (k8 j v e).2 (hv j z)]
        exact (k8 j v e).1
  exact codeAny_compStart_list lp (T.self X.A 0 _ _ _ st4 lp)
end
end Cb

/-! Sets of people and lists of crews as data; what a draw may change. -/
namespace Cb
open PySem PySem.Spec PyProof.Rows L2 PySem.W
abbrev PD := PyData
/-! ### pairs of lists -/
theorem prd_get {α β : Type} {F : α → β → Prop} : ∀ {xs : List α} {ys : List β} {i : Nat} {y : β}, Paired F xs ys → ys[i]? = some y → ∃ x, xs[i]? = some x ∧ F x y
  | _, _, _, _, .nil, e => by simp at e
  | _, _, 0, _, .cons r _, e => by simp at e; subst e; exact ⟨_, rfl, r⟩
  | _, _, i + 1, y, .cons _ t, e => by
    obtain ⟨x, h1, h2⟩ := prd_get (i := i) (y := y) t (by simpa using e)
    exact ⟨x, by simpa using h1, h2⟩
theorem prd_getL {α β : Type} {F : α → β → Prop} : ∀ {xs : List α} {ys : List β} {i : Nat} {x : α}, Paired F xs ys → xs[i]? = some x → ∃ y, ys[i]? = some y ∧ F x y
  | _, _, _, _, .nil, e => by simp at e
  | _, _, 0, _, .cons r _, e => by simp at e; subst e; exact ⟨_, rfl, r⟩
  | _, _, i + 1, y, .cons _ t, e => by
    obtain ⟨x, h1, h2⟩ := prd_getL (i := i) (x := y) t (by simpa using e)
    exact ⟨x, by simpa using h1, h2⟩
theorem prd_mono {α β : Type} {F G : α → β → Prop} (h : ∀ a b, F a b → G a b) : ∀ {xs : List α} {ys : List β}, Paired F xs ys → Paired G xs ys
  | _, _, .nil => .nil
  | _, _, .cons r t => .cons (h _ _ r) (prd_mono h t)
theorem prd_app {α β : Type} {F : α → β → Prop} : ∀ {xs : List α} {ys : List β} {xs' : List α} {ys' : List β}, Paired F xs ys → Paired F xs' ys' → Paired F (xs ++ xs') (ys ++ ys')
  | _, _, _, _, .nil, s => s
  | _, _, _, _, .cons r t, s => .cons r (prd_app t s)
theorem prd_take {α β : Type} {F : α → β → Prop} : ∀ {xs : List α} {ys : List β} (n : Nat), Paired F xs ys → Paired F (xs.take n) (ys.take n)
  | _, _, 0, _ => .nil
  | _, _, _ + 1, .nil => .nil
  | _, _, n + 1, .cons r t => .cons r (prd_take n t)
theorem prd_drop {α β : Type} {F : α → β → Prop} : ∀ {xs : List α} {ys : List β} (n : Nat), Paired F xs ys → Paired F (xs.drop n) (ys.drop n)
  | _, _, 0, h => h
  | _, _, _ + 1, .nil => .nil
  | _, _, n + 1, .cons r t => prd_drop n t
theorem prd_len {α β : Type} {F : α → β → Prop} : ∀ {xs : List α} {ys : List β}, Paired F xs ys → xs.length = ys.length
  | _, _, .nil => rfl
  | _, _, .cons r t => congrArg Nat.succ (prd_len t)
theorem prd_map {α β γ δ : Type} {F : γ → δ → Prop} (f : α → γ) (g : β → δ) : ∀ {xs : List α} {ys : List β}, Paired (fun a b => F (f a) (g b)) xs ys → Paired F (xs.map f) (ys.map g)
  | _, _, .nil => .nil
  | _, _, .cons r t => .cons r (prd_map f g t)
theorem prd_fst {α β : Type} {F : α → β → Prop} : ∀ {xs : List α} {ys : List β}, Paired F xs ys → ∃ zs : List (α × β), zs.map (·.1) = xs ∧ zs.map (·.2) = ys ∧ ∀ z ∈ zs, F z.1 z.2
  | _, _, .nil => ⟨[], rfl, rfl, fun _ h => by simp at h⟩
  | _, _, .cons (a := a) (b := b) r t => by
    obtain ⟨zs, h1, h2, h3⟩ := prd_fst t
    refine ⟨(a, b) :: zs, by rw [List.map_cons, h1], by rw [List.map_cons, h2], fun z hz => ?_⟩
    rcases List.mem_cons.mp hz with e | hz
    · rw [e]
      exact r
    · exact h3 z hz
theorem prd_of {α β : Type} {F : α → β → Prop} : ∀ {zs : List (α × β)}, (∀ z ∈ zs, F z.1 z.2) → Paired F (zs.map (·.1)) (zs.map (·.2))
  | [], _ => .nil
  | z :: zs, h => .cons (h z List.mem_cons_self) (prd_of fun y hy => h y (List.mem_cons_of_mem _ hy))

/-! ### sets of people, lists of crews -/
def sD (ns : List Str) : PD := .tuple (ns.map .str)
def tD (ts : List (List Str)) : PD := .tuple (ts.map sD)
def S1 (K : Frag) (H : Hp) (v : V) (ns : List Str) : Prop := ∃ a, v = .ref a ∧ SqT K H a (ns.map V.str)
def S2 (K : Frag) (H : Hp) (v : V) (ts : List (List Str)) : Prop := ∃ a xs, v = .ref a ∧ SqT K H a xs ∧ Paired (S1 K H) xs ts
section
variable {K : Frag} {H H' H0 : Hp}
theorem dpStrs : ∀ ns : List Str, DpAll K H (ns.map V.str) (ns.map PyData.str)
  | [] => .nil
  | n :: ns => .cons (.str n) (dpStrs ns)
theorem S1.dp {v : V} {ns : List Str} (h : S1 K H v ns) : Dp K H v (sD ns) := by
  obtain ⟨a, rfl, h⟩ := h
  exact .tup h (dpStrs ns)
theorem s1s_dp : ∀ {xs : List V} {ts : List (List Str)}, Paired (S1 K H) xs ts → DpAll K H xs (ts.map sD)
  | _, _, .nil => .nil
  | _, _, .cons r t => .cons r.dp (s1s_dp t)
theorem S2.dp {v : V} {ts : List (List Str)} (h : S2 K H v ts) : Dp K H v (tD ts) := by
  obtain ⟨a, xs, rfl, h, t⟩ := h
  exact .tup h (s1s_dp t)
theorem S1.same {v : V} {ns : List Str} (e : Same H H') (h : S1 K H v ns) : S1 K H' v ns := by
  obtain ⟨a, rfl, h⟩ := h
  exact ⟨a, rfl, sameT e h⟩
theorem S2.same {v : V} {ts : List (List Str)} (e : Same H H') (h : S2 K H v ts) : S2 K H' v ts := by
  obtain ⟨a, xs, rfl, h, t⟩ := h
  exact ⟨a, xs, rfl, sameT e h, prd_mono (fun _ _ z => z.same e) t⟩
theorem same_upd {p : Addr} {o : HO} (h : H p = none) : Same H (upd H p o) := fun b x e => by
  rw [upd_ne (ne_of_none e h)]
  exact e
theorem same_mut {p : Addr} {o : HO} (e : Same H0 H) (h : H0 p = none) : Same H0 (upd H p o) := fun b x z => by
  rw [upd_ne (ne_of_none z h)]
  exact e b x z
theorem st_ (h : H' a = some (.tup xs)) : SqT K H' a xs := .inl (.inl h)
theorem sl_ (h : H' a = some (.lst xs)) : SqL K H' a xs := .inl (.inl h)

/-! ### the dict at r may change, all else stands -/
def Ch (r : Addr) (H H' : Hp) : Prop := ∀ b o, H b = some o → H' b = some o ∨ (b = r ∧ (∃ k, o = .dK k) ∧ ∃ k, H' b = some (.dK k))
variable {r : Addr}
theorem Ch.refl : Ch r H H := fun _ _ h => .inl h
theorem Ch.of (e : Same H H') : Ch r H H' := fun b o h => .inl (e b o h)
theorem Ch.trans (h1 : Ch r H0 H) (h2 : Ch r H H') : Ch r H0 H' := fun b o h => by
  rcases h1 b o h with e | ⟨rfl, k, k', e⟩
  · exact h2 b o e
  · rcases h2 _ _ e with e2 | ⟨_, _, k2, e2⟩
    · exact .inr ⟨rfl, k, k', e2⟩
    · exact .inr ⟨rfl, k, k2, e2⟩
theorem Ch.at (h : Ch r H H') {b : Addr} {o : HO} (e : H b = some o) (n : ∀ k, o ≠ .dK k) : H' b = some o := by
  rcases h b o e with z | ⟨_, ⟨k, z⟩, _⟩
  · exact z
  · exact absurd z (n k)
theorem Ch.lst (h : Ch r H H') {b : Addr} {xs : List V} (e : H b = some (.lst xs)) : H' b = some (.lst xs) := h.at e fun _ z => by cases z
theorem Ch.sqT (h : Ch r H H') {a : Addr} {xs : List V} (e : SqT K H a xs) : SqT K H' a xs := by
  rcases e with (e | ⟨o, e⟩) | e
  · exact .inl (.inl (h.at e fun _ z => by cases z))
  · exact .inl (.inr ⟨o, h.at e fun _ z => by cases z⟩)
  · exact .inr e
theorem Ch.sqL (h : Ch r H H') {a : Addr} {xs : List V} (e : SqL K H a xs) : SqL K H' a xs := by
  rcases e with (e | ⟨o, e⟩) | e
  · exact .inl (.inl (h.at e fun _ z => by cases z))
  · exact .inl (.inr ⟨o, h.at e fun _ z => by cases z⟩)
  · exact .inr e
theorem Ch.s1 (h : Ch r H H') {v : V} {ns : List Str} (e : S1 K H v ns) : S1 K H' v ns := by
  obtain ⟨a, rfl, e⟩ := e
  exact ⟨a, rfl, h.sqT e⟩
theorem Ch.s1s (h : Ch r H H') {xs : List V} {ts : List (List Str)} (e : Paired (S1 K H) xs ts) : Paired (S1 K H') xs ts := prd_mono (fun _ _ z => h.s1 z) e
theorem Ch.s2 (h : Ch r H H') {v : V} {ts : List (List Str)} (e : S2 K H v ts) : S2 K H' v ts := by
  obtain ⟨a, xs, rfl, e, t⟩ := e
  exact ⟨a, xs, rfl, h.sqT e, h.s1s t⟩
theorem Ch.free (h : Ch r H H') {l : Addr} (e : H' l = none) : H l = none := by
  cases q : H l with
  | none => rfl
  | some o =>
    rcases h l o q with z | ⟨_, _, k, z⟩
    · rw [e] at z; cases z
    · rw [e] at z; cases z
theorem Ch.upd (h : Ch r H0 H) {l : Addr} {o : HO} (n : H0 l = none) : Ch r H0 (L2.upd H l o) := fun b x e => by
  have nb := ne_of_none e n
  rw [upd_ne nb]
  exact h b x e
theorem Ch.new {l : Addr} {o : HO} (n : H l = none) : Ch r H (L2.upd H l o) := Ch.refl.upd n
theorem Ch.put {k k' : List (Key × V)} (e : H r = some (.dK k)) : Ch r H (L2.upd H r (.dK k')) := fun b o h => by
  by_cases hb : b = r
  · subst hb
    rw [e] at h
    cases h
    exact .inr ⟨rfl, ⟨_, rfl⟩, k', upd_same⟩
  · exact .inl (by rw [upd_ne hb]; exact h)
end

/-! ### sorted -/
/-- texts in order -/
def srt (ns : List Str) : List Str := ns.mergeSort (dataLe false PyData.str)
theorem srt_perm (ns : List Str) : (srt ns).Perm ns := List.mergeSort_perm ns _
theorem srt_len (ns : List Str) : (srt ns).length = ns.length := (srt_perm ns).length_eq
/-- crews in order -/
def srtT (ts : List (List Str)) : List (List Str) := ts.mergeSort (dataLe false sD)
theorem srtT_perm (ts : List (List Str)) : (srtT ts).Perm ts := List.mergeSort_perm ts _
section
variable {K : Frag} {H : Hp} {Q : VK}
theorem srt_any {a : Addr} {ns : List Str} (h : SqL K H a (ns.map V.str) ∨ SqT K H a (ns.map V.str)) (q : ∀ p, H p = none → Q (.ref p) (upd H p (.lst ((srt ns).map V.str)))) : rSrt K [.ref a] H Q := by
  refine ⟨a, ns.map fun s => (V.str s, PyData.str s), rfl, by rw [List.map_map]; exact h, fun b hb => ?_, fun d hd d' hd' => ?_, .inr fun d hd => ?_, fun b hb => ?_, fun p hp => ?_⟩
  · obtain ⟨s, _, rfl⟩ := List.mem_map.mp hb
    exact .str s
  · rw [List.map_map] at hd hd'
    obtain ⟨s, _, rfl⟩ := List.mem_map.mp hd
    obtain ⟨s', _, rfl⟩ := List.mem_map.mp hd'
    simp [alike]
  · rw [List.map_map] at hd
    obtain ⟨s, _, rfl⟩ := List.mem_map.mp hd
    exact ⟨fun z => (nomatch z), fun _ z => (nomatch z)⟩
  · obtain ⟨s, _, rfl⟩ := List.mem_map.mp hb
    simp [PyData.depth]
  · have e : ordD (ns.map fun s => (V.str s, PyData.str s)) = (srt ns).map fun s => (V.str s, PyData.str s) :=
      (sort_maps (fun s : Str => (V.str s, PyData.str s)) (r := dataLe false PyData.str) (s := dataLe false fun b : V × PD => b.2) fun _ _ _ _ => rfl).symm
    rw [e, List.map_map]
    exact q p hp
theorem srt_strs {a : Addr} {ns : List Str} (h : SqL K H a (ns.map V.str)) (q : ∀ p, H p = none → Q (.ref p) (upd H p (.lst ((srt ns).map V.str)))) : rSrt K [.ref a] H Q := srt_any (.inl h) q
theorem alike_strs : ∀ xs ys : List Str, alikeAll (xs.map PyData.str) (ys.map PyData.str) = true
  | [], _ => by simp [alikeAll]
  | _ :: _, [] => by simp [alikeAll]
  | x :: xs, y :: ys => by
    show alikeAll (PyData.str x :: xs.map PyData.str) (PyData.str y :: ys.map PyData.str) = true
    rw [alikeAll, alike_strs xs ys]
    simp [alike]
theorem depth_strs : ∀ xs : List Str, PyData.depthAll (xs.map PyData.str) = 0
  | [] => by simp [PyData.depthAll]
  | x :: xs => by
    show PyData.depthAll (PyData.str x :: xs.map PyData.str) = 0
    rw [PyData.depthAll, depth_strs xs]
    simp [PyData.depth]
theorem depth_sD (ns : List Str) : (sD ns).depth = 1 := by
  unfold sD
  rw [PyData.depth, depth_strs]
theorem srt_teams {a : Addr} {xs : List V} {ts : List (List Str)} (h : SqL K H a xs) (hp : Paired (S1 K H) xs ts) (h0 : ∀ t ∈ ts, t ≠ []) (q : ∀ p ys, H p = none → Paired (S1 K H) ys (srtT ts) → Q (.ref p) (upd H p (.lst ys))) : rSrt K [.ref a] H Q := by
  obtain ⟨zs, rfl, rfl, hz⟩ := prd_fst hp
  have e1 : (zs.map fun z => (z.1, sD z.2)).map (·.1) = zs.map (·.1) := by rw [List.map_map]; rfl
  refine ⟨a, zs.map fun z => (z.1, sD z.2), rfl, by rw [e1]; exact .inl h, fun b hb => ?_, fun d hd d' hd' => ?_, .inl fun d hd => ?_, fun b hb => ?_, fun p hp => ?_⟩
  · obtain ⟨s, hs, rfl⟩ := List.mem_map.mp hb
    exact (hz s hs).dp
  · rw [List.map_map] at hd hd'
    obtain ⟨s, _, rfl⟩ := List.mem_map.mp hd
    obtain ⟨s', _, rfl⟩ := List.mem_map.mp hd'
    show alike (sD s.2) (sD s'.2) = true
    unfold sD
    rw [alike]
    exact alike_strs _ _
  · rw [List.map_map] at hd
    obtain ⟨s, hs, rfl⟩ := List.mem_map.mp hd
    have n := h0 s.2 (List.mem_map.mpr ⟨s, hs, rfl⟩)
    show ∃ x r, sD s.2 = .tuple (x :: r)
    match e : s.2 with
    | [] => exact absurd e n
    | x :: r => exact ⟨PyData.str x, r.map PyData.str, rfl⟩
  · obtain ⟨s, _, rfl⟩ := List.mem_map.mp hb
    show (sD s.2).depth ≤ 50
    rw [depth_sD]
    decide
  · have e : ordD (zs.map fun z => (z.1, sD z.2)) = (zs.mergeSort (dataLe false fun z : V × List Str => sD z.2)).map fun z => (z.1, sD z.2) :=
      (sort_maps (fun z : V × List Str => (z.1, sD z.2)) (r := dataLe false fun z : V × List Str => sD z.2) (s := dataLe false fun b : V × PD => b.2) fun _ _ _ _ => rfl).symm
    have e2 : (zs.mergeSort (dataLe false fun z : V × List Str => sD z.2)).map (·.2) = srtT (zs.map (·.2)) :=
      sort_maps (fun z : V × List Str => z.2) (r := dataLe false fun z : V × List Str => sD z.2) (s := dataLe false sD) fun _ _ _ _ => rfl
    rw [e, List.map_map]
    refine q p ((zs.mergeSort (dataLe false fun z : V × List Str => sD z.2)).map (·.1)) hp ?_
    rw [← e2]
    exact prd_of fun z m => hz z (List.mem_mergeSort.mp m)
end
/-! ### who is in a set -/
def isIn (x : Str) (ns : List Str) : Bool := ns.any (· == x)
theorem inV_strs (x : Str) (ns : List Str) : inV (.str x) (ns.map V.str) = isIn x ns := by
  unfold inV isIn
  rw [List.any_map]
  rfl
theorem flat_strs (ns : List Str) : (ns.map V.str).all flatV = true := by
  rw [List.all_map]
  simp [flatV]
end Cb

/-! Comprehensions that change nothing; data compared; what a repr comes to. -/
namespace Cb
open PySem PySem.Spec PyProof.Rows L2 PySem.W
theorem take_snoc {α : Type} {xs : List α} {i : Nat} {x : α} (h : xs[i]? = some x) : xs.take (i + 1) = xs.take i ++ [x] := by
  rw [List.take_add_one, h]
  rfl
theorem big (h : n ≤ 100000) : n < sizeLine := Nat.lt_of_le_of_lt h (by decide)
/-! ### what stands whatever lists and dicts do -/
def Fx (H H' : Hp) : Prop := ∀ b o, H b = some o → (∃ xs, o = .lst xs) ∨ (∃ k, o = .dK k) ∨ H' b = some o
section
variable {K : Frag} {H H' H0 : Hp}
theorem Fx.refl : Fx H H := fun _ _ h => .inr (.inr h)
theorem Fx.of (e : Same H H') : Fx H H' := fun b o h => .inr (.inr (e b o h))
theorem Fx.ch {r : Addr} (e : Ch r H H') : Fx H H' := fun b o h => by
  rcases e b o h with z | ⟨_, z, _⟩
  · exact .inr (.inr z)
  · exact .inr (.inl z)
theorem Fx.trans (h1 : Fx H0 H) (h2 : Fx H H') : Fx H0 H' := fun b o h => by
  rcases h1 b o h with z | z | z
  · exact .inl z
  · exact .inr (.inl z)
  · exact h2 b o z
theorem Fx.mut {l : Addr} {xs : List V} {o : HO} (e : H l = some (.lst xs)) : Fx H (upd H l o) := fun b u h => by
  by_cases hb : b = l
  · subst hb
    rw [e] at h
    cases h
    exact .inl ⟨_, rfl⟩
  · exact .inr (.inr (by rw [upd_ne hb]; exact h))
theorem Fx.sqT (h : Fx H H') {a : Addr} {xs : List V} (e : SqT K H a xs) : SqT K H' a xs := by
  rcases e with (e | ⟨o, e⟩) | e
  · rcases h _ _ e with ⟨_, z⟩ | ⟨_, z⟩ | z
    · cases z
    · cases z
    · exact .inl (.inl z)
  · rcases h _ _ e with ⟨_, z⟩ | ⟨_, z⟩ | z
    · cases z
    · cases z
    · exact .inl (.inr ⟨o, z⟩)
  · exact .inr e
theorem Fx.s1 (h : Fx H H') {v : V} {ns : List Str} (e : S1 K H v ns) : S1 K H' v ns := by
  obtain ⟨a, rfl, e⟩ := e
  exact ⟨a, rfl, h.sqT e⟩
theorem Fx.s1s (h : Fx H H') {xs : List V} {ts : List (List Str)} (e : Paired (S1 K H) xs ts) : Paired (S1 K H') xs ts := prd_mono (fun _ _ z => h.s1 z) e
theorem Fx.s2 (h : Fx H H') {v : V} {ts : List (List Str)} (e : S2 K H v ts) : S2 K H' v ts := by
  obtain ⟨a, xs, rfl, e, t⟩ := e
  exact ⟨a, xs, rfl, h.sqT e, h.s1s t⟩
end
section
variable {K : Frag} {xs : List V} {tl : TE} {j : Nat} {vs : List Nat} {σ : Stt} {H : Hp} {Q : VK} {tt : TT} {te : TE}
theorem turn_filter {D : Addr} (f : V → Bool) (g : V → V) (hD : H D = none) (hn : xs.length ≤ 100000)
    (ht : ∀ x ∈ xs, ∀ H1, Same H H1 → ∀ R : Bool → Hp → Prop, R (f x) H1 → tt ((wipe σ vs).set j (some x)) H1 R)
    (he : ∀ x ∈ xs, f x = true → ∀ H1, Same H H1 → ∀ R : VK, (∀ H2, Same H1 H2 → R (g x) H2) → te ((wipe σ vs).set j (some x)) H1 R)
    {i : Nat} {x : V} {H' : Hp} (hi : xs[i]? = some x) (p : Same H H' ∧ H' D = some (.lst (((xs.take i).filter f).map g))) :
    tt ((wipe σ vs).set j (some x)) H' fun b H3 => if b = true then te ((wipe σ vs).set j (some x)) H3 fun y H4 => ∃ acc, H4 D = some (.lst acc) ∧ acc.length < sizeLine ∧
      (Same H (upd H4 D (.lst (acc ++ [y]))) ∧ (upd H4 D (.lst (acc ++ [y]))) D = some (.lst (((xs.take (i + 1)).filter f).map g))) else Same H H3 ∧ H3 D = some (.lst (((xs.take (i + 1)).filter f).map g)) := by
  have hx : x ∈ xs := List.mem_of_getElem? hi
  refine ht x hx H' p.1 _ ?_
  rw [take_snoc hi, List.filter_append, List.map_append]
  by_cases hf : f x = true
  · rw [if_pos hf]
    refine he x hx hf H' p.1 _ fun H2 e2 => ⟨_, e2 _ _ p.2, ?_, same_mut (p.1.trans e2) hD, ?_⟩
    · rw [List.length_map]
      exact big (Nat.le_trans (List.length_filter_le _ _) (by rw [List.length_take]; omega))
    · rw [upd_same, List.filter_cons_of_pos hf]
      rfl
  · rw [if_neg hf]
    refine ⟨p.1, ?_⟩
    rw [p.2, List.filter_cons_of_neg hf]
    simp
/-- [e for x in t if ..], t a tuple, nothing changed -/
theorem lcT_filter (f : V → Bool) (g : V → V) (hl : ∀ R : VK, (∀ a H1, Same H H1 → SqT K H1 a xs → R (.ref a) H1) → tl σ H R) (hn : xs.length ≤ 100000) (hj : ∀ x, wipe ((wipe σ vs).set j (some x)) vs = wipe σ vs)
    (ht : ∀ x ∈ xs, ∀ H1, Same H H1 → ∀ R : Bool → Hp → Prop, R (f x) H1 → tt ((wipe σ vs).set j (some x)) H1 R)
    (he : ∀ x ∈ xs, f x = true → ∀ H1, Same H H1 → ∀ R : VK, (∀ H2, Same H1 H2 → R (g x) H2) → te ((wipe σ vs).set j (some x)) H1 R)
    (q : ∀ D H', H D = none → Same H H' → H' D = some (.lst ((xs.filter f).map g)) → Q (.ref D) H') : tLc (iTup K tl) (gName j) tt te vs σ H Q := by
  refine hl _ fun a H1 e1 hs => ⟨a, rfl, ⟨xs, hs⟩, fun D hD => ?_⟩
  refine lc_tup (K := K) (a := a) (xs := xs) (fun i H' => Same H1 H' ∧ H' D = some (.lst (((xs.take i).filter f).map g))) ⟨same_upd hD, upd_same⟩ (fun i H' _ p => sameT p.1 hs)
    (fun i x H' hi p => ⟨hj x, turn_filter f g hD hn (fun x hx H2 e2 => ht x hx H2 (e1.trans e2)) (fun x hx hf H2 e2 => he x hx hf H2 (e1.trans e2)) hi p⟩) fun H' p => ?_
  refine q D H' (e1.free hD) (e1.trans p.1) ?_
  rw [p.2, List.take_length]
theorem lcL_filter (f : V → Bool) (g : V → V) (hl : ∀ R : VK, (∀ a H1, Same H H1 → SqL K H1 a xs → R (.ref a) H1) → tl σ H R) (hn : xs.length ≤ 100000) (hj : ∀ x, wipe ((wipe σ vs).set j (some x)) vs = wipe σ vs)
    (ht : ∀ x ∈ xs, ∀ H1, Same H H1 → ∀ R : Bool → Hp → Prop, R (f x) H1 → tt ((wipe σ vs).set j (some x)) H1 R)
    (he : ∀ x ∈ xs, f x = true → ∀ H1, Same H H1 → ∀ R : VK, (∀ H2, Same H1 H2 → R (g x) H2) → te ((wipe σ vs).set j (some x)) H1 R)
    (q : ∀ D H', H D = none → Same H H' → H' D = some (.lst ((xs.filter f).map g)) → Q (.ref D) H') : tLc (iList K tl) (gName j) tt te vs σ H Q := by
  refine hl _ fun a H1 e1 hs => ⟨a, rfl, ⟨xs, hs⟩, fun D hD => ?_⟩
  refine lc_list (K := K) (a := a) (xs := xs) (fun i H' => Same H1 H' ∧ H' D = some (.lst (((xs.take i).filter f).map g))) ⟨same_upd hD, upd_same⟩ (fun i H' _ p => p.1.seq hs)
    (fun i x H' hi p => ⟨hj x, turn_filter f g hD hn (fun x hx H2 e2 => ht x hx H2 (e1.trans e2)) (fun x hx hf H2 e2 => he x hx hf H2 (e1.trans e2)) hi p⟩) fun H' p => ?_
  refine q D H' (e1.free hD) (e1.trans p.1) ?_
  rw [p.2, List.take_length]
/-- every item gives one element, which stands for b -/
theorem turn_rel {β : Type} {F : Hp → V → β → Prop} (mono : ∀ H1 H2 v b, Fx H1 H2 → F H1 v b → F H2 v b) {bs : List β} {D : Addr} (hD : H D = none) (hn : xs.length ≤ 100000) (hlen : xs.length = bs.length)
    (he : ∀ (i : Nat) (x : V) (b : β), xs[i]? = some x → bs[i]? = some b → ∀ H1, Same H H1 → ∀ R : VK, (∀ v H2, Same H1 H2 → F H2 v b → R v H2) → te ((wipe σ vs).set j (some x)) H1 R)
    {i : Nat} {x : V} {H' : Hp} (hi : xs[i]? = some x) (p : Same H H' ∧ ∃ us, H' D = some (.lst us) ∧ Paired (F H') us (bs.take i)) :
    te ((wipe σ vs).set j (some x)) H' fun y H4 => ∃ acc, H4 D = some (.lst acc) ∧ acc.length < sizeLine ∧ (Same H (upd H4 D (.lst (acc ++ [y]))) ∧ ∃ us, (upd H4 D (.lst (acc ++ [y]))) D = some (.lst us) ∧ Paired (F (upd H4 D (.lst (acc ++ [y])))) us (bs.take (i + 1))) := by
  have hlt := (List.getElem?_eq_some_iff.mp hi).1
  obtain ⟨b, hb⟩ : ∃ b, bs[i]? = some b := ⟨bs[i]'(by omega), List.getElem?_eq_getElem (by omega)⟩
  obtain ⟨e1, us, hu, hp⟩ := p
  have hl := prd_len hp
  rw [List.length_take] at hl
  refine he i x b hi hb H' e1 _ fun v H2 e2 hv => ⟨us, e2 _ _ hu, big (by omega), same_mut (e1.trans e2) hD, us ++ [v], upd_same, ?_⟩
  have f2 : Fx H2 (upd H2 D (.lst (us ++ [v]))) := Fx.mut (e2 _ _ hu)
  rw [take_snoc hb]
  exact prd_app (prd_mono (fun _ _ z => mono _ _ _ _ ((Fx.of e2).trans f2) z) hp) (.cons (mono _ _ _ _ f2 hv) .nil)
theorem lcL_rel {β : Type} {F : Hp → V → β → Prop} (mono : ∀ H1 H2 v b, Fx H1 H2 → F H1 v b → F H2 v b) (bs : List β) (hl : ∀ R : VK, (∀ a H1, Same H H1 → SqL K H1 a xs → R (.ref a) H1) → tl σ H R) (hn : xs.length ≤ 100000) (hlen : xs.length = bs.length)
    (hj : ∀ x, wipe ((wipe σ vs).set j (some x)) vs = wipe σ vs)
    (he : ∀ (i : Nat) (x : V) (b : β), xs[i]? = some x → bs[i]? = some b → ∀ H1, Same H H1 → ∀ R : VK, (∀ v H2, Same H1 H2 → F H2 v b → R v H2) → te ((wipe σ vs).set j (some x)) H1 R)
    (q : ∀ D us H', H D = none → Same H H' → H' D = some (.lst us) → Paired (F H') us bs → Q (.ref D) H') : tLc (iList K tl) (gName j) tYes te vs σ H Q := by
  refine hl _ fun a H1 e1 hs => ⟨a, rfl, ⟨xs, hs⟩, fun D hD => ?_⟩
  refine lc_list (K := K) (a := a) (xs := xs) (fun i H' => Same H1 H' ∧ ∃ us, H' D = some (.lst us) ∧ Paired (F H') us (bs.take i)) ⟨same_upd hD, [], upd_same, .nil⟩ (fun i H' _ p => p.1.seq hs)
    (fun i x H' hi p => ⟨hj x, turn_rel mono hD hn hlen (fun i x b h1 h2 H2 e2 => he i x b h1 h2 H2 (e1.trans e2)) hi p⟩) fun H' p => ?_
  obtain ⟨e2, us, hu, hp⟩ := p
  rw [hlen, List.take_length] at hp
  exact q D us H' (e1.free hD) (e1.trans e2) hu hp
theorem lcT_rel {β : Type} {F : Hp → V → β → Prop} (mono : ∀ H1 H2 v b, Fx H1 H2 → F H1 v b → F H2 v b) (bs : List β) (hl : ∀ R : VK, (∀ a H1, Same H H1 → SqT K H1 a xs → R (.ref a) H1) → tl σ H R) (hn : xs.length ≤ 100000) (hlen : xs.length = bs.length)
    (hj : ∀ x, wipe ((wipe σ vs).set j (some x)) vs = wipe σ vs)
    (he : ∀ (i : Nat) (x : V) (b : β), xs[i]? = some x → bs[i]? = some b → ∀ H1, Same H H1 → ∀ R : VK, (∀ v H2, Same H1 H2 → F H2 v b → R v H2) → te ((wipe σ vs).set j (some x)) H1 R)
    (q : ∀ D us H', H D = none → Same H H' → H' D = some (.lst us) → Paired (F H') us bs → Q (.ref D) H') : tLc (iTup K tl) (gName j) tYes te vs σ H Q := by
  refine hl _ fun a H1 e1 hs => ⟨a, rfl, ⟨xs, hs⟩, fun D hD => ?_⟩
  refine lc_tup (K := K) (a := a) (xs := xs) (fun i H' => Same H1 H' ∧ ∃ us, H' D = some (.lst us) ∧ Paired (F H') us (bs.take i)) ⟨same_upd hD, [], upd_same, .nil⟩ (fun i H' _ p => sameT p.1 hs)
    (fun i x H' hi p => ⟨hj x, turn_rel mono hD hn hlen (fun i x b h1 h2 H2 e2 => he i x b h1 h2 H2 (e1.trans e2)) hi p⟩) fun H' p => ?_
  obtain ⟨e2, us, hu, hp⟩ := p
  rw [hlen, List.take_length] at hp
  exact q D us H' (e1.free hD) (e1.trans e2) hu hp
end

/-! ### data compared -/
theorem eqv_strs : ∀ xs ys : List Str, PyData.eqvAll (xs.map .str) (ys.map .str) = decide (xs = ys)
  | [], [] => by simp [PyData.eqvAll]
  | [], _ :: _ => by simp [PyData.eqvAll]
  | _ :: _, [] => by simp [PyData.eqvAll]
  | x :: xs, y :: ys => by
    show PyData.eqvAll (.str x :: xs.map .str) (.str y :: ys.map .str) = _
    rw [PyData.eqvAll, eqv_strs xs ys, PyData.eqv]
    by_cases h : x = y <;> by_cases h2 : xs = ys <;> simp [h, h2]
theorem eqv_sD (xs ys : List Str) : PyData.eqv (sD xs) (sD ys) = decide (xs = ys) := by
  unfold sD
  rw [PyData.eqv, eqv_strs]
/-- whether a set is one of these -/
def isOne (x : List Str) (ts : List (List Str)) : Bool := ts.any fun t => decide (t = x)
theorem any_sD (x : List Str) (ts : List (List Str)) : ((ts.map sD).any fun z => PyData.eqv z (sD x)) = isOne x ts := by
  unfold isOne
  rw [List.any_map]
  congr 1
  funext t
  exact eqv_sD t x
theorem eqv_strs_nil (xs : List Str) : PyData.eqv (.list (xs.map .str)) (.list []) = xs.isEmpty := by
  cases xs <;> simp [PyData.eqv, PyData.eqvAll]
theorem eqv_list_nil (xs : List PD) : PyData.eqv (.list xs) (.list []) = xs.isEmpty := by
  cases xs <;> simp [PyData.eqv, PyData.eqvAll]

/-! ### names that may stand in data -/
def okS (s : Str) : Prop := PyData.strOk s = true ∧ (reprText s).length ≤ 20
theorem lay_strs : ∀ ns : List Str, (∀ n ∈ ns, okS n) → PyData.canLayAll0 (ns.map .str) = true
  | [], _ => by simp [PyData.canLayAll0]
  | n :: ns, h => by
    show PyData.canLayAll0 (.str n :: ns.map .str) = true
    rw [PyData.canLayAll0, lay_strs ns fun m hm => h m (List.mem_cons_of_mem _ hm), PyData.canLay0, (h n List.mem_cons_self).1]
    rfl
theorem shaped_sD {ns : List Str} (h : ∀ n ∈ ns, okS n) : SeqAt.shaped (sD ns) = true := by
  unfold SeqAt.shaped
  rw [depth_sD]
  unfold sD
  rw [PyData.canLay0, lay_strs ns h]
  rfl
theorem shaped_strs {ns : List Str} (h : ∀ n ∈ ns, okS n) : SeqAt.shaped (.list (ns.map .str)) = true := by
  unfold SeqAt.shaped
  rw [PyData.canLay0, lay_strs ns h, PyData.depth, depth_strs]
  rfl
theorem lay_teams : ∀ ts : List (List Str), (∀ t ∈ ts, ∀ n ∈ t, okS n) → PyData.canLayAll0 (ts.map sD) = true
  | [], _ => by simp [PyData.canLayAll0]
  | t :: ts, h => by
    show PyData.canLayAll0 (sD t :: ts.map sD) = true
    rw [PyData.canLayAll0, lay_teams ts fun m hm => h m (List.mem_cons_of_mem _ hm), SeqAt.canLay_of_shaped (shaped_sD (h t List.mem_cons_self))]
    rfl
theorem depth_teams : ∀ ts : List (List Str), PyData.depthAll (ts.map sD) ≤ 1
  | [] => by simp [PyData.depthAll]
  | t :: ts => by
    show PyData.depthAll (sD t :: ts.map sD) ≤ 1
    rw [PyData.depthAll, depth_sD]
    exact Nat.max_le.mpr ⟨Nat.le_refl _, depth_teams ts⟩
theorem shaped_teams {ts : List (List Str)} (h : ∀ t ∈ ts, ∀ n ∈ t, okS n) : SeqAt.shaped (.list (ts.map sD)) = true := by
  unfold SeqAt.shaped
  rw [PyData.canLay0, lay_teams ts h, PyData.depth]
  have := depth_teams ts
  simp
  omega
theorem shaped_tD {ts : List (List Str)} (h : ∀ t ∈ ts, ∀ n ∈ t, okS n) : SeqAt.shaped (tD ts) = true := by
  unfold SeqAt.shaped tD
  rw [PyData.canLay0, lay_teams ts h, PyData.depth]
  have := depth_teams ts
  simp
  omega
/-! ### repr of lists of crews -/
theorem show_sD (ns : List Str) : PyData.showable (sD ns) = true := by
  unfold sD
  rw [PyData.showable]
  exact PyData.showableAll_strs ns
theorem nodict_sD : ∀ ns : List Str, PyData.hasDictAll (ns.map .str) = false
  | [] => by simp [PyData.hasDictAll]
  | n :: ns => by
    show PyData.hasDictAll (.str n :: ns.map .str) = false
    rw [PyData.hasDictAll, nodict_sD ns]
    simp [PyData.hasDict]
theorem nodict_tD : ∀ ts : List (List Str), PyData.hasDictAll (ts.map sD) = false
  | [] => by simp [PyData.hasDictAll]
  | t :: ts => by
    show PyData.hasDictAll (sD t :: ts.map sD) = false
    rw [PyData.hasDictAll, nodict_tD ts]
    unfold sD
    rw [PyData.hasDict, nodict_sD]
    rfl
theorem piled_le (m : Nat) : ∀ {ts : List Str}, (∀ t ∈ ts, t.length ≤ m) → piled ts ≤ ts.length * (m + 2)
  | [], _ => Nat.zero_le _
  | t :: ts, h => by
    have := piled_le m (ts := ts) fun x hx => h x (List.mem_cons_of_mem _ hx)
    have := h t List.mem_cons_self
    rw [piled_cons, List.length_cons, Nat.succ_mul]
    omega
theorem long_sD {ns : List Str} (h : ∀ n ∈ ns, okS n) (hl : ns.length ≤ 8) : (sD ns).shown.length ≤ 178 := by
  unfold sD
  rw [PyData.shown, PyData.shownAll_strs]
  have h1 := fmt_text (ns.map reprText)
  have h2 := piled_le 20 (ts := ns.map reprText) fun t ht => by
    obtain ⟨n, hn, rfl⟩ := List.mem_map.mp ht
    exact (h n hn).2
  rw [List.length_map] at h2
  have : ns.length * 22 ≤ 8 * 22 := Nat.mul_le_mul_right _ hl
  omega
theorem shown_all : ∀ ts : List PD, PyData.shownAll ts = ts.map PyData.shown
  | [] => by simp [PyData.shownAll]
  | t :: ts => by rw [PyData.shownAll, shown_all ts]; rfl
theorem long_tD {ts : List (List Str)} (h : ∀ t ∈ ts, t.length ≤ 8 ∧ ∀ n ∈ t, okS n) (hl : ts.length ≤ 1000) : (tD ts).shown.length ≤ sizeLine := by
  unfold tD
  rw [PyData.shown, shown_all, List.map_map]
  have h1 := fmt_text (ts.map (PyData.shown ∘ sD))
  have h2 := piled_le 178 (ts := ts.map (PyData.shown ∘ sD)) fun t ht => by
    obtain ⟨n, hn, rfl⟩ := List.mem_map.mp ht
    exact long_sD (h n hn).2 (h n hn).1
  rw [List.length_map] at h2
  have h3 : ts.length * 180 ≤ 1000 * 180 := Nat.mul_le_mul_right _ hl
  have h4 : 1000 * 180 + 2 ≤ sizeLine := by decide
  omega
theorem repr_teams {K : Frag} {H : Hp} {Q : VK} {a : Addr} {ts : List (List Str)} (h : S2 K H (.ref a) ts) (ho : ∀ t ∈ ts, t.length ≤ 8 ∧ ∀ n ∈ t, okS n) (hl : ts.length ≤ 1000) (q : Q (.str (tD ts).shown) H) : rRepr K [.ref a] H Q := by
  refine ⟨a, tD ts, rfl, h.dp, ?_, ?_, ?_, long_tD ho hl, q⟩
  · unfold tD
    rw [PyData.showable]
    exact PySem.Spec.showableAll_of fun x hx => by
      obtain ⟨t, _, rfl⟩ := List.mem_map.mp hx
      exact show_sD t
  · unfold tD
    rw [PyData.hasDict, nodict_tD]
  · unfold tD
    rw [PyData.depth]
    have := depth_teams ts
    omega
end Cb

/-! The layer's rules with the written part named, for use within comprehensions. -/
namespace Cb
open PySem PySem.Spec PyProof.Rows L2 PySem.W
section
variable (K : Frag) {X : Cx}
theorem o_nin (e : X.K = K := by rfl) : OpR X (compareOp .NotIn) (rIn K true) := by subst e; exact op_notIn_seq
theorem o_in (e : X.K = K := by rfl) : OpR X (compareOp .In) (rIn K false) := by subst e; exact op_in_seq
theorem o_inT (hu : X.A.units + 65 < cLine) (e : X.K = K := by rfl) : OpR X (compareOp .In) (rInT K) := by subst e; exact op_inT hu
theorem o_eqD (hu : X.A.units + 64 < cLine) (e : X.K = K := by rfl) : OpR X (compareOp .Eq) (rEqD K) := by subst e; exact op_eqD hu
theorem o_neD (hu : X.A.units + 64 < cLine) (e : X.K = K := by rfl) : OpR X (compareOp .NotEq) (rNeD K) := by subst e; exact op_neD hu
theorem o_catA (e : X.K = K := by rfl) : OpR X (binaryOp .Add) (rCatA K) := by subst e; exact op_catA
theorem i_list (e : X.K = K := by rfl) : IxR X (rIxL K) := by subst e; exact ix_list
theorem i_tup (e : X.K = K := by rfl) : IxR X (rIxT K) := by subst e; exact ix_tup
theorem s_list (e : X.K = K := by rfl) : SlR X (rSlL K) := by subst e; exact sl_list
theorem s_tupA (e : X.K = K := by rfl) : SlR X (rSlA K) := by subst e; exact sl_tupA
def rTupleOf (K : Frag) : List V → Hp → VK → Prop := fun xs H Q => ∃ p ys, xs = [.ref p] ∧ ((SqL K H p ys ∧ ∀ l, H l = none → Q (.ref l) (upd H l (.tup ys))) ∨ (SqT K H p ys ∧ Q (.ref p) H))
theorem c_tuple (e : X.K = K := by rfl) : CallR X (.type "tuple") (rTupleOf K) := by subst e; exact call_tuple_of
def rListOf (K : Frag) : List V → Hp → VK → Prop := fun xs H Q => ∃ p ys, xs = [.ref p] ∧ (SqL K H p ys ∨ SqT K H p ys) ∧ ∀ l, H l = none → Q (.ref l) (upd H l (.lst ys))
theorem c_list (e : X.K = K := by rfl) : CallR X (.type "list") (rListOf K) := by subst e; exact call_list_of
def rLenOf (K : Frag) : List V → Hp → VK → Prop := fun xs H Q => ∃ p ys, xs = [.ref p] ∧ (SqL K H p ys ∨ SqT K H p ys) ∧ Q (.int ys.length) H
theorem c_len (e : X.K = K := by rfl) : CallR X (.builtin "len") (rLenOf K) := by subst e; exact call_len_seq
theorem c_srt (hu : X.A.units + 64 < cLine) (e : X.K = K := by rfl) : CallR X (.builtin "sorted") (rSrt K) := by subst e; exact cr_srt hu
theorem c_any (hc : X.calm = true := by rfl) (e : X.K = K := by rfl) : CallR X (.builtin "any") (rAny K) := by subst e; exact cr_any hc
theorem c_all (hc : X.calm = true := by rfl) (e : X.K = K := by rfl) : CallR X (.builtin "all") (rAll K) := by subst e; exact cr_all hc
theorem c_repr (hu : X.A.units + 64 < cLine) (hg : Gu X.A) (e : X.K = K := by rfl) : CallR X (.builtin "repr") (rRepr K) := by subst e; exact cr_repr hu hg
theorem p_list {tg l : Expr} {tl : TE} (h : PE X l tl) (e : X.K = K := by rfl) : PI X tg l (iList K tl) := by subst e; exact pi_list h
theorem p_tup {tg l : Expr} {tl : TE} (h : PE X l tl) (e : X.K = K := by rfl) : PI X tg l (iTup K tl) := by subst e; exact pi_tup h
theorem p_app {o a : Expr} {apos cpos : Pos} {to te : TE} (ho : PE X o to) (ha : PE X a te)
    (h : PE X (.Call (.Attribute o "append" apos) [a] [] cpos) (tBM X.K "list" rAppend to (tCons te tNil))) (e : X.K = K := by rfl) :
    PE X (.Call (.Attribute o "append" apos) [a] [] cpos) (tBM K "list" rAppend to (tCons te tNil)) := by subst e; exact h
end
end Cb
namespace Cb
open PySem PySem.Spec PyProof.Rows L2 PySem.W
section
variable {K : Frag} {xs : List V} {tl : TE} {j : Nat} {vs : List Nat} {σ : Stt} {H : Hp} {tb : TB} {N : Hp → Prop}
/-- a later clause over a tuple -/
theorem cl_tup (Pv : Hp → Nat → Hp → Prop) (hl : ∀ R : VK, (∀ a H1, Same H H1 → SqT K H1 a xs → R (.ref a) H1) → tl σ H R) (hj : ∀ x, wipe ((wipe σ vs).set j (some x)) vs = wipe σ vs) (h0 : ∀ H1, Same H H1 → Pv H1 0 H1)
    (hst : ∀ i H1 H2, Pv H1 i H2 → Fx H1 H2) (hs : ∀ i x H0 H1, Same H H0 → xs[i]? = some x → Pv H0 i H1 → tb ((wipe σ vs).set j (some x)) H1 (Pv H0 (i + 1))) (hd : ∀ H0 H1, Same H H0 → Pv H0 xs.length H1 → N H1) : tCl (iTup K tl) (gName j) tYes tb vs σ H N := by
  refine hl _ fun a H1 e1 ht => ⟨a, rfl, ⟨xs, ht⟩, fun i m H' => m = xs.length - i ∧ i ≤ xs.length ∧ Pv H1 i H', ⟨xs.length, by simp, Nat.zero_le _, h0 H1 e1⟩, ?_⟩
  rintro i m H2 ⟨rfl, hi, p⟩
  have q := (hst i H1 H2 p).sqT ht
  by_cases hlt : i < xs.length
  · refine .inr ⟨⟨xs, xs[i], q, by simp [hlt]⟩, Pv H1 (i + 1), fun H' p' => ⟨xs.length - (i + 1), by omega, rfl, hlt, p'⟩, fun x H' y => ?_⟩
    obtain ⟨e, y⟩ := y
    subst e
    exact ⟨hj x, hs i x H1 _ e1 (y xs q) p⟩
  · obtain rfl : i = xs.length := by omega
    exact .inl ⟨⟨xs, q, Nat.le_refl _⟩, hd H1 H2 e1 p⟩
/-- the first clause over a tuple that stands -/
theorem lcN_tup {Q : VK} {a : Addr} {tbD : Addr → TB} (Pv : Addr → Nat → Hp → Prop) (hl : ∀ R : VK, R (.ref a) H → tl σ H R) (ht : SqT K H a xs) (hj : ∀ x, wipe ((wipe σ vs).set j (some x)) vs = wipe σ vs)
    (h0 : ∀ D, H D = none → Pv D 0 (upd H D (.lst []))) (hst : ∀ D i H2, Pv D i H2 → Fx H H2) (hs : ∀ D i x H1, xs[i]? = some x → Pv D i H1 → tbD D ((wipe σ vs).set j (some x)) H1 (Pv D (i + 1)))
    (hd : ∀ D H1, Pv D xs.length H1 → Q (.ref D) H1) : tLcN (iTup K tl) (gName j) tYes tbD vs σ H Q := by
  refine hl _ ⟨a, rfl, ⟨xs, ht⟩, fun D hD => ⟨fun i m H' => m = xs.length - i ∧ i ≤ xs.length ∧ Pv D i H', ⟨xs.length, by simp, Nat.zero_le _, h0 D hD⟩, ?_⟩⟩
  rintro i m H2 ⟨rfl, hi, p⟩
  have q := (hst D i H2 p).sqT ht
  by_cases hlt : i < xs.length
  · refine .inr ⟨⟨xs, xs[i], q, by simp [hlt]⟩, Pv D (i + 1), fun H' p' => ⟨xs.length - (i + 1), by omega, rfl, hlt, p'⟩, fun x H' y => ?_⟩
    obtain ⟨e, y⟩ := y
    subst e
    exact ⟨hj x, hs D i x _ (y xs q) p⟩
  · obtain rfl : i = xs.length := by omega
    exact .inl ⟨⟨xs, q, Nat.le_refl _⟩, hd D H2 p⟩
end
end Cb
namespace Cb
open PySem PySem.Spec PyProof.Rows L2 PySem.W
section
variable {K : Frag} {tl : TE} {j : Nat} {vs : List Nat} {σ : Stt} {H : Hp} {tt : TT} {g : TG} {tb : TS} {D : Ends} {Q : VK}
/-- for x in [s for s in t if ..], t a set of people -/
theorem for_names {ns : List Str} (p : Str → Bool) (hl : ∀ R : VK, (∀ a H1, Same H H1 → SqT K H1 a (ns.map V.str) → R (.ref a) H1) → tl σ H R) (hn : ns.length ≤ 1000) (hj : ∀ x, wipe ((wipe σ vs).set j (some x)) vs = wipe σ vs)
    (hv : ∀ x, ((wipe σ vs).set j (some x))[j]? = some (some x)) (ht : ∀ s ∈ ns, ∀ H1, Same H H1 → ∀ R : Bool → Hp → Prop, R (p s) H1 → tt ((wipe σ vs).set j (some (.str s))) H1 R)
    (lp : ∀ L H', H L = none → Same H H' → H' L = some (.lst ((ns.filter p).map V.str)) → ∃ Pv : Nat → Stt → Hp → Prop, Pv 0 σ H' ∧ (∀ i σ' H2, Pv i σ' H2 → H2 L = some (.lst ((ns.filter p).map V.str))) ∧
      (∀ i s σ' H2, (ns.filter p)[i]? = some s → Pv i σ' H2 → g (.str s) σ' H2 fun σ2 H3 => tb { D with nx := Pv (i + 1), ct := Pv (i + 1), bk := D.nx } σ2 H3) ∧ ∀ σ' H2, Pv (ns.filter p).length σ' H2 → D.nx σ' H2) :
    tFor (iList K (tLc (iTup K tl) (gName j) tt (tVar j) vs)) g tb D σ H := by
  unfold tFor iList
  refine lcT_filter (xs := ns.map V.str) (fun v => match v with | .str s => p s | _ => false) id hl (by rw [List.length_map]; omega) hj (fun v m H1 e1 R hR => ?_) (fun v m _ H1 e1 R hR => ⟨v, hv v, hR H1 (Same.refl H1)⟩) fun L H' nL e hL => ?_
  · obtain ⟨s, hs, rfl⟩ := List.mem_map.mp m
    exact ht s hs H1 e1 R hR
  · have e2 : ((ns.map V.str).filter (fun v => match v with | .str s => p s | _ => false)).map id = (ns.filter p).map V.str := by
      rw [List.map_id, List.filter_map]
      rfl
    rw [e2] at hL
    obtain ⟨Pv, h0, hst, hs, hd⟩ := lp L H' nL e hL
    refine ⟨L, rfl, ⟨_, sl_ hL⟩, for_list (xs := (ns.filter p).map V.str) Pv h0 (fun i σ' H2 _ z => sl_ (hst i σ' H2 z)) (fun i x σ' H2 hi z => ?_) fun σ' H2 z => ?_⟩
    · rw [List.getElem?_map] at hi
      obtain ⟨s, h1, rfl⟩ := Option.map_eq_some_iff.mp hi
      exact hs i s σ' H2 h1 z
    · rw [List.length_map] at z
      exact hd σ' H2 z
/-- t + u, sets of people -/
theorem cat_names {a b : Addr} {xs ys : List Str} (h1 : SqT K H a (xs.map V.str)) (h2 : SqT K H b (ys.map V.str)) (hn : xs.length + ys.length ≤ 100000) (q : ∀ z H', Same H H' → SqT K H' z ((xs ++ ys).map V.str) → Q (.ref z) H') : rCatA K (.ref a) (.ref b) H Q := by
  refine ⟨a, b, xs.map V.str, ys.map V.str, rfl, rfl, h1, h2, by rw [List.length_map, List.length_map]; exact Nat.le_of_lt (big hn), fun e => ?_, fun _ e => ?_, fun _ _ z nz => ?_⟩
  · have e' : xs = [] := List.map_eq_nil_iff.mp e
    subst e'
    exact q b H (Same.refl H) h2
  · have e' : ys = [] := List.map_eq_nil_iff.mp e
    subst e'
    refine q a H (Same.refl H) ?_
    rw [List.append_nil]
    exact h1
  · refine q z _ (same_upd nz) (st_ ?_)
    rw [upd_same, List.map_append]
end
end Cb
namespace Cb
open PySem PySem.Spec PyProof.Rows L2 PySem.W
/-- x = [], then the rest -/
theorem sq_lst {i : Nat} {rest : TS} {D : Ends} {σ : Stt} {H : Hp} (h : ∀ p, H p = none → rest D (σ.set i (some (.ref p))) (upd H p (.lst []))) : tSeq (tAsg (tLst tNil) (gName i)) rest D σ H := ⟨Nat.zero_le _, fun p hp => h p hp⟩
theorem sq_for {wi : TI} {g : TG} {tb u : TS} {D : Ends} {σ : Stt} {H : Hp} (h : tFor wi g tb { D with nx := u D } σ H) : tSeq (tFor wi g tb) u D σ H := h
theorem sq_while {tc : TT} {tb u : TS} {D : Ends} {σ : Stt} {H : Hp} (h : tWhile tc tb { D with nx := u D } σ H) : tSeq (tWhile tc tb) u D σ H := h
end Cb
namespace Cb
open PySem PySem.Spec PyProof.Rows L2 PySem.W
/-- sorted(xs, key=len), xs a list of sets of people -/
def tSrtLen (K : Frag) (ta : TE) : TE := fun σ H Q => ta σ H fun x H1 => ∃ (a : Addr) (bs : List (V × List Str)), x = .ref a ∧ SqL K H1 a (bs.map (·.1)) ∧ (∀ b ∈ bs, S1 K H1 b.1 b.2) ∧
  ∀ p, H1 p = none → Q (.ref p) (upd H1 p (.lst ((bs.mergeSort (dataLe false fun b : V × List Str => PyData.int b.2.length)).map (·.1))))
theorem pe_srtLen {X : Cx} {p q pos kpos : Pos} {e : Expr} {ta : TE} (hu : X.A.units + 64 < cLine) (ms : X.mg "sorted" = none) (ml : X.mg "len" = none) (gs : Gl X "sorted") (gl : Gl X "len") (ha : PE X e ta)
    (he : backTo pos (starEach [e] X.env) = (false, eval e X.env) :: backTo pos (starEach [] X.env) := by rfl) (hpl : (backTo pos (starEach [e] X.env)).any (·.1) = false := by rfl)
    (hall : (backToKw pos (keywordEach [⟨some "key", .Name "len" q, kpos⟩] X.env)).all (·.1.isSome) = true := by rfl) (hnone : (backToKw pos (keywordEach [⟨some "key", .Name "len" q, kpos⟩] X.env)).any (·.1.isNone) = false := by rfl)
    (hks : (backToKw pos (keywordEach [⟨some "key", .Name "len" q, kpos⟩] X.env)).filterMap (·.1) = [Str.ofString "key"] := by rfl)
    (hst : starEach [e] X.env = (false, eval e X.env) :: starEach [] X.env := by rfl) : PE X (.Call (.Name "sorted" p) [e] [⟨some "key", .Name "len" q, kpos⟩] pos) (tSrtLen X.K ta) := by
  refine ⟨fun pins s σ H Q I h => wpAny_Call_Name_kw (ld_blt I gs ms (u := .builtin "sorted") (by decide +kernel) ?_)⟩
  refine PyProof.Rows.callWith_kw (thn ((pa_cons ha pa_nil hst).run pos pins s σ H (fun vs H1 => ∃ x, vs = [x] ∧ ∃ (a : Addr) (bs : List (V × List Str)), x = .ref a ∧ SqL X.K H1 a (bs.map (·.1)) ∧ (∀ b ∈ bs, S1 X.K H1 b.1 b.2) ∧
    ∀ p, H1 p = none → Q (.ref p) (upd H1 p (.lst ((bs.mergeSort (dataLe false fun b : V × List Str => PyData.int b.2.length)).map (·.1))))) I ?_) fun us s1 hz => ?_) he hpl hall hnone
  · unfold tSrtLen at h
    exact (show ta σ H (fun x H1 => ∃ y, [x] = [y] ∧ _) from by
      have h2 : ta σ H (fun x H1 => ∃ (a : Addr) (bs : List (V × List Str)), x = .ref a ∧ SqL X.K H1 a (bs.map (·.1)) ∧ (∀ b ∈ bs, S1 X.K H1 b.1 b.2) ∧
        ∀ p, H1 p = none → Q (.ref p) (upd H1 p (.lst ((bs.mergeSort (dataLe false fun b : V × List Str => PyData.int b.2.length)).map (·.1))))) := h
      have e : (fun (x : V) (H1 : Hp) => ∃ y, [x] = [y] ∧ ∃ (a : Addr) (bs : List (V × List Str)), y = .ref a ∧ SqL X.K H1 a (bs.map (·.1)) ∧ (∀ b ∈ bs, S1 X.K H1 b.1 b.2) ∧
        ∀ p, H1 p = none → Q (.ref p) (upd H1 p (.lst ((bs.mergeSort (dataLe false fun b : V × List Str => PyData.int b.2.length)).map (·.1))))) =
          fun x H1 => ∃ (a : Addr) (bs : List (V × List Str)), x = .ref a ∧ SqL X.K H1 a (bs.map (·.1)) ∧ (∀ b ∈ bs, S1 X.K H1 b.1 b.2) ∧
        ∀ p, H1 p = none → Q (.ref p) (upd H1 p (.lst ((bs.mergeSort (dataLe false fun b : V × List Str => PyData.int b.2.length)).map (·.1)))) := by
        funext x H1
        apply propext
        constructor
        · rintro ⟨y, e, z⟩
          cases e
          exact z
        · exact fun z => ⟨x, rfl, z⟩
      rw [e]
      exact h2)
  · obtain ⟨vs, H1, I1, r1, x, rfl, a, bs, rfl, hs, hb, q1⟩ := hz
    rw [Vals.ref1 r1]
    show wpAny _ _ (evalAll [(do let v ← eval (.Name "len" q) X.env; standAt pos; pure v)]) _ _ s1
    refine wpAny_evalAll_cons (wpAny_bind (ld_blt I1 gl ml (u := .builtin "len") (by decide +kernel) (wpAny_bind (wpAny_standAt (wpAny_pure (wpAny_evalAll_nil ?_))))))
    rw [hks]
    obtain ⟨its, rv, hl, hz⟩ := I1.list hs
    have e0 := each_in (fun b : V × List Str => b.1) rv
    have hn := line63
    refine sorted_key_data (R := fun u b => RelV b.1 u) (b := false) (f := .builtin "len") (kw := [("key", .builtin "len")]) (fun b : V × List Str => PyData.int b.2.length) hl.isList e0 (fun d hd d' hd' => ?_) (.inr fun d hd => ?_) (by rw [List.length_map] at hz; exact hz) (fun b _ => ?_) (ksk_s1 _ _) (fun x => ksk_l1 _ _) (fun x => ksk_t4 "len" x) (fun v b hr hbm h tk keep => ?_) fun out c h' tk keep _ hat h1 h2 => ?_
    · obtain ⟨b, _, rfl⟩ := List.mem_map.mp hd
      obtain ⟨b', _, rfl⟩ := List.mem_map.mp hd'
      simp [alike]
    · obtain ⟨b, _, rfl⟩ := List.mem_map.mp hd
      exact ⟨fun z => (nomatch z), fun _ z => (nomatch z)⟩
    · simp [PyData.depth]
      omega
    · obtain ⟨t, e, ht⟩ := hb b hbm
      rw [e] at hr
      cases hr
      obtain ⟨ws, r', ⟨o, ho, hc, n, hd⟩, hz'⟩ := I1.tuple ht
      have hlen := r'.length
      rw [List.length_map] at hlen hz'
      exact len_tuple (items := ws.toArray) ⟨o, keep _ _ ho, hc, n, hd⟩ (by simp only [List.size_toArray]; omega) ⟨h, tk + 1 + 1, rfl, fun _ _ e => e, by rw [List.size_toArray, ← hlen]; exact .int _ _⟩
    · have ro := each_out (fun b : V × List Str => b.1) h2
      have hl2 : ((bs.mergeSort (dataLe false fun b : V × List Str => PyData.int b.2.length)).map (·.1)).length ≤ sizeLine := by
        rw [List.length_map, List.length_mergeSort, ← List.length_map (f := (·.1))]
        exact hz
      exact ⟨.ref _, upd H1 (s1.heap.objs.size + 1) (.lst ((bs.mergeSort (dataLe false fun b : V × List Str => PyData.int b.2.length)).map (·.1))), I1.laid (t' := tk) keep (Nat.le_succ _) ⟨hl2, out, c, ro, hat⟩, rfl, q1 _ (I1.hok.fresh (Nat.le_succ _))⟩
end Cb

/-! A def called by its one parameter's name; slices and sums of lists of crews. -/
namespace Cb
open PySem PySem.Spec PyProof.Rows L2 PySem.W
theorem sq_set {i : Nat} {te : TE} {rest : TS} {D : Ends} {σ : Stt} {H : Hp} (h : te σ H fun x H1 => rest D (σ.set i (some x)) H1) : tSeq (tAsg te (gName i)) rest D σ H := h
section
variable {X : Cx} {k : Nat} {f : Addr} {fd : FuncData} {CX : CXT} {ps : List Str} {sp : Sp} {x y : Str} {p pos : Pos} {kws : List Keyword} {tk : TA} {E : XK}
/-- f(y = e) -/
theorem pe_callK1 (F : FnOk X.prog X.w X.K X.mg X.base CX k f fd [y] sp) (hr : Room k X.A) (hg : Gl X x) (hm : X.mg x = some (.ref f)) (hk : keepIn X.K (.ref f) = true) (hb : ∀ (s : Shared) (u : Value), BindsTo s fd ⟨[], [(y, u)]⟩ [(y, u)]) (hx : Passes CX X E) (hkw : PK X kws tk)
    (hall : (backToKw pos (keywordEach kws X.env)).all (·.1.isSome) = true := by rfl) (hks : (backToKw pos (keywordEach kws X.env)).filterMap (·.1) = [y] := by rfl) (hdb : (x == ("__debug__" : Str)) = false := by decide)
    (hpl : ((backTo pos (starEach [] X.env)).any (·.1) || (backToKw pos (keywordEach kws X.env)).any (·.1.isNone)) = false := by rfl) :
    PE X (.Call (.Name x p) [] kws pos) (tCall sp [] E tk) := by
  refine ⟨fun pins s σ H Q I h => ?_⟩
  refine wpAny_Call_Name_kw (ld_glob I hg hm ?_ hdb)
  refine PySem.W.callWith_KW0 (h₀ := X.base) I.ok.mod.kin hk hall ?_ hpl
  refine thn (hkw.run pos pins s σ H _ I h) fun ws s2 ⟨zs, H2, I2, rz, q2⟩ => ⟨I2.kIn, ?_⟩
  rw [hks]
  have q3 : sp (zs ++ []) H2 Q E := q2
  rw [List.append_nil] at q3
  have hl := F.len _ _ _ _ q3
  have hl2 := rz.length
  obtain ⟨u, rfl⟩ : ∃ u, ws = [u] := by
    match ws, hl2 with
    | [], e => rw [hl] at e; simp at e
    | [u], _ => exact ⟨u, rfl⟩
    | _ :: _ :: _, e => rw [hl] at e; simp at e
  refine wpAny_call (codeAny_mono (F.run X.A X.stack s2 H2 ⟨[], [(y, u)]⟩ [u] zs Q E hr I2.env0 (hb s2 u) rz q3) fun r s' hq => ?_)
  cases r with
  | error e => exact hx pins σ _ _ e s' I2 hq
  | ok fl =>
    cases fl with
    | ret u => exact I2.after hq
    | next => exact False.elim hq
    | brk => exact False.elim hq
    | cont => exact False.elim hq
end
section
variable {K : Frag} {H : Hp} {Q : VK}
theorem slA_teams {x : V} {ts : List (List Str)} {lo hi : Option Int} (h : S2 K H x ts) (q : ∀ v H' ts', Same H H' → S2 K H' v ts' → ts'.length ≤ HT.sIx ts.length ts.length hi - HT.sIx ts.length 0 lo → (∀ t ∈ ts', t ∈ ts) → Q v H') : rSlA K x lo hi H Q := by
  obtain ⟨a, xs, rfl, ha, hp⟩ := h
  have hl := prd_len hp
  refine ⟨a, xs, rfl, ha, fun hw => q _ H ts (Same.refl _) ⟨a, xs, rfl, ha, hp⟩ (by rw [← hl, hw.1, hw.2]; omega) (fun _ z => z), fun _ p np => ?_⟩
  have s := same_upd (o := .tup (cutV xs lo hi)) np
  refine q (.ref p) _ ((ts.drop (HT.sIx xs.length 0 lo)).take (HT.sIx xs.length xs.length hi - HT.sIx xs.length 0 lo)) s ⟨p, _, rfl, st_ upd_same, prd_mono (fun _ _ z => z.same s) (prd_take _ (prd_drop _ hp))⟩ ?_ fun t ht => List.mem_of_mem_drop (List.mem_of_mem_take ht)
  rw [List.length_take, ← hl]
  omega
theorem cat_teams {x y : V} {ts us : List (List Str)} (h1 : S2 K H x ts) (h2 : S2 K H y us) (hn : ts.length + us.length ≤ 100000) (q : ∀ v H', Same H H' → S2 K H' v (ts ++ us) → Q v H') : rCatA K x y H Q := by
  have g1 := h1
  have g2 := h2
  obtain ⟨a, xs, rfl, ha, hp⟩ := h1
  obtain ⟨b, ys, rfl, hb, hq⟩ := h2
  have l1 := prd_len hp
  have l2 := prd_len hq
  refine ⟨a, b, xs, ys, rfl, rfl, ha, hb, Nat.le_of_lt (big (by omega)), fun e => ?_, fun _ e => ?_, fun _ _ p np => ?_⟩
  · subst e
    have : ts = [] := List.eq_nil_of_length_eq_zero (by simpa using l1.symm)
    subst this
    exact q _ H (Same.refl _) g2
  · subst e
    have : us = [] := List.eq_nil_of_length_eq_zero (by simpa using l2.symm)
    subst this
    refine q _ H (Same.refl _) ?_
    rw [List.append_nil]
    exact g1
  · have s := same_upd (o := .tup (xs ++ ys)) np
    exact q _ _ s ⟨p, _, rfl, st_ upd_same, prd_mono (fun _ _ z => z.same s) (prd_app hp hq)⟩
theorem shaped_nilT : SeqAt.shaped (.tuple []) = true := by
  unfold SeqAt.shaped
  simp [PyData.canLay0, PyData.canLayAll0, PyData.depth, PyData.depthAll]
end
end Cb

/-! Sets of texts: made, added to, sorted. -/
namespace Cb
open PySem PySem.Spec PyProof.Rows L2 PySem.W
section
variable (P : Program) (w : World)
/-- the set at a holds just the texts of l -/
structure TxS (h : Heap) (a : Addr) (l : List Str) (D : Froz.SD) : Prop where
  ob : h.get? a = some (Froz.sObj "set" D)
  ok : Froz.TxOk P w D l
  nd : l.Nodup
  few : l.length < scanBound
  up : Ris D.2.2.place.toList
  led : w.params.followText "set-order" = true ∨ D.2.2.led = true
def SetS (h : Heap) (a : Addr) (l : List Str) : Prop := ∃ D, TxS P w h a l D
/-- as a thing of the heap -/
def SetSO (a : Addr) (l : List Str) : HO := .ext fun h => SetS P w h a l
end
section
variable {P : Program} {w : World} {A : Around} {E : Value → Shared → Prop} {s : Shared} {a : Addr} {l : List Str} {D : Froz.SD}
theorem ris_tail {ep : Nat} {es : Array (Int × Value)} {t : SetTable} (b : Bool) (h : Ris t.place.toList) : Ris (Froz.tailTx ep es t b).2.2.place.toList := by
  unfold Froz.tailTx
  by_cases c : (!b && t.tooFull) = true
  · rw [if_pos c]
    exact relayAll_ris t es _
  · rw [if_neg c]
    exact h
theorem led_tail {ep : Nat} {es : Array (Int × Value)} {t : SetTable} (b : Bool) : (Froz.tailTx ep es t b).2.2.led = t.led := by
  unfold Froz.tailTx
  by_cases c : (!b && t.tooFull) = true
  · rw [if_pos c]
    exact relayAll_led t es _
  · rw [if_neg c]
theorem ris_add {h : Int} {v : Value} (r : Ris D.2.2.place.toList) : Ris (Froz.addTx h v D).2.2.place.toList := by
  have r1 := layNew_ris D.2.2 D.1 h v r
  unfold Froz.addTx
  refine ris_tail _ ?_
  by_cases c : (layNew D.2.2 D.1 h v).2.1.plain = true
  · rw [if_pos c]
    exact r1
  · rw [if_neg c]
    exact r1
theorem led_add {h : Int} {v : Value} : (Froz.addTx h v D).2.2.led = D.2.2.led := by
  have r1 := layNew_led D.2.2 D.1 h v
  unfold Froz.addTx
  rw [led_tail]
  by_cases c : (layNew D.2.2 D.1 h v).2.1.plain = true
  · rw [if_pos c]
    exact r1
  · rw [if_neg c]
    exact r1
theorem SetS.at {h h' : Heap} (x : SetS P w h a l) (k : ∀ o, h.get? a = some o → h'.get? a = some o) : SetS P w h' a l := by
  obtain ⟨D, t⟩ := x
  exact ⟨D, k _ t.ob, t.ok, t.nd, t.few, t.up, t.led⟩
theorem setSO_ok {H : Hp} {h : Heap} (x : SetS P w h a l) : ObjOk P w H h a (SetSO P w a l) := by
  obtain ⟨D, t⟩ := x
  exact ⟨⟨D, t⟩, ⟨_, t.ob⟩, fun h1 h2 y k => y.at k⟩
theorem setSO_get {X : Cx} {pins : List (Addr × Obj)} {σ : Stt} {H : Hp} {s : Shared} (I : Inv X pins σ H s) (e : H a = some (SetSO X.prog X.w a l)) : SetS X.prog X.w s.heap a l := (I.hok a _ e).1
/-- a new set -/
theorem setS_new (P : Program) (w : World) (h : Heap) : SetS P w (h.push { cls := .type "set", dict := none, data := .set #[] 0 (.fresh 0 0 (!w.params.followText "set-order")) }) h.objs.size [] := by
  refine ⟨(#[], 0, .fresh 0 0 (!w.params.followText "set-order")), Heap.get?_push_size _ rfl, .nil (by rfl), .nil, by decide, .nil, ?_⟩
  show _ ∨ (!w.params.followText "set-order") = true
  cases w.params.followText "set-order" with
  | true => exact .inl rfl
  | false => exact .inr rfl
/-- l with k -/
def put1 (l : List Str) (k : Str) : List Str := if k ∈ l then l else k :: l
theorem put1_nd {l : List Str} (h : l.Nodup) (k : Str) : (put1 l k).Nodup := by
  unfold put1
  by_cases c : k ∈ l
  · rw [if_pos c]
    exact h
  · rw [if_neg c]
    exact List.nodup_cons.mpr ⟨c, h⟩
theorem put1_mem {l : List Str} {k x : Str} : x ∈ put1 l k ↔ x ∈ l ∨ x = k := by
  unfold put1
  by_cases c : k ∈ l
  · rw [if_pos c]
    exact ⟨.inl, fun z => z.elim id fun e => e ▸ c⟩
  · rw [if_neg c, List.mem_cons]
    exact Or.comm
theorem put1_len (l : List Str) (k : Str) : (put1 l k).length ≤ l.length + 1 := by
  unfold put1
  split
  · omega
  · simp
theorem addS_hashed {k : Str} {u : Tok} {Q : Bool → Shared → Prop} (T : TxS P w s.heap a l D) (room : l.length + 1 < scanBound) (q : ∀ h' b, Heap.SameBut a s.heap h' → SetS P w h' a (put1 l k) → Q b { s with heap := h' }) :
    wpAny (model P w) A (setAddHashed a (.str k u) (hashStr w k)) Q E s := by
  by_cases c : k ∈ l
  · obtain ⟨es, ep, t⟩ := D
    have key : (strKind P w).is k (.str k u) = true := Froz.is_str k u
    have few : es.size < scanBound := by rw [show es.size = l.length from T.ok.sz]; exact T.few
    have el : ElemsOf (strKind P w) es.toList := T.ok.el
    have dt : (Froz.sObj "set" (es, ep, t)).data = .set es ep t := rfl
    have ft : t.fits es.size = true := T.ok.fit
    unfold setAddHashed setAddHashedIn
    refine wpAny_holding (wpAny_bind (wpAny_setState_of T.ob dt ft ?_))
    dsimp only
    rw [byScan_of rfl few el]
    simp only [↓reduceIte]
    unfold setAddByScan
    refine wpAny_bind (wpAny_bind (wpAny_rule (wpAny_bind (wpAny_setScan_of (knd := strKind P w) (k := k) key T.ob dt ft el ?_))))
    cases hf : List.findIdx? (fun e => (strKind P w).is k e.2) es.toList with
    | none =>
      obtain ⟨e, he, z⟩ := (T.ok.mem k).mp c
      have z2 := List.findIdx?_eq_none_iff.mp hf e he
      rw [z] at z2
      cases z2
    | some j =>
      dsimp only
      refine wpAny_pure (wpAny_pure (q s.heap false (.refl a s.heap) ?_))
      unfold put1
      rw [if_pos c]
      exact ⟨(es, ep, t), T⟩
  · refine Froz.add_x T.ob T.ok c room (q _ true (.update s.heap a _) ?_)
    unfold put1
    rw [if_neg c]
    refine ⟨_, Froz.get_upd _ T.ob rfl, Froz.add_ok u T.ok, List.nodup_cons.mpr ⟨c, T.nd⟩, room, ris_add T.up, ?_⟩
    rw [led_add]
    exact T.led
/-- set.add of a text -/
theorem addS_call {k : Str} {u : Tok} {Q : Value → Shared → Prop} (T : TxS P w s.heap a l D) (room : l.length + 1 < scanBound) (q : ∀ h', Heap.SameBut a s.heap h' → SetS P w h' a (put1 l k) → Q .none { s with heap := h', toks := s.toks + 1 }) :
    wpAny (model P w) A (call (.builtin "set.add") [.ref a, .str k u]) Q E s := by
  refine wpAny_call_entry F.slot_set_add (show s.TypeIs (.ref a) "set" from ⟨_, T.ob, rfl⟩) F.entry_set_add ?_ (F.args_set_add_2 _ _)
  unfold Builtin.«set.add» Builtin.Frozenset.oneOther
  simp only [List.isEmpty_nil, bind_assoc]
  unfold Builtin.Frozenset.addrOf setAdd
  refine wpAny_bind (wpAny_pure ?_)
  try dsimp only
  refine wpAny_bind (wpAny_pure ?_)
  try dsimp only
  refine wpAny_bind (wpAny_holding (wpAny_bind ((strKind P w).pyHash (Froz.is_str k u) ?_)))
  refine addS_hashed (s := { s with toks := s.toks + 1 }) ⟨T.ob, T.ok, T.nd, T.few, T.up, T.led⟩ room fun h' b sb x => ?_
  show wpAny _ _ (ret Value.none) _ _ _
  exact wpAny_pure ⟨_, rfl, q h' sb x⟩
end
section
variable {X : Cx} {pins : List (Addr × Obj)} {σ : Stt} {H : Hp} {s : Shared} {E : Value → Shared → Prop} {D : Addr} {l : List Str}
theorem addS_ok {k : Str} {u : Tok} {Q : Value → Shared → Prop} (I : Inv X pins σ H s) (hD : H D = some (SetSO X.prog X.w D l)) (room : l.length + 1 < scanBound)
    (q : ∀ s', Inv X pins σ (upd H D (SetSO X.prog X.w D (put1 l k))) s' → Q .none s') : wpAny (model X.prog X.w) X.A (call (.builtin "set.add") [.ref D, .str k u]) Q E s := by
  obtain ⟨T0, T⟩ := setSO_get I hD
  refine addS_call T room fun h' sb x => ?_
  obtain ⟨T1, t1⟩ := id x
  exact q _ (I.write (e := D) (t' := s.toks + 1) (by rw [hD]; trivial) (.inl rfl) (fun b u hb hu => (sb.2 b hb).trans hu) ⟨_, t1.ob⟩ (setSO_ok x))
/-! ### sorted of a set of texts -/
def rSrtS (P : Program) (w : World) : List V → Hp → VK → Prop := fun vs H Q => ∃ (a : Addr) (l : List Str), vs = [.ref a] ∧ H a = some (SetSO P w a l) ∧ ∀ p ks, H p = none → ks.Perm l → Q (.ref p) (upd H p (.lst ((srt ks).map V.str)))
theorem perm_of_sub : ∀ {l L : List Str}, l.Nodup → (∀ x ∈ l, x ∈ L) → L.length ≤ l.length → L.Perm l
  | [], L, _, _, h => by
    have : L = [] := List.eq_nil_of_length_eq_zero (Nat.le_zero.mp h)
    rw [this]
  | x :: l, L, nd, sub, h => by
    obtain ⟨n1, n2⟩ := List.nodup_cons.mp nd
    have hx := sub x List.mem_cons_self
    have p := List.perm_cons_erase hx
    refine p.trans ((perm_of_sub n2 (fun y hy => ?_) ?_).cons x)
    · exact (List.mem_erase_of_ne fun e => n1 (by rw [← e]; exact hy)).mpr (sub y (List.mem_cons_of_mem _ hy))
    · rw [List.length_erase_of_mem hx]
      simp at h
      omega
/-- the text of a value -/
def txt : Value → Str
  | .str k _ => k
  | _ => ""
theorem txt_each : ∀ vs : List Value, (∀ v ∈ vs, ∃ k tk, v = Value.str k tk) → EachIs (fun v k => ∃ tk, v = Value.str k tk) vs (vs.map txt)
  | [], _ => .nil
  | v :: vs, h => by
    obtain ⟨k, tk, rfl⟩ := h v List.mem_cons_self
    exact .cons ⟨tk, rfl⟩ (txt_each vs fun u hu => h u (List.mem_cons_of_mem _ hu))
theorem cr_srtS (hc : X.calm = true) (hu : X.A.units + 64 < cLine) : CallR X (.builtin "sorted") (rSrtS X.prog X.w) := by
  intro pins s σ H vs us Q I r h
  obtain ⟨a, l, rfl, hD, q⟩ := h
  rw [Vals.ref1 r]
  obtain ⟨⟨es, ep, t⟩, T⟩ := setSO_get I hD
  refine call_function_entry_kw kind_sorted plain_sorted entry_sorted (args_sorted1 _) ?_
  unfold Builtin.«sorted»
  refine wpAny_bind (m := checkCount "sorted" 1 1 _) (wpAny_pure (wpAny_bind ?_))
  have few : es.size < scanBound := by rw [show es.size = l.length from T.ok.sz]; exact T.few
  refine collect_set (a := a) (es := es) (ep := ep) (t := t) (I.ok.hd hc) ⟨_, T.ob, rfl, rfl⟩ T.ok.fit few T.up T.led fun s1 vs k1 z1 g1 o1 pm => ?_
  have each : ∀ v ∈ vs, ∃ k tk, v = Value.str k tk := fun v hv => by
    obtain ⟨e, he, z⟩ := List.mem_map.mp (pm.mem_iff.mp hv)
    obtain ⟨⟨k, hk, _⟩, _⟩ := T.ok.el e he
    obtain ⟨tk, e2⟩ := Value.isStrOf_shape hk
    exact ⟨k, tk, by rw [← z]; exact e2⟩
  have few2 : vs.length ≤ sizeLine := by
    rw [pm.length_eq, List.length_map, Array.length_toList]
    exact fits_of_scanBound few
  have ke : EachIs (fun v k => ∃ tk, v = Value.str k tk) vs (vs.map txt) := txt_each vs each
  have pk : (vs.map txt).Perm l := by
    refine perm_of_sub T.nd (fun k hk => ?_) ?_
    · obtain ⟨e, he, z⟩ := (T.ok.mem k).mp hk
      obtain ⟨tk, e2⟩ := Value.isStrOf_shape z
      refine List.mem_map.mpr ⟨e.2, pm.mem_iff.mpr (List.mem_map.mpr ⟨e, he, rfl⟩), ?_⟩
      rw [e2]
      rfl
    · rw [List.length_map, pm.length_eq, List.length_map, Array.length_toList]
      exact Nat.le_of_eq T.ok.sz
  have at1 : (s1.heap.push (seqObj "list" vs.toArray 0)).get? s1.heap.objs.size = some (seqObj "list" vs.toArray 0) := Heap.get?_push_size _ rfl
  refine wpAny_bind (wpAny_newList ?_ few2)
  refine wpAny_bind (wpAny_holding (wpAny_call_entry_kw slot_list_sort ⟨_, at1, rfl⟩ entry_list_sort ?_ (args_list_sort _)))
  have er : EachIs (fun v k => ∃ as, Reads (sortingHeap (s1.heap.push (seqObj "list" vs.toArray 0)) s1.heap.objs.size vs) v (PyData.str k) as) vs (vs.map txt) := ke.mono fun v k ⟨tk, e⟩ => ⟨[], by rw [e]; exact .str _ _⟩
  have hal : AllAlike ((vs.map txt).map PyData.str) := fun d hd d' hd' => by
    obtain ⟨k, _, rfl⟩ := List.mem_map.mp hd
    obtain ⟨k', _, rfl⟩ := List.mem_map.mp hd'
    simp [alike]
  have hso : Sortable ((vs.map txt).map PyData.str) := .inr fun d hd => by
    obtain ⟨k, _, rfl⟩ := List.mem_map.mp hd
    exact ⟨fun z => (nomatch z), fun _ z => (nomatch z)⟩
  refine list_sort_vals (s := { s1 with heap := s1.heap.push (seqObj "list" vs.toArray 0) }) at1
    (SortsAt.data (s := { s1 with heap := sortingHeap (s1.heap.push (seqObj "list" vs.toArray 0)) s1.heap.objs.size vs }) (each_map (R := fun v d => ∃ as, Reads (sortingHeap (s1.heap.push (seqObj "list" vs.toArray 0)) s1.heap.objs.size vs) v d as) PyData.str er) hal hso (bound_map (A := X.A.in1.in1) (enc := PyData.str) (bs := vs.map txt) fun k _ => by simp only [PyData.depth]; show X.A.units + 1 + 1 + 0 < cLine; omega)) few2 ?_
  have outs : EachIs (fun v k => ∃ tk, v = Value.str k tk) (sortVals (dataKind (sortingHeap (s1.heap.push (seqObj "list" vs.toArray 0)) s1.heap.objs.size vs) ((vs.map txt).map PyData.str)) false vs vs) (srt (vs.map txt)) := sortVals_data false ke er hal
  generalize sortVals (dataKind (sortingHeap (s1.heap.push (seqObj "list" vs.toArray 0)) s1.heap.objs.size vs) ((vs.map txt).map PyData.str)) false vs vs = out at outs
  refine ⟨_, rfl, wpAny_pure ⟨_, rfl, ?_⟩⟩
  obtain ⟨c, hc2⟩ := sortedHeap_at (out := out.toArray) at1
  have keep : ∀ b o, s.heap.get? b = some o → (sortedHeap (s1.heap.push (seqObj "list" vs.toArray 0)) s1.heap.objs.size vs out.toArray).get? b = some o := fun b o e => by
    have e1 := k1 b o e
    have lt := Heap.lt_size e1
    rw [sortedHeap_old (Nat.ne_of_lt lt) (by rw [size_push']; exact Nat.lt_succ_of_lt lt)]
    exact Heap.get?_push_of_some _ e1
  have hn := I.hok.fresh z1
  have ro : Vals ((srt (vs.map txt)).map V.str) out := each_out (fun k => V.str k) outs
  have small : ((srt (vs.map txt)).map V.str).length ≤ sizeLine := by
    rw [List.length_map, srt_len, List.length_map]
    exact few2
  exact ⟨.ref _, upd H s1.heap.objs.size (.lst ((srt (vs.map txt)).map V.str)), I.call' (ch := []) o1 (Un.laid keep z1 hn) (I.hok.laid keep z1 ⟨small, out, c, ro, hc2⟩) (by rw [g1]; exact I.bare) (fun _ z => nomatch z), rfl, q _ _ hn pk⟩
end
end Cb

/-! Set comprehensions with several for: sets of texts. -/
namespace Cb
open PySem PySem.Spec PyProof.Rows L2 PySem.W
section turns
variable {prog : Program} {w : World} {A : Around} {R : Result → Shared → Prop} {elt tg i1 : Expr} {gs : List Comprehension} {sc : Scope} {pos : Pos} {k : Nat} {fs : List Expr} {p : Pos} {it acc : Value} {env : Env} {bd : Sem PySem.Fin → Sem PySem.Fin} {s : Shared}
theorem loopC (ht : TurnIs (.SetComp elt gs sc pos) tg k fs p it acc env bd) (I : Nat → Shared → Prop)
    (turn : ∀ n s, I n s → wpAny (model prog w) A (pyNext it) (fun r s1 => match r with
      | none => R (.ok .next) s1
      | some v => wpAny (model prog w) A (letOwnedTupleGo tg it v) (fun _ s2 => wpAny (model prog w) A (assign tg env v) (fun _ s3 =>
          wpAny (model prog w) A (forIn fs true fun f r => if r = true then do let ok ← isTrue f env (eval f env); pure (ForInStep.yield ok) else pure (ForInStep.yield r)) (fun ok s4 =>
            if ok = true then Ends3 prog w A bd (fun s5 => ∃ m, m < n ∧ I m s5) s4 else ∃ m, m < n ∧ I m s4) (fun _ _ => False) s3) (fun _ _ => False) s2) (fun _ _ => False) s1) (fun _ _ => False) s)
    (n : Nat) (s : Shared) (h : I n s) : codeAny (model prog w) A (.compLoop (.SetComp elt gs sc pos) k it acc env) R s := by
  refine codeAny_loop rfl I (fun n s hI => ?_) n h
  show wpAny _ A ((compTurn (.SetComp elt gs sc pos) k it acc env).onRaise (fun x => do noteFrame x env; theTreesLotGoes x)) _ _ s
  refine wpAny_noted ?_
  rw [show compTurn (.SetComp elt gs sc pos) k it acc env = _ from ht]
  refine wpAny_bind (wpAny_standAt (wpAny_bind (thnF (turn n s hI) fun r s1 h1 => ?_)))
  match r, h1 with
  | none, h1 => exact wpAny_pure h1
  | some v, h1 =>
    refine wpAny_bind (thnF h1 fun _ s2 h2 => wpAny_bind (thnF h2 fun _ s3 h3 => wpAny_bind (thnF h3 fun ok s4 h4 => ?_)))
    cases ok with
    | false => exact wpAny_pure ⟨rfl, h4⟩
    | true => exact h4 _ _ _ fun s5 h5 => wpAny_pure ⟨rfl, h5⟩
def LastS (elt : Expr) (acc : Value) (env : Env) (n : Sem PySem.Fin) : Sem PySem.Fin := do
  (do let v ← eval elt env; standAt elt.pos; let _ ← call (.builtin "set.add") [acc, v])
  n
theorem lastS_ok {Z : Shared → Prop} (h : wpAny (model prog w) A (eval elt env) (fun x s1 => wpAny (model prog w) A (call (.builtin "set.add") [acc, x]) (fun _ s2 => Z s2) (fun _ _ => False) s1) (fun _ _ => False) s) : Ends3 prog w A (LastS elt acc env) Z s := by
  intro n Q E hn
  unfold LastS
  exact wpAny_bind (wpAny_bind (thnF h fun x s1 h1 => wpAny_bind (wpAny_standAt (wpAny_bind (thnF h1 fun _ s2 h2 => wpAny_pure (hn s2 h2))))))
/-- a later clause's iterator gives itself -/
theorem startC_ok (hc : ((gs)[k]?).elim false (fun g => g.is_async != 0) = false) (h0 : codeAny (model prog w) A (.compLoop (.SetComp elt gs sc pos) k it acc env) R s)
    (h : wpAny (model prog w) A (pyIter it) (fun it' s' => codeAny (model prog w) A (.compLoop (.SetComp elt gs sc pos) k it' acc env) R s') (fun _ _ => False) s) :
    codeAny (model prog w) A (.compStart (.SetComp elt gs sc pos) k it acc env) R s := by
  refine codeAny_of_tree ?_
  show wpAny _ _ ((compStart (.SetComp elt gs sc pos) k it acc env).onRaise (fun x => do noteFrame x env; standAt theWindowsPlace)) _ _ s
  refine wpAny_notedAt ?_
  unfold compStart
  rw [show ((clausesOf (.SetComp elt gs sc pos))[k]?).elim false (fun g => g.is_async != 0) = false from hc]
  show wpAny _ _ (ask >>= _) _ _ s
  refine wpAny_bind (wpAny_askSetting (wpAny_ite ?_))
  split
  · exact wpAny_pure (And.intro rfl h0)
  · refine wpAny_bind (wpAny_rule ?_)
    have jp : wpAny (model prog w) A (pyIter it >>= fun l => again (.compLoop (.SetComp elt gs sc pos) k l acc env)) (fun f s' => match f with
        | .done f => R (.ok f) s'
        | .again c' => c'.quiet = true ∧ codeAny (model prog w) A c' R s') (fun _ _ => False) s := wpAny_bind (thnF h fun it' s' h' => wpAny_pure ⟨rfl, h'⟩)
    show wpAny _ _ (match (clausesOf (.SetComp elt gs sc pos))[k]? with
      | some g => standAt g.iter.pos >>= fun _ => (pyIter it >>= fun l => again (.compLoop (.SetComp elt gs sc pos) k l acc env))
      | _ => (pyIter it >>= fun l => again (.compLoop (.SetComp elt gs sc pos) k l acc env))) _ _ s
    split
    · exact wpAny_bind (wpAny_standAt (thnF jp fun _ _ z => z))
    · exact thnF jp fun _ _ z => z
end turns
section forms
variable (elt t0 i0 t1 i1 : Expr) (f0 f1 : List Expr) (sc : Scope) (pos : Pos) (it acc : Value) (env : Env)
abbrev s1c : Expr := .SetComp elt [⟨t0, i0, f0, 0⟩] sc pos
theorem turnS1 : TurnIs (s1c elt t0 i0 f0 sc pos) t0 0 f0 i0.pos it acc env (LastS elt acc env) := by
  unfold TurnIs LastS
  rfl
abbrev s2c : Expr := .SetComp elt [⟨t0, i0, f0, 0⟩, ⟨t1, i1, f1, 0⟩] sc pos
theorem turnS2_0 : TurnIs (s2c elt t0 i0 t1 i1 f0 f1 sc pos) t0 0 f0 i0.pos it acc env (NextIs (s2c elt t0 i0 t1 i1 f0 f1 sc pos) i1 1 acc env) := by
  unfold TurnIs NextIs
  rfl
theorem turnS2_1 : TurnIs (s2c elt t0 i0 t1 i1 f0 f1 sc pos) t1 1 f1 i1.pos it acc env (LastS elt acc env) := by
  unfold TurnIs LastS
  rfl
end forms
/-- the element, put into the set at D -/
def tEndS (P : Program) (w : World) (te : TE) (D : Addr) : TB := fun σ H N => te σ H fun y H1 => ∃ (x : Str) (l : List Str), y = .str x ∧ H1 D = some (SetSO P w D l) ∧ l.length + 1 < scanBound ∧ N (upd H1 D (SetSO P w D (put1 l x)))
section
variable {Y : Cx} {elt tg i1 : Expr} {gs : List Comprehension} {sc : Scope} {pos p : Pos} {k : Nat} {fs : List Expr} {D : Addr} {bd : Sem PySem.Fin → Sem PySem.Fin} {wi : TI} {g : TG} {tt : TT} {te : TE} {tb : TB} {vI vs : List Nat}
theorem bd_lastS (P : Program) (w : World) (hx : Y.xe = fun _ _ => False) (he : PE Y elt te) (eP : Y.prog = P := by rfl) (ew : Y.w = w := by rfl) : Bd Y (LastS elt (.ref D) Y.env) (tEndS P w te D) [] := by
  subst eP ew
  intro pins σ H s N I h
  have q := he.run pins s σ H _ I h
  rw [hx] at q
  refine lastS_ok (thnF q fun x s1 hz => ?_)
  obtain ⟨yv, H1, I1, r1, x, l, rfl, hD, hl, nx⟩ := hz
  obtain ⟨tk, rfl⟩ := r1
  exact addS_ok I1 hD hl fun s2 I2 => ⟨_, I2, nx⟩
theorem bdC_clause (hx : Y.xe = fun _ _ => False) (hc : Y.calm = true) (tu : ∀ it, TurnIs (.SetComp elt gs sc pos) tg k fs p it (.ref D) Y.env bd) (hgs : ((gs)[k]?).elim false (fun g => g.is_async != 0) = false)
    (hs : ∀ x, foldedSetIterable i1 Y.env x = pure x) (hi : PI Y tg i1 wi) (hg : PG Y tg g) (ht : PTs Y fs tt) (hb : Bd Y bd tb vI) (hv : ∀ i ∈ vI, i ∈ vs) :
    Bd Y (NextIs (.SetComp elt gs sc pos) i1 k (.ref D) Y.env) (tCl wi g tt tb vs) vs := by
  intro pins σ H s N I h
  have q := hi.run pins s σ H _ I h
  rw [hx] at q
  refine next_ok hs (thnF q fun xv s1 hz => thnF hz fun itv s2 h2 => ?_)
  obtain ⟨it, fp, tn, J, H2, rfl, I2, T, st2, f2, W, ⟨m0, w0⟩, tr⟩ := h2
  have fpk : ∀ {H' : Hp}, (∀ b ∈ fp, H' b = none) → ∀ b ∈ fp, FpOk Y pins H' b := fun n b hb => ⟨n b hb, (f2 b hb).2⟩
  have lp : codeAny (model Y.prog Y.w) Y.A (.compLoop (.SetComp elt gs sc pos) k (.ref it) (.ref D) Y.env) (fun r s3 => match r with
      | .ok _ => ∃ H', Inv Y pins (wipe σ vs) H' s3 ∧ N H'
      | .error _ => False) s2 := by
    refine loopC (tu _) (fun n s' => ∃ j H', Inv Y pins (wipe σ vs) H' s' ∧ tn j s'.heap ∧ (∀ b ∈ fp, H' b = none) ∧ W j n H') (fun n s3 h3 => ?_) m0 s2 ⟨0, H2, I2.weak (wipe_length _ _) (fun _ _ e => (wipe_some e).1), st2, fun b hb => (f2 b hb).1, w0⟩
    obtain ⟨j, H3, I3, st3, n3, w3⟩ := h3
    rcases tr j n H3 w3 with ⟨stop, nx⟩ | ⟨go, N1, hN, step⟩
    · refine thnF (T.done Y rfl rfl rfl hc j pins s3 _ H3 (fun _ _ => False) I3 (fpk n3) st3 stop) fun r s4 hr => ?_
      obtain ⟨rfl, I4⟩ := hr
      exact ⟨H3, I4, nx⟩
    · refine thnF (T.item Y rfl rfl rfl hc j pins s3 _ H3 (fun _ _ => False) I3 (fpk n3) st3 go) fun r s4 hr => ?_
      obtain ⟨u, rfl, h4⟩ := hr
      refine thnF h4 fun _ s5 h5 => ?_
      obtain ⟨x, H5, I5, r5, y5, st5, n5⟩ := h5
      have a1 := hg.run _ s5 _ H5 x u _ (I5.pinned (fpk n5) (T.obj _ _ st5)) r5 (step x H5 y5)
      rw [hx] at a1
      refine thnF a1 fun _ s6 h6 => ?_
      obtain ⟨σ6, H6, I6, e6, q6⟩ := h6
      have a2 := ht.run _ s6 σ6 H6 _ I6 q6
      rw [hx] at a2
      refine thnF a2 fun b s7 h7 => ?_
      obtain ⟨H7, I7, q7⟩ := h7
      have back : ∀ {σ8 : Stt} {s' : Shared} {H' : Hp}, Inv Y (pins ++ pinsAt fp s5.heap) σ8 H' s' → σ8.length = σ6.length → (∀ (i : Nat) v, (wipe σ vs)[i]? = some (some v) → σ8[i]? = some (some v)) → N1 H' →
          ∃ m, m < n ∧ ∃ j H', Inv Y pins (wipe σ vs) H' s' ∧ tn j s'.heap ∧ (∀ b ∈ fp, H' b = none) ∧ W j m H' := fun {σ8 s' H'} I' hl hk nx => by
        obtain ⟨m', hm, w'⟩ := hN H' nx
        have at_ : ∀ b ∈ fp, ∀ o, s5.heap.get? b = some o → s'.heap.get? b = some o ∧ H' b = none := fun b hb o e =>
          ⟨(I'.pin (b, o) (List.mem_append_right _ (List.mem_append_right _ (mem_pinsAt hb e)))).1, (I'.pin (b, o) (List.mem_append_right _ (List.mem_append_right _ (mem_pinsAt hb e)))).2.1⟩
        refine ⟨m', hm, j + 1, H', I'.unpinned.weak (by rw [hl, ← wipe_length σ6 vs, e6]) hk, T.keep _ _ _ st5 fun b hb o e => (at_ b hb o e).1, fun b hb => ?_, w'⟩
        obtain ⟨o, e, _⟩ := T.obj _ _ st5 b hb
        exact (at_ b hb o e).2
      have k6 : ∀ (i : Nat) v, (wipe σ vs)[i]? = some (some v) → σ6[i]? = some (some v) ∧ i ∉ vs := fun i v e => by
        rw [← e6] at e
        exact wipe_some e
      cases b with
      | false => exact back I7 rfl (fun i v e => (k6 i v e).1) q7
      | true =>
        intro nn QQ EE hn
        refine hb _ σ6 H7 s7 N1 I7 q7 nn QQ EE fun s8 h8 => hn s8 ?_
        obtain ⟨H8, I8, nx⟩ := h8
        refine back I8 (wipe_length _ _) (fun i v e => ?_) nx
        rw [wipe_out fun z => (k6 i v e).2 (hv i z)]
        exact (k6 i v e).1
  exact startC_ok hgs lp (T.self Y.A 0 _ _ _ st2 lp)
end
section
variable {X : Cx}
/-- {elt for t0 in i0 for t1 in i1 ..}: D the new set -/
def tScN (P : Program) (w : World) (wi : TI) (g : TG) (tt : TT) (tb : Addr → TB) (vs : List Nat) : TE := fun σ H Q => wi σ H fun J H1 => ∀ D, H1 D = none → ∃ W : Nat → Nat → Hp → Prop, (∃ m, W 0 m (upd H1 D (SetSO P w D []))) ∧ ∀ i m H, W i m H →
  (J.stop i H ∧ Q (.ref D) H) ∨ (J.go i H ∧ ∃ N : Hp → Prop, (∀ H', N H' → ∃ m', m' < m ∧ W (i + 1) m' H') ∧ ∀ x H', J.yld i H x H' → g x (wipe σ vs) H' fun σ2 H2 => wipe σ2 vs = wipe σ vs ∧ tt σ2 H2 fun b H3 => if b = true then tb D σ2 H3 N else N H3)
theorem scN_ok {elt tg iter : Expr} {ifs : List Expr} {rest : List Comprehension} {scope : Scope} {own : List (Str × Nat)} {pos : Pos} {wi : TI} {g : TG} {tt : TT} {tb : Addr → TB} {vI : List Nat} {bd : Addr → Env → Sem PySem.Fin → Sem PySem.Fin}
    (hc : X.calm = true) (hN : X.N.Nodup) (hi : PI X tg iter wi) (ok : BlkOk X.N X.env.scope scope own) (hs : ∀ x, foldedSetIterable iter X.env x = pure x)
    (tu : ∀ (it D : Addr) (env : Env), TurnIs (.SetComp elt (⟨tg, iter, ifs, 0⟩ :: rest) scope pos) tg 0 ifs iter.pos (.ref it) (.ref D) env (bd D env))
    (hg : ∀ (s : Shared) (H : Hp) (C : Addr) (cl : List (Str × Addr)) (fp : List Addr), PG (X.blk s H scope (compEnvC scope cl C X.env) fp) tg g) (ht : ∀ (s : Shared) (H : Hp) (C : Addr) (cl : List (Str × Addr)) (fp : List Addr), PTs (X.blk s H scope (compEnvC scope cl C X.env) fp) ifs tt)
    (hb : ∀ (s : Shared) (H : Hp) (C : Addr) (cl : List (Str × Addr)) (fp : List Addr) (D : Addr), Bd (X.blk s H scope (compEnvC scope cl C X.env) fp) (bd D (compEnvC scope cl C X.env)) (tb D) vI) (hv : ∀ i ∈ vI, i ∈ own.map (·.2)) :
    PE X (.SetComp elt (⟨tg, iter, ifs, 0⟩ :: rest) scope pos) (tScN X.prog X.w wi g tt tb (own.map (·.2))) := by
  refine ⟨fun pins s σ H Q I h => ?_⟩
  rw [PpSet.eval_SetComp]
  have free_ : ∀ y ∈ scope.names, y.2 = .free → ∃ c, X.env.cells.lookup y.1 = some c := fun y hy e => I.ok.has _ (ok.free y hy e)
  refine wpAny_comprehension_free (use := none) rfl hs (closure_ok free_) ok.kind (fun y hy e => by rw [ok.uniq y hy, e]) (thn (hi.run pins s σ H _ I h) fun xv s1 hz => thn hz fun itv s2 h2 => ?_)
  obtain ⟨it, fp, tn, J, H2, rfl, I2, T, st2, f2, q⟩ := h2
  refine PpSet.newSet_ok (newEnv_comp ?_)
  generalize hD : s2.heap.objs.size = D
  obtain ⟨W, ⟨m0, w0⟩, tr⟩ := q D (I2.hok.fresh (Nat.le_of_eq hD))
  generalize es : ({ s2 with heap := s2.heap.push { cls := .type "set", dict := none, data := .set #[] 0 (.fresh 0 0 (!X.w.params.followText "set-order")) } } : Shared) = s3
  have h3 : s3.heap = s2.heap.push { cls := .type "set", dict := none, data := .set #[] 0 (.fresh 0 0 (!X.w.params.followText "set-order")) } := by rw [← es]
  have I3 : Inv X pins σ (upd H2 D (SetSO X.prog X.w D [])) s3 := by
    rw [← es]
    refine I2.laid (t' := s2.toks) (fun b o e => Heap.get?_push_of_some _ e) (Nat.le_of_eq hD) ?_
    rw [← hD]
    exact setSO_ok (setS_new X.prog X.w s2.heap)
  have f3 : ∀ b ∈ fp, FpOk X pins (upd H2 D (SetSO X.prog X.w D [])) b ∧ b < s3.heap.objs.size := fun b hb => by
    obtain ⟨o, e, _⟩ := T.obj _ _ st2 b hb
    have lt_ := Heap.lt_size e
    refine ⟨⟨?_, (f2 b hb).2⟩, by rw [h3, Heap.size_push]; exact Nat.lt_succ_of_lt lt_⟩
    rw [upd_ne (by rw [← hD]; exact Nat.ne_of_lt lt_)]
    exact (f2 b hb).1
  have st3 : tn 0 s3.heap := T.keep _ _ _ st2 fun b _ o e => by rw [h3]; exact Heap.get?_push_of_some _ e
  have I4 := block_start I3 ok hN f3
  have pg := hg s3 (upd H2 D (SetSO X.prog X.w D [])) s3.heap.objs.size (cellsFrom (s3.heap.objs.size + 1) scope.names (cloFrom X.env.cells scope.names [])) fp
  have pt := ht s3 (upd H2 D (SetSO X.prog X.w D [])) s3.heap.objs.size (cellsFrom (s3.heap.objs.size + 1) scope.names (cloFrom X.env.cells scope.names [])) fp
  have pb := hb s3 (upd H2 D (SetSO X.prog X.w D [])) s3.heap.objs.size (cellsFrom (s3.heap.objs.size + 1) scope.names (cloFrom X.env.cells scope.names [])) fp D
  show codeAny _ _ (.compStart (.SetComp elt (⟨tg, iter, ifs, 0⟩ :: rest) scope pos) 0 (.ref it) (.ref D) (compEnvC scope (cellsFrom (s3.heap.objs.size + 1) scope.names (cloFrom X.env.cells scope.names [])) s3.heap.objs.size X.env)) (compPost (model X.prog X.w) X.A X.xe none _ (.ref D) s3.heap.objs.size) { s3 with heap := pushCells (s3.heap.push { cls := .type "dict", data := .dict #[] }) scope.names }
  have nfp : ∀ b ∈ fp, (upd H2 D (SetSO X.prog X.w D [])) b = none := fun b hb => (f3 b hb).1.1
  have tu0 := tu it D (compEnvC scope (cellsFrom (s3.heap.objs.size + 1) scope.names (cloFrom X.env.cells scope.names [])) s3.heap.objs.size X.env)
  generalize ec : compEnvC scope (cellsFrom (s3.heap.objs.size + 1) scope.names (cloFrom X.env.cells scope.names [])) s3.heap.objs.size X.env = ce at I4 pg pt pb tu0 ⊢
  have cL : ce.locals = s3.heap.objs.size := by subst ec; rfl
  generalize eH : upd H2 D (SetSO X.prog X.w D []) = H3 at I3 I4 pg pt pb w0 nfp f3
  generalize e4 : ({ s3 with heap := pushCells (s3.heap.push { cls := .type "dict", data := .dict #[] }) scope.names } : Shared) = s4 at I4 ⊢
  have st4 : tn 0 s4.heap := T.keep _ _ _ st3 fun b _ o e => by rw [← e4]; exact pushCells_keeps _ _ _ _ (Heap.get?_push_of_some _ e)
  have fpk : ∀ {σ' : Stt} {H' : Hp} {s' : Shared}, Inv (X.blk s3 H3 scope ce fp) [] σ' H' s' → (∀ b ∈ fp, H' b = none) → ∀ b ∈ fp, FpOk (X.blk s3 H3 scope ce fp) [] H' b := fun {σ' H' s'} I' hn b hb =>
    ⟨hn b hb, (I'.ok.exf b hb).1, I'.ok.exfs b hb, .inl hb, fun x c e => (I'.ok.exf b hb).2 x c e, fun p hp => absurd (show p ∈ ([] : List (Addr × Obj)) ++ [] from hp) (by simp)⟩
  have lp : codeAny (model X.prog X.w) X.A (.compLoop (.SetComp elt (⟨tg, iter, ifs, 0⟩ :: rest) scope pos) 0 (.ref it) (.ref D) ce)
      (compPost (model X.prog X.w) X.A X.xe none (EP X pins σ Q) (.ref D) s3.heap.objs.size) s4 := by
    refine loopC tu0 (fun n s' => ∃ i H', Inv (X.blk s3 H3 scope ce fp) [] (wipe σ (own.map (·.2))) H' s' ∧ tn i s'.heap ∧ (∀ b ∈ fp, H' b = none) ∧ W i n H') (fun n s5 h5 => ?_) m0 s4 ⟨0, H3, I4, st4, nfp, w0⟩
    obtain ⟨i, H5, I5, st5, n5, w5⟩ := h5
    rcases tr i n H5 w5 with ⟨stop, qq⟩ | ⟨go, N1, hN1, step⟩
    · refine thnF (T.done (X.blk s3 H3 scope ce fp) rfl rfl rfl hc i [] s5 _ H5 (fun _ _ => False) I5 (fpk I5 n5) st5 stop) fun r s6 hr => ?_
      obtain ⟨rfl, I6⟩ := hr
      have I7 : Inv X pins σ H5 s6 := I3.call' (ch := fp) I6.os I6.base I6.hok I6.bare fun b hb => ⟨(f3 b hb).1.2.2.2.1, (f3 b hb).1.2.1, (f3 b hb).1.2.2.2.2.1, (f3 b hb).1.2.2.2.2.2⟩
      have nC : H5 s3.heap.objs.size = none := by
        rw [← cL]
        exact I6.free
      obtain ⟨m, hn, _⟩ := I6.loc
      have hn : s6.heap.Ns ce.locals m := hn
      rw [cL] at hn
      obtain ⟨g0, g1, _, g3, g4, g5⟩ := I3.fpOk (H' := H5) (Nat.le_refl _) nC
      exact ⟨m, hn, fun h'' sb => ⟨.ref D, H5, I7.turned (t' := s6.toks) (fun b o hb e => (sb.2 b hb).trans e) g0 g1 (by assumption) (by assumption) (by assumption), rfl, qq⟩⟩
    · refine thnF (T.item (X.blk s3 H3 scope ce fp) rfl rfl rfl hc i [] s5 _ H5 (fun _ _ => False) I5 (fpk I5 n5) st5 go) fun r s6 hr => ?_
      obtain ⟨u, rfl, h6⟩ := hr
      refine thnF h6 fun _ s7 h7 => ?_
      obtain ⟨x, H7, I7, r7, y7, st7, n7⟩ := h7
      refine thnF (pg.run _ s7 _ H7 x u _ (I7.pinned (fpk I7 n7) (T.obj _ _ st7)) r7 (step x H7 y7)) fun _ s8 h8 => ?_
      obtain ⟨σ8, H8, I8, e8, q8⟩ := h8
      refine thnF (pt.run _ s8 σ8 H8 _ I8 q8) fun b s9 h9 => ?_
      obtain ⟨H9, I9, q9⟩ := h9
      have back : ∀ {σ9 : Stt} {s' : Shared} {H' : Hp}, Inv (X.blk s3 H3 scope ce fp) ([] ++ pinsAt fp s7.heap) σ9 H' s' → σ9.length = σ8.length → (∀ (j : Nat) v, (wipe σ (own.map (·.2)))[j]? = some (some v) → σ9[j]? = some (some v)) → N1 H' →
          ∃ m, m < n ∧ ∃ i H', Inv (X.blk s3 H3 scope ce fp) [] (wipe σ (own.map (·.2))) H' s' ∧ tn i s'.heap ∧ (∀ b ∈ fp, H' b = none) ∧ W i m H' := fun {σ9 s' H'} I' hl hk nx => by
        obtain ⟨m', hm, w'⟩ := hN1 H' nx
        have at_ : ∀ b ∈ fp, ∀ o, s7.heap.get? b = some o → s'.heap.get? b = some o ∧ H' b = none := fun b hb o e =>
          ⟨(I'.pin (b, o) (List.mem_append_right _ (List.mem_append_right _ (mem_pinsAt hb e)))).1, (I'.pin (b, o) (List.mem_append_right _ (List.mem_append_right _ (mem_pinsAt hb e)))).2.1⟩
        refine ⟨m', hm, i + 1, H', (I'.unpinned (pins := [])).weak (by rw [hl, ← wipe_length σ8 (own.map (·.2)), e8]) hk, T.keep _ _ _ st7 fun b hb o e => (at_ b hb o e).1, fun b hb => ?_, w'⟩
        obtain ⟨o, e, _⟩ := T.obj _ _ st7 b hb
        exact (at_ b hb o e).2
      have k8 : ∀ (j : Nat) v, (wipe σ (own.map (·.2)))[j]? = some (some v) → σ8[j]? = some (some v) ∧ j ∉ own.map (·.2) := fun j v e => by
        rw [← e8] at e
        exact wipe_some e
      cases b with
      | false => exact back I9 rfl (fun j v e => (k8 j v e).1) q9
      | true =>
        intro nn QQ EE hn
        refine pb _ σ8 H9 s9 N1 I9 q9 nn QQ EE fun s10 h10 => hn s10 ?_
        obtain ⟨H10, I10, nx⟩ := h10
        refine back I10 (wipe_length _ _) (fun j v e => ?_) nx
        rw [wipe_out fun z => (k8 j v e).2 (hv j z)]
        exact (k8 j v e).1
  exact PpSet.codeAny_compStart_set lp (T.self X.A 0 _ _ _ st4 lp)
end
end Cb

/-! The people of crews: a set of texts out of a list of sets, in order. -/
namespace Cb
open PySem PySem.Spec PyProof.Rows L2 PySem.W
/-! ### texts in order are told by who is among them -/
theorem nodup_le : ∀ {l L : List Str}, l.Nodup → (∀ x ∈ l, x ∈ L) → l.length ≤ L.length
  | [], _, _, _ => Nat.zero_le _
  | x :: l, L, nd, sub => by
    obtain ⟨n1, n2⟩ := List.nodup_cons.mp nd
    have hx := sub x List.mem_cons_self
    have h := nodup_le (l := l) (L := L.erase x) n2 fun y hy => (List.mem_erase_of_ne fun e => n1 (by rw [← e]; exact hy)).mpr (sub y (List.mem_cons_of_mem _ hy))
    rw [List.length_erase_of_mem hx] at h
    have := List.length_pos_of_mem hx
    simp
    omega
theorem same_perm {l L : List Str} (h1 : l.Nodup) (h2 : L.Nodup) (h : ∀ x, x ∈ L ↔ x ∈ l) : L.Perm l := perm_of_sub h1 (fun x hx => (h x).mpr hx) (nodup_le h2 fun x hx => (h x).mp hx)
theorem cps_inj {x y : Str} (h : x.cps.toList = y.cps.toList) : x = y := by
  obtain ⟨a⟩ := x
  obtain ⟨b⟩ := y
  have e : a = b := Array.toList_inj.mp h
  rw [e]
theorem srt_le (l : List Str) : (srt l).Pairwise fun a b => a.cps.toList ≤ b.cps.toList := by
  have h := List.pairwise_mergeSort (le := dataLe false PyData.str) (fun a b c h1 h2 => by
    rw [dataLe_str (fun b : Str => b)] at *
    simp only [decide_eq_true_eq] at *
    exact List.le_trans h1 h2) (fun a b => by
    rw [dataLe_str (fun b : Str => b)]
    simp only [Bool.or_eq_true, decide_eq_true_eq]
    exact List.le_total _ _) l
  refine h.imp fun {a b} z => ?_
  rw [dataLe_str (fun b : Str => b)] at z
  exact of_decide_eq_true z
theorem pair_eq : ∀ {a b : List Str}, a.Perm b → a.Pairwise (fun x y => x.cps.toList ≤ y.cps.toList) → b.Pairwise (fun x y => x.cps.toList ≤ y.cps.toList) → a = b
  | [], b, p, _, _ => p.nil_eq
  | x :: a, [], p, _, _ => absurd p.symm.nil_eq (by simp)
  | x :: a, y :: b, p, h1, h2 => by
    obtain ⟨a1, a2⟩ := List.pairwise_cons.mp h1
    obtain ⟨b1, b2⟩ := List.pairwise_cons.mp h2
    have e : x = y := by
      have hx : x ∈ y :: b := p.mem_iff.mp List.mem_cons_self
      have hy : y ∈ x :: a := p.mem_iff.mpr List.mem_cons_self
      rcases List.mem_cons.mp hx with e | hx
      · exact e
      · rcases List.mem_cons.mp hy with e | hy
        · exact e.symm
        · exact cps_inj (List.le_antisymm (a1 y hy) (b1 x hx))
    subst e
    rw [pair_eq ((List.perm_cons x).mp p) a2 b2]
theorem srt_eq {a b : List Str} (p : a.Perm b) : srt a = srt b := pair_eq (((srt_perm a).trans p).trans (srt_perm b).symm) (srt_le a) (srt_le b)
/-- each once -/
def dd : List Str → List Str
  | [] => []
  | x :: l => put1 (dd l) x
theorem dd_nd : ∀ l : List Str, (dd l).Nodup
  | [] => .nil
  | x :: l => put1_nd (dd_nd l) x
theorem dd_mem {x : Str} : ∀ {l : List Str}, x ∈ dd l ↔ x ∈ l
  | [] => by simp [dd]
  | y :: l => by
    show x ∈ put1 (dd l) y ↔ _
    rw [put1_mem, dd_mem (l := l), List.mem_cons]
    exact Or.comm
/-- each once, in order -/
def once (l : List Str) : List Str := srt (dd l)
theorem once_eq {l ks : List Str} (nd : ks.Nodup) (h : ∀ x, x ∈ ks ↔ x ∈ l) : srt ks = once l := srt_eq (same_perm (dd_nd l) nd fun x => by rw [h, dd_mem])
theorem once_mem {l : List Str} {x : Str} : x ∈ once l ↔ x ∈ l := by
  unfold once
  rw [(srt_perm _).mem_iff, dd_mem]
theorem once_nd (l : List Str) : (once l).Nodup := (srt_perm _).nodup_iff.mpr (dd_nd l)
theorem once_len (l : List Str) : (once l).length ≤ l.length := nodup_le (once_nd l) fun x hx => once_mem.mp hx
/-! ### {x for t in ts for x in t} -/
/-- what tuples do -/
def Tk (K : Frag) (H H' : Hp) : Prop := ∀ a xs, SqT K H a xs → SqT K H' a xs
theorem Tk.of {K : Frag} {H H' : Hp} (e : Same H H') : Tk K H H' := fun _ _ h => sameT e h
theorem Tk.s1 {K : Frag} {H H' : Hp} (e : Tk K H H') {v : V} {t : List Str} (h : S1 K H v t) : S1 K H' v t := by
  obtain ⟨a, rfl, h⟩ := h
  exact ⟨a, rfl, e _ _ h⟩
theorem Tk.upd {P : Program} {w : World} {K : Frag} {H0 H : Hp} {D : Addr} {l : List Str} {o : HO} (h : Tk K H0 H) (e : H D = some (SetSO P w D l)) : Tk K H0 (L2.upd H D o) := fun a xs z => by
  rcases h a xs z with (q | ⟨o2, q⟩) | q
  · have n : a ≠ D := fun c => by
      rw [c, e] at q
      cases q
    exact .inl (.inl (by rw [upd_ne n]; exact q))
  · have n : a ≠ D := fun c => by
      rw [c, e] at q
      cases q
    exact .inl (.inr ⟨o2, by rw [upd_ne n]; exact q⟩)
  · exact .inr q
section
variable {K : Frag} {xs : List V} {tl : TE} {j : Nat} {vs : List Nat} {σ : Stt} {H : Hp} {tb : TB} {N : Hp → Prop} {P : Program} {w : World}
theorem cl_tupT (Pv : Nat → Hp → Prop) {a : Addr} (hl : ∀ R : VK, R (.ref a) H → tl σ H R) (ht : SqT K H a xs) (hj : ∀ x, wipe ((wipe σ vs).set j (some x)) vs = wipe σ vs) (h0 : Pv 0 H)
    (hst : ∀ i H2, Pv i H2 → Tk K H H2) (hs : ∀ i x H1, xs[i]? = some x → Pv i H1 → tb ((wipe σ vs).set j (some x)) H1 (Pv (i + 1))) (hd : ∀ H1, Pv xs.length H1 → N H1) : tCl (iTup K tl) (gName j) tYes tb vs σ H N := by
  refine hl _ ⟨a, rfl, ⟨xs, ht⟩, fun i m H' => m = xs.length - i ∧ i ≤ xs.length ∧ Pv i H', ⟨xs.length, by simp, Nat.zero_le _, h0⟩, ?_⟩
  rintro i m H2 ⟨rfl, hi, p⟩
  have q := hst i H2 p a xs ht
  by_cases hlt : i < xs.length
  · refine .inr ⟨⟨xs, xs[i], q, by simp [hlt]⟩, Pv (i + 1), fun H' p' => ⟨xs.length - (i + 1), by omega, rfl, hlt, p'⟩, fun x H' y => ?_⟩
    obtain ⟨e, y⟩ := y
    subst e
    exact ⟨hj x, hs i x _ (y xs q) p⟩
  · obtain rfl : i = xs.length := by omega
    exact .inl ⟨⟨xs, q, Nat.le_refl _⟩, hd H2 p⟩
theorem scN_tup {Q : VK} {a : Addr} {tbD : Addr → TB} (Pv : Addr → Nat → Hp → Prop) (hl : ∀ R : VK, R (.ref a) H → tl σ H R) (ht : SqT K H a xs) (hj : ∀ x, wipe ((wipe σ vs).set j (some x)) vs = wipe σ vs)
    (h0 : ∀ D, H D = none → Pv D 0 (upd H D (SetSO P w D []))) (hst : ∀ D i H2, Pv D i H2 → Tk K H H2) (hs : ∀ D i x H1, xs[i]? = some x → Pv D i H1 → tbD D ((wipe σ vs).set j (some x)) H1 (Pv D (i + 1)))
    (hd : ∀ D H1, Pv D xs.length H1 → Q (.ref D) H1) : tScN P w (iTup K tl) (gName j) tYes tbD vs σ H Q := by
  refine hl _ ⟨a, rfl, ⟨xs, ht⟩, fun D hD => ⟨fun i m H' => m = xs.length - i ∧ i ≤ xs.length ∧ Pv D i H', ⟨xs.length, by simp, Nat.zero_le _, h0 D hD⟩, ?_⟩⟩
  rintro i m H2 ⟨rfl, hi, p⟩
  have q := hst D i H2 p a xs ht
  by_cases hlt : i < xs.length
  · refine .inr ⟨⟨xs, xs[i], q, by simp [hlt]⟩, Pv D (i + 1), fun H' p' => ⟨xs.length - (i + 1), by omega, rfl, hlt, p'⟩, fun x H' y => ?_⟩
    obtain ⟨e, y⟩ := y
    subst e
    exact ⟨hj x, hs D i x _ (y xs q) p⟩
  · obtain rfl : i = xs.length := by omega
    exact .inl ⟨⟨xs, q, Nat.le_refl _⟩, hd D H2 p⟩
/-- the people of the crews -/
theorem set_flat {x0 : V} {ts : List (List Str)} {Q : VK} (hS : S2 K H x0 ts) (h8 : ∀ t ∈ ts, t.length ≤ 8) (h64 : ts.length ≤ 64)
    (q : ∀ D l H', H D = none → Same H H' → H' D = some (SetSO P w D l) → l.Nodup → (∀ x, x ∈ l ↔ x ∈ ts.flatten) → Q (.ref D) H') :
    tScN P w (iTup K (tVar 0)) (gName 1) tYes (fun D => tCl (iTup K (tVar 1)) (gName 2) tYes (tEndS P w (tVar 2) D) [2]) [1, 2] [some x0, none, none] H Q := by
  obtain ⟨a, xs, rfl, ha, hp⟩ := hS
  have hxl := prd_len hp
  refine scN_tup (xs := xs) (fun D i H' => H D = none ∧ Same H H' ∧ ∃ l, H' D = some (SetSO P w D l) ∧ l.Nodup ∧ (∀ x, x ∈ l ↔ x ∈ (ts.take i).flatten) ∧ l.length ≤ 8 * i) (fun R hR => ⟨_, rfl, hR⟩) ha (fun _ => rfl)
    (fun D nD => ⟨nD, same_upd nD, [], upd_same, .nil, fun x => by simp, Nat.zero_le _⟩) (fun D i H2 z => .of z.2.1) (fun D i x H1 hi z => ?_) fun D H1 z => ?_
  · obtain ⟨nD, e1, l, hl, nd, hm, hz⟩ := z
    obtain ⟨t, ht, hx⟩ := prd_getL hp hi
    obtain ⟨b, rfl, hb⟩ := hx
    have t8 := h8 t (List.mem_of_getElem? ht)
    have i64 := (List.getElem?_eq_some_iff.mp ht).1
    have hb1 := sameT e1 hb
    refine cl_tupT (a := b) (xs := t.map V.str) (fun k H' => Tk K H1 H' ∧ Same H H' ∧ ∃ l, H' D = some (SetSO P w D l) ∧ l.Nodup ∧ (∀ x, x ∈ l ↔ x ∈ (ts.take i).flatten ∨ x ∈ t.take k) ∧ l.length ≤ 8 * i + k) (fun R hR => ⟨_, rfl, hR⟩) hb1 (fun _ => rfl)
      ⟨fun _ _ z => z, e1, l, hl, nd, fun x => by rw [hm]; simp, hz⟩ (fun k H2 z => z.1) (fun k y H2 hk z => ?_) fun H2 z => ?_
    · obtain ⟨tk, e2, l2, hl2, nd2, hm2, hz2⟩ := z
      have kl := (List.getElem?_eq_some_iff.mp hk).1
      rw [List.length_map] at kl
      rw [List.getElem?_map] at hk
      obtain ⟨n, hn, rfl⟩ := Option.map_eq_some_iff.mp hk
      refine ⟨_, rfl, n, l2, rfl, hl2, by show l2.length + 1 < 4096; omega, tk.upd hl2, same_mut e2 nD, put1 l2 n, upd_same, put1_nd nd2 n, fun x => ?_, ?_⟩
      · rw [put1_mem, hm2, take_snoc hn, List.mem_append, List.mem_singleton]
        exact or_assoc
      · have := put1_len l2 n
        omega
    · obtain ⟨_, e2, l2, hl2, nd2, hm2, hz2⟩ := z
      rw [List.length_map] at hm2 hz2
      rw [List.take_length] at hm2
      refine ⟨nD, e2, l2, hl2, nd2, fun x => ?_, by omega⟩
      rw [hm2, take_snoc ht]
      simp
  · obtain ⟨nD, e1, l, hl, nd, hm, hz⟩ := z
    rw [hxl, List.take_length] at hm
    exact q D l H1 nD e1 hl nd hm
end
end Cb

/-! Sets of sets of people (tuples of texts): fewer than 64. -/
namespace Cb
open PySem PySem.Spec PyProof.Rows L2 PySem.W
/-- at b: a tuple of these texts -/
abbrev Tx (P : Program) (w : World) (h : Heap) (k : List Str) (b : Addr) : Prop := IsTupleKey (strKind P w) h k b
/-- its hash -/
abbrev tg (P : Program) (w : World) (k : List Str) : Int := tupleKeyHash (strKind P w) k
section
variable {P : Program} {w : World} {A : Around} {E : Value → Shared → Prop} {s : Shared}
theorem txs_of {k : List Str} {vs : List Value} (h : ItemsAre (strKind P w) k vs) : ∀ v ∈ vs, ∃ x t, v = Value.str x t := by
  induction h with
  | nil => exact fun v hv => absurd hv (by simp)
  | cons one _ ih =>
    intro v hv
    rcases List.mem_cons.mp hv with rfl | hv
    · obtain ⟨t, e⟩ := Value.isStrOf_shape one
      exact ⟨_, t, e⟩
    · exact ih v hv
theorem aClass_txt (n : Nat) (x : Str) (t : Tok) : ofAClassStatement n (.str x t) = pure false := by cases n <;> rfl
theorem hashBy_txt (n : Nat) (x : Str) (t : Tok) : hashByValue n (.str x t) = pure false := by cases n <;> rfl
theorem Tx.aClass {k : List Str} {b : Addr} {Q : Bool → Shared → Prop} (T : Tx P w s.heap k b) (q : Q false s) : wpAny (model P w) A (ofAClassStatement 8 (.ref b)) Q E s := by
  have ty := T.typeIs
  obtain ⟨o, its, n, ho, _, dt, al⟩ := T
  unfold ofAClassStatement
  refine wpAny_bind (wpAny_typeOf ty ?_)
  dsimp only
  simp only [show (("tuple" : String) == "tuple") = true from by decide, if_true, Bool.not_true, Bool.false_eq_true, if_false]
  try refine wpAny_bind (wpAny_pure ?_)
  try simp only [Bool.not_true, Bool.false_eq_true, if_false]
  show wpAny _ _ (seqItems? (.ref b) >>= _) _ _ s
  refine wpAny_bind (wpAny_seqItems ho dt ?_)
  dsimp only
  refine wpAny_bind ?_
  show wpAny _ _ (forIn its _ _) _ _ s
  rw [← Array.forIn_toList]
  refine wpAny_forIn_list _ (fun more acc st => acc.1 = none ∧ st = s ∧ ∀ v ∈ more, ∃ x t, v = Value.str x t) _ (fun v more acc st hz => ?_) (fun acc st hz => ?_) _ _ ⟨rfl, rfl, txs_of al⟩
  · obtain ⟨z, rfl, each⟩ := hz
    obtain ⟨x, t, rfl⟩ := each v List.mem_cons_self
    rw [aClass_txt]
    refine wpAny_bind (wpAny_pure ?_)
    simp only [Bool.false_eq_true, if_false]
    exact wpAny_pure ⟨rfl, rfl, fun u hu => each u (List.mem_cons_of_mem _ hu)⟩
  · obtain ⟨a1, a2⟩ := acc
    obtain ⟨z, rfl, _⟩ := hz
    simp only at z
    subst z
    exact wpAny_pure q
theorem Tx.hashBy {k : List Str} {b : Addr} {Q : Bool → Shared → Prop} (T : Tx P w s.heap k b) (q : ∀ c, Q c s) : wpAny (model P w) A (hashByValue 8 (.ref b)) Q E s := by
  have ty := T.typeIs
  obtain ⟨o, its, n, ho, _, dt, al⟩ := T
  unfold hashByValue
  refine wpAny_bind (wpAny_specialOf ty PySem.F.slot_tuple_hash.lookup ?_)
  show wpAny _ _ (seqItems? (.ref b) >>= _) _ _ s
  refine wpAny_bind (wpAny_seqItems ho dt (wpAny_bind ?_))
  show wpAny _ _ (forIn its _ _) _ _ s
  rw [← Array.forIn_toList]
  refine wpAny_forIn_list _ (fun more acc st => acc.1 = none ∧ st = s ∧ ∀ v ∈ more, ∃ x t, v = Value.str x t) _ (fun v more acc st hz => ?_) (fun acc st hz => ?_) _ _ ⟨rfl, rfl, txs_of al⟩
  · obtain ⟨z, rfl, each⟩ := hz
    obtain ⟨x, t, rfl⟩ := each v List.mem_cons_self
    rw [hashBy_txt]
    refine wpAny_bind (wpAny_pure ?_)
    simp only [Bool.not_false, if_true]
    exact wpAny_pure (wpAny_pure (q false))
  · obtain ⟨a1, a2⟩ := acc
    obtain ⟨z, rfl, _⟩ := hz
    simp only at z
    subst z
    exact wpAny_pure (q true)
/-- nothing of a search among such is seen -/
theorem unseen {k : List Str} {b : Addr} {Q : Bool → Shared → Prop} (T : Tx P w s.heap k b) {ys : List Value} (all : ∀ y ∈ ys, ∃ l c, y = Value.ref c ∧ Tx P w s.heap l c) (q : Q false s) : wpAny (model P w) A (searchCouldBeSeen (.ref b) ys) Q E s := by
  unfold searchCouldBeSeen
  refine wpAny_bind ?_
  refine wpAny_forIn_list _ (fun more acc st => acc.1 = none ∧ st = s ∧ ∀ y ∈ more, ∃ l c, y = Value.ref c ∧ Tx P w s.heap l c) _ (fun v more acc st hz => ?_) (fun acc st hz => ?_) _ _ ⟨rfl, rfl, all⟩
  · obtain ⟨z, rfl, each⟩ := hz
    obtain ⟨l, c, rfl, U⟩ := each v List.mem_cons_self
    have later : ∀ y ∈ more, ∃ l c, y = Value.ref c ∧ Tx P w st.heap l c := fun u hu => each u (List.mem_cons_of_mem _ hu)
    dsimp only
    by_cases same : (b == c || (carriedByValue (.ref b) && carriedByValue (.ref c))) = true
    · exact wp_if_pos same (wpAny_pure ⟨rfl, rfl, later⟩)
    · refine wp_if_neg same (wpAny_bind (wpAny_eqIsQuiet_tuple T ?_))
      simp only [Bool.not_true, Bool.false_eq_true, if_false]
      refine wpAny_bind (wpAny_eqIsQuiet_tuple U ?_)
      simp only [Bool.not_true, Bool.false_eq_true, if_false]
      refine wpAny_bind (T.aClass ?_)
      simp only [Bool.false_eq_true, if_false]
      refine wpAny_bind (U.aClass ?_)
      simp only [Bool.false_eq_true, if_false]
      exact wpAny_pure ⟨rfl, rfl, later⟩
  · obtain ⟨a1, a2⟩ := acc
    obtain ⟨z, rfl, _⟩ := hz
    simp only at z
    subst z
    exact wpAny_pure q
end
/-! ### the set -/
abbrev AK := Addr × List Str
def rowT (P : Program) (w : World) (p : AK) : Int × Value := (tg P w p.2, Value.ref p.1)
/-- the set at a as it stands: its members in the table's order -/
structure TsR (P : Program) (w : World) (h : Heap) (a : Addr) (L : List AK) (es : Array (Int × Value)) (ep : Nat) (t : SetTable) : Prop where
  ob : ∃ o, h.get? a = some o ∧ o.ExactSet ∧ o.data = .set es ep t
  rw_ : es.toList = L.map (rowT P w)
  tab : TabOk t (L.map fun p => tg P w p.2)
  nd : (L.map (·.2)).Nodup
  tx : ∀ p ∈ L, Tx P w h p.2 p.1
  led : w.params.followText "set-order" = true ∨ t.led = true
  room : L.length * 5 < t.mask * 3
  few : L.length < 64
section
variable {P : Program} {w : World} {A : Around} {E : Value → Shared → Prop} {s : Shared} {a : Addr} {L : List AK} {es : Array (Int × Value)} {ep : Nat} {t : SetTable}
theorem TsR.size {h : Heap} (R : TsR P w h a L es ep t) : es.size = L.length := by rw [← Array.length_toList, R.rw_, List.length_map]
theorem TsR.places {h : Heap} (R : TsR P w h a L es ep t) : t.place.size = L.length := by
  have := R.tab.sz
  rwa [List.length_map] at this
theorem TsR.fits {h : Heap} (R : TsR P w h a L es ep t) : t.fits es.size = true := by
  have h1 := R.places
  have h2 := R.size
  have h3 := R.room
  unfold SetTable.fits SetTable.fill
  rw [R.tab.dm, Bool.and_eq_true, beq_iff_eq, decide_eq_true_eq]
  refine ⟨by omega, ?_⟩
  show t.place.size + 0 ≤ t.mask
  omega
theorem TsR.row {h : Heap} (R : TsR P w h a L es ep t) {i : Nat} {p : AK} (e : L[i]? = some p) : es[i]? = some (tg P w p.2, Value.ref p.1) := by
  rw [← Array.getElem?_toList, R.rw_, List.getElem?_map, e]
  rfl
theorem TsR.stands {h : Heap} (R : TsR P w h a L es ep t) : ¬ t.gaveWay = true := by
  unfold SetTable.gaveWay
  rw [mask_odd R.tab.mok]
  decide
/-- where the c-th step of a hash's way stands -/
abbrev stp (t : SetTable) (g : Int) (c : Nat) : SetTable.Probe := nth t.mask (runAt t.mask (SetTable.bits g % (t.mask + 1)) (SetTable.bits g)) c
theorem stp_more (t : SetTable) (g : Int) (c d : Nat) : nth t.mask (stp t g c) d = stp t g (c + d) := (nth_add t.mask c _ d).symm
theorem stp_way (t : SetTable) (g : Int) (c : Nat) : (stp t g c).j = way t.mask g c := rfl
theorem nth_dummy (m : Nat) : ∀ (n : Nat) (p : SetTable.Probe), p.dummy = none → (nth m p n).dummy = none
  | 0, _, h => h
  | n + 1, p, h => nth_dummy m n (adv m p) (by
    unfold adv
    split
    · exact h
    · exact h)
/-- the search of a set of people, from the c-th step on -/
theorem TsR.seek (R : TsR P w s.heap a L es ep t) {x : Addr} {k : List Str} (T : Tx P w s.heap k x) (hu : A.units < cLine) {N : Nat} (hN : N < 10 * SetTable.turns t.mask) (free : way t.mask (tg P w k) N ∉ t.place.toList)
    (full : ∀ c, c < N → way t.mask (tg P w k) c ∈ t.place.toList) {Q : SetFound → Shared → Prop} (yes : k ∈ L.map (·.2) → Q (.there none) s) (no : k ∉ L.map (·.2) → Q (.free (way t.mask (tg P w k) N) false) s) :
    ∀ (f c : Nat) (st : Option SetTable.Probe), st.getD (t.probeStart (tg P w k)) = stp t (tg P w k) c → c ≤ N → N - c < f →
      (∀ (i : Nat) (p : AK), L[i]? = some p → p.2 = k → ∃ d, c ≤ d ∧ d < N ∧ t.place.toList[i]? = some (way t.mask (tg P w k) d)) → wpAny (model P w) A (setSearchFrom a (.ref x) (tg P w k) true f st) Q E s
  | 0, _, _, _, _, hf, _ => absurd hf (Nat.not_lt_zero _)
  | f + 1, c, st, at0, cN, hf, ahead => by
    obtain ⟨o, ho, ex, dt⟩ := R.ob
    generalize hg : tg P w k = g at *
    have wy : ∀ d, (nth t.mask (stp t g c) d).j = way t.mask g (c + d) := fun d => congrArg SetTable.Probe.j (stp_more t g c d)
    have hs : ∀ (i : Nat) (p : AK), L[i]? = some p → ((es[i]?.map (·.1)).getD 0) = tg P w p.2 := fun i p e => by rw [R.row e]; rfl
    rw [setSearchFrom_succ]
    refine wpAny_bind (wpAny_setState_of ho dt R.fits ?_)
    dsimp only
    refine wp_if_neg R.stands ?_
    try refine wpAny_bind (wpAny_pure ?_)
    rcases go_spec t R.tab.ris R.tab.dm (fun i => (es[i]?.map (·.1)).getD 0) g (10 * SetTable.turns t.mask) (N - c) (stp t g c) (nth_dummy _ _ _ rfl) (by omega) (fun d hd => by rw [wy]; exact full (c + d) (by omega)) (by rw [wy, Nat.add_sub_cancel' cN]; exact free) with ⟨d, i, dN, li, hh, before, found⟩ | ⟨before, found⟩
    · -- a row with this hash
      rw [wy] at li
      have pr : t.probe (fun i => (es[i]?.map (·.1)).getD 0) g (st.getD (t.probeStart g)) = some (.candidate (way t.mask g (c + d)) i (stp t g (c + (d + 1)))) := by
        rw [at0, ← wy, ← stp_more]
        exact found
      rw [pr]
      dsimp only
      have iL : i < L.length := by
        have h1 := (List.getElem?_eq_some_iff.mp li).1
        rw [Array.length_toList] at h1
        have h2 := R.places
        omega
      obtain ⟨p, hp⟩ : ∃ p, L[i]? = some p := ⟨L[i], List.getElem?_eq_getElem iL⟩
      have pL := List.mem_of_getElem? hp
      have tail : wpAny (model P w) A (searchRest a (.ref x) g true f es t (way t.mask g (c + d)) i (stp t g (c + (d + 1)))) Q E s := by
        unfold searchRest
        rw [R.row hp]
        dsimp only
        refine wpAny_bind (wpAny_holding (wpAny_eqBool_tuple hu (R.tx p pL) T (wpAny_bind (wpAny_setState_of ho dt R.fits ?_))))
        dsimp only
        by_cases same : p.2 = k
        · exact wp_if_pos (by simp [same]) (wpAny_pure (yes (List.mem_map.mpr ⟨p, pL, same⟩)))
        · refine wp_if_neg (by simp [same]) ?_
          try refine wpAny_bind (wpAny_pure ?_)
          rw [sameMem]
          dsimp only
          have lv : t.slot (way t.mask g (c + d)) = .live i := slot_live R.tab.ris li
          simp only [if_true, lv, R.row hp]
          refine wpAny_bind (wpAny_isSame_ref_self (wpAny_bind (wpAny_pure ?_)))
          simp only [if_true]
          refine wp_if_neg (by simp [same]) ?_
          subst hg
          refine R.seek T hu hN free full yes no f (c + (d + 1)) _ rfl (by omega) (by omega) fun i0 p0 h0 k0 => ?_
          obtain ⟨d0, b1, b2, b3⟩ := ahead i0 p0 h0 k0
          have far : c + d < d0 := by
            rcases Nat.lt_trichotomy d0 (c + d) with z | z | z
            · exact absurd ((hs i0 p0 h0).trans (congrArg (tg P w) k0)) (before (d0 - c) i0 (by omega) (by rw [wy, Nat.add_sub_cancel' b1]; exact b3))
            · rw [z] at b3
              have lv2 := slot_live R.tab.ris b3
              rw [lv] at lv2
              injection lv2 with e
              rw [← e, hp] at h0
              exact absurd ((congrArg Prod.snd (Option.some.inj h0)).trans k0) same
            · exact z
          exact ⟨d0, by omega, b2, b3⟩
      by_cases led : t.led = true
      · refine wp_if_neg (by simp [led]) ?_
        try refine wpAny_bind (wpAny_pure ?_)
        exact tail
      · refine wp_if_pos (by simp [led]) (wpAny_bind (unseen T (fun y hy => ?_) ?_))
        · obtain ⟨e, he, rfl⟩ := List.mem_map.mp hy
          have he2 : e ∈ es.toList := by
            have : e ∈ es ∧ e.1 = g := by simpa using he
            simpa using this.1
          rw [R.rw_] at he2
          obtain ⟨p2, m2, rfl⟩ := List.mem_map.mp he2
          exact ⟨p2.2, p2.1, rfl, R.tx p2 m2⟩
        · refine wp_if_neg (by decide) ?_
          try refine wpAny_bind (wpAny_pure ?_)
          exact tail
    · -- the free place
      have pr : t.probe (fun i => (es[i]?.map (·.1)).getD 0) g (st.getD (t.probeStart g)) = some (.empty (way t.mask g N) none) := by
        have e2 : way t.mask g N = (nth t.mask (stp t g c) (N - c)).j := by rw [wy, Nat.add_sub_cancel' cN]
        rw [at0, e2]
        exact found
      rw [pr]
      dsimp only
      refine wpAny_pure (no fun m => ?_)
      obtain ⟨p0, m0, k0⟩ := List.mem_map.mp m
      obtain ⟨i0, l0, e0⟩ := List.getElem_of_mem m0
      have h0 : L[i0]? = some p0 := by rw [List.getElem?_eq_getElem l0, e0]
      obtain ⟨d0, b1, b2, b3⟩ := ahead i0 p0 h0 k0
      subst hg
      exact before (d0 - c) i0 (by omega) (by rw [wy, Nat.add_sub_cancel' b1]; exact b3) ((hs i0 p0 h0).trans (congrArg (tg P w) k0))
/-- as adding asks -/
theorem TsR.search (R : TsR P w s.heap a L es ep t) {x : Addr} {k : List Str} (T : Tx P w s.heap k x) (hu : A.units < cLine) {Q : SetFound → Shared → Prop} (yes : k ∈ L.map (·.2) → Q (.there none) s)
    (no : ∀ N, k ∉ L.map (·.2) → way t.mask (tg P w k) N ∉ t.place.toList → (∀ c, c < N → way t.mask (tg P w k) c ∈ t.place.toList) → Q (.free (way t.mask (tg P w k) N) false) s) : wpAny (model P w) A (setSearch a (.ref x) (tg P w k) true) Q E s := by
  have rm := R.room
  obtain ⟨N, hN, free, full⟩ := R.tab.first (by rw [List.length_map]; omega) (tg P w k)
  have small : N < 100000 := by
    have : 10 * SetTable.turns t.mask ≤ 1420 := by
      unfold SetTable.turns
      rcases R.tab.mok with e | e | e <;> omega
    omega
  unfold setSearch
  refine R.seek T hu hN free full yes (fun m => no N m free full) 100000 0 none rfl (Nat.zero_le _) (by omega) fun i p e pk => ?_
  have lp := R.places
  have iL := (List.getElem?_eq_some_iff.mp e).1
  have li : t.place.toList[i]? = some (t.place.toList[i]'(by rw [Array.length_toList]; omega)) := List.getElem?_eq_getElem _
  obtain ⟨c, cN, z⟩ := R.tab.before (h := tg P w k) free (i := i) (by rw [List.getElem?_map, e, ← pk]; rfl) li
  exact ⟨c, Nat.zero_le _, cN, by rw [li, z]⟩
end
end Cb

namespace Cb
open PySem PySem.Spec PyProof.Rows L2 PySem.W
theorem picked : ∀ {α : Type} (L : List α) (n : Nat), n ≤ L.length → (List.range n).filterMap (fun i => L[i]?) = L.take n
  | _, _, 0, _ => rfl
  | _, L, n + 1, h => by
    have lt : n < L.length := h
    rw [List.range_succ, List.filterMap_append, picked L n (Nat.le_of_lt lt), List.take_add_one, List.filterMap_cons_some (List.getElem?_eq_getElem lt), List.getElem?_eq_getElem lt]
    rfl
section
variable {P : Program} {w : World} {A : Around} {E : Value → Shared → Prop} {s : Shared} {a : Addr} {L : List AK} {es : Array (Int × Value)} {ep : Nat} {t : SetTable}
theorem tab_off {hs : List Int} (T : TabOk t hs) (b : Bool) : TabOk (if b = true then t else { t with plain := false }) hs := by
  cases b with
  | true => exact T
  | false => exact ⟨T.ris, T.dm, T.sz, T.mok, T.bd, T.reach⟩
/-- the rows in another order -/
theorem rows_by (ord : Array Nat) (hr : es.toList = L.map (rowT P w)) (hp : ord.toList.Perm (List.range L.length)) :
    ∃ L2 : List AK, (ord.filterMap (es[·]?)).toList = L2.map (rowT P w) ∧ L2.Perm L ∧ (L2.map fun p => tg P w p.2) = ord.toList.map fun i => (es.map (·.1)).getD i 0 := by
  have one : ∀ i, es[i]? = (L[i]?).map (rowT P w) := fun i => by rw [← Array.getElem?_toList, hr, List.getElem?_map]
  have third : ∀ l : List Nat, (∀ i ∈ l, i < L.length) → ((l.filterMap fun i => L[i]?).map fun p => tg P w p.2) = l.map fun i => (es.map (·.1)).getD i 0 := by
    intro l
    induction l with
    | nil => exact fun _ => rfl
    | cons i l ih =>
      intro h
      have hi := h i List.mem_cons_self
      rw [List.filterMap_cons_some (List.getElem?_eq_getElem hi), List.map_cons, List.map_cons, ih fun j hj => h j (List.mem_cons_of_mem _ hj)]
      congr 1
      have e : (es.map (·.1))[i]? = some (tg P w (L[i]).2) := by
        rw [Array.getElem?_map, one, List.getElem?_eq_getElem hi]
        rfl
      simp [Array.getD_eq_getD_getElem?, e]
  refine ⟨ord.toList.filterMap fun i => L[i]?, ?_, ?_, third _ fun i hi => List.mem_range.mp (hp.mem_iff.mp hi)⟩
  · have e : (fun i => es[i]?) = fun i => (L[i]?).map (rowT P w) := funext one
    rw [List.map_filterMap, ← e]
    simp
  · refine (hp.filterMap _).trans ?_
    rw [picked L L.length (Nat.le_refl _), List.take_length]
theorem Tx.same {h h' : Heap} {k : List Str} {b : Addr} {o : Obj} (T : Tx P w h k b) (ho : h.get? a = some o) (dt : o.data = .set es ep t) (sb : Heap.SameBut a h h') : Tx P w h' k b := by
  obtain ⟨o2, its, n, h2, c2, d2, al⟩ := T
  have ne : b ≠ a := fun e => by
    rw [e, ho] at h2
    cases h2
    rw [dt] at d2
    cases d2
  exact ⟨o2, its, n, (sb.2 b ne).trans h2, c2, d2, al⟩
theorem Tx.keep {h h' : Heap} {k : List Str} {b : Addr} (T : Tx P w h k b) (kp : ∀ c o, h.get? c = some o → h'.get? c = some o) : Tx P w h' k b := by
  obtain ⟨o, its, n, ho, z⟩ := T
  exact ⟨o, its, n, kp b o ho, z⟩
/-- the table laid again, larger -/
theorem relay_T {o : Obj} (ho : s.heap.get? a = some o) (ex : o.ExactSet) (dt : o.data = .set es ep t) (hr : es.toList = L.map (rowT P w)) (pz : t.place.size = es.size) (dm : t.dummies = #[]) (fl : es.size ≤ t.mask) (nd : (L.map (·.2)).Nodup)
    (tx : ∀ p ∈ L, Tx P w s.heap p.2 p.1) (ld : w.params.followText "set-order" = true ∨ t.led = true) (few : L.length < 64) {want M : Nat} (hw : SetTable.sizeAbove want - 1 = M) (hM : MaskOk M) (h128 : SetTable.sizeAbove want ≤ 128) (room : L.length * 5 < M * 3)
    {Q : Unit → Shared → Prop} (q : ∀ h' L' es' ep' t', Heap.SameBut a s.heap h' → TsR P w h' a L' es' ep' t' → L'.Perm L → Q () { s with heap := h' }) : wpAny (model P w) A (setRelay a want) Q E s := by
  have eL : es.size = L.length := by rw [← Array.length_toList, hr, List.length_map]
  have ft : t.fits es.size = true := by
    unfold SetTable.fits SetTable.fill
    rw [dm, Bool.and_eq_true, beq_iff_eq, decide_eq_true_eq]
    refine ⟨pz, ?_⟩
    show t.place.size + 0 ≤ t.mask
    omega
  obtain ⟨t2, ord, e, perm, T2, m2, l2, p2, d2⟩ := relaid_ok t (hs := es.map (·.1)) (wanted := want) hw hM (by rw [Array.size_map, eL]; omega)
  rw [Array.size_map, eL] at perm
  obtain ⟨L2, r1, r2, r3⟩ := rows_by (P := P) (w := w) ord hr perm
  rw [← r3] at T2
  have z2 : (ord.filterMap (es[·]?)).size = es.size := by rw [← Array.length_toList, r1, List.length_map, r2.length_eq, eL]
  rw [setRelay_eq]
  refine wpAny_bind (wpAny_setState_of ho dt ft ?_)
  dsimp only
  refine wp_if_neg (by rw [sizeLine_eq]; omega) ?_
  try refine wpAny_bind (wpAny_pure ?_)
  rw [e]
  dsimp only
  refine wpAny_bind (wp_if_neg (by rw [z2]; simp) ?_)
  try refine wpAny_bind (wpAny_pure ?_)
  refine wpAny_pure ?_
  dsimp only
  have sb : Heap.SameBut a s.heap (s.heap.update a (Obj.putSet (ord.filterMap (es[·]?)) t2)) := .update ..
  refine wpAny_storeSet_of ho dt (q _ L2 _ (ep + 1) t2 sb ⟨⟨_, store_at ho dt, ⟨ex.1, ex.2.1, ex.2.2⟩, rfl⟩, r1, T2, (r2.map (·.2)).nodup_iff.mpr nd, fun p hp => (tx p (r2.mem_iff.mp hp)).same ho dt sb, by rw [l2]; exact ld, by rw [r2.length_eq, m2]; exact room, by rw [r2.length_eq]; exact few⟩ r2) (by rw [z2, eL, sizeLine_eq]; omega)
theorem off_mask (b : Bool) : (if b = true then t else { t with plain := false }).mask = t.mask := by cases b <;> rfl
theorem off_led (b : Bool) : (if b = true then t else { t with plain := false }).led = t.led := by cases b <;> rfl
theorem off_place (b : Bool) : (if b = true then t else { t with plain := false }).place = t.place := by cases b <;> rfl
theorem off_full (b : Bool) : (if b = true then t else { t with plain := false }).tooFull = t.tooFull := by cases b <;> rfl
theorem put_any {α : Type} (L : List α) (p : Nat) (x : α) : (L.take p ++ x :: L.drop p).Perm (x :: L) := by
  have h : (L.take p ++ x :: L.drop p).Perm (x :: (L.take p ++ L.drop p)) := List.perm_middle
  rwa [List.take_append_drop] at h
theorem by_val {k : List Str} {b : Addr} (T : Tx P w s.heap k b) {α : Type} {c : Prop} [Decidable c] {K : Bool → Sem α} {Q : α → Shared → Prop} (h : ∀ bv, wpAny (model P w) A (K bv) Q E s) :
    wpAny (model P w) A (if c then (hashByValue 8 (.ref b) >>= K) else (pure true >>= K)) Q E s := by
  by_cases z : c
  · exact wp_if_pos z (wpAny_bind (T.hashBy h))
  · exact wp_if_neg z (wpAny_bind (wpAny_pure (h true)))
/-- one more -/
theorem add_T (R : TsR P w s.heap a L es ep t) {x : Addr} {k : List Str} (T : Tx P w s.heap k x) (hu : A.units < cLine) (few2 : L.length + 1 < 64) {Q : Bool → Shared → Prop}
    (q : ∀ b h' L' es' ep' t', Heap.SameBut a s.heap h' → TsR P w h' a L' es' ep' t' → (k ∈ L.map (·.2) → L' = L) → (k ∉ L.map (·.2) → L'.Perm ((x, k) :: L)) → Q b { s with heap := h' }) : wpAny (model P w) A (setAddHashed a (.ref x) (tg P w k)) Q E s := by
  obtain ⟨o, ho, ex, dt⟩ := R.ob
  have eL := R.size
  have rm := R.room
  unfold setAddHashed
  refine wpAny_holding ?_
  rw [show (100000 : Nat) = 99999 + 1 from rfl, setAddHashedIn_succ]
  refine wpAny_bind (wpAny_setState_of ho dt R.fits ?_)
  dsimp only
  refine wp_if_neg (by simp [byScan, Value.scannable]) ?_
  try refine wpAny_bind (wpAny_pure ?_)
  refine wpAny_bind (R.search T hu (fun m => ?_) fun N nm free full => ?_)
  · dsimp only
    exact wpAny_pure (q false s.heap L es ep t (.refl a s.heap) R (fun _ => rfl) fun z => absurd m z)
  · dsimp only
    refine wpAny_bind (wpAny_setState_of ho dt R.fits ?_)
    dsimp only
    obtain ⟨q1, q2, q3, q4, q5, q6, q7, q8, q9⟩ := R.tab.put free full
    generalize hpt : t.put (way t.mask (tg P w k) N) = pt at q1 q3 q4 q5 q9 ⊢
    obtain ⟨t1, at1⟩ := pt
    dsimp only at q1 q3 q4 q5 q9 ⊢
    subst q1
    refine by_val T fun bv => ?_
    have inn : (SetTable.insertAt es (SetTable.below t.place (way t.mask (tg P w k) N)) (tg P w k, Value.ref x)).toList = (L.take (SetTable.below t.place (way t.mask (tg P w k) N)) ++ (x, k) :: L.drop (SetTable.below t.place (way t.mask (tg P w k) N))).map (rowT P w) := by
      rw [SetTable.toList_insertAt, R.rw_, List.map_append, List.map_cons, List.map_take, List.map_drop]
      rfl
    generalize SetTable.below t.place (way t.mask (tg P w k) N) = p at q2 q3 inn ⊢
    have pm := put_any L p (x, k)
    have hlen : (L.take p ++ (x, k) :: L.drop p).length = L.length + 1 := pm.length_eq
    have hh : (L.take p ++ (x, k) :: L.drop p).map (fun p => tg P w p.2) = (L.map fun p => tg P w p.2).take p ++ tg P w k :: (L.map fun p => tg P w p.2).drop p := by rw [List.map_append, List.map_cons, List.map_take, List.map_drop]
    rw [← hh] at q3
    have nd1 : ((L.take p ++ (x, k) :: L.drop p).map (·.2)).Nodup := (pm.map (·.2)).nodup_iff.mpr (by
      rw [List.map_cons]
      exact List.nodup_cons.mpr ⟨nm, R.nd⟩)
    have es1z : (SetTable.insertAt es p (tg P w k, Value.ref x)).size = L.length + 1 := by rw [← Array.length_toList, inn, List.length_map, hlen]
    generalize SetTable.insertAt es p (tg P w k, Value.ref x) = es1 at inn es1z ⊢
    generalize L.take p ++ (x, k) :: L.drop p = L1 at pm hlen q3 nd1 inn
    -- the table as it is stored
    have T1 := tab_off q3 bv
    have em := off_mask (t := t1) bv
    have el := off_led (t := t1) bv
    have ep1 := off_place (t := t1) bv
    have ef := off_full (t := t1) bv
    generalize (if bv = true then t1 else { t1 with plain := false }) = t2 at T1 em el ep1 ef ⊢
    refine wpAny_bind (wpAny_storeSet_of ho dt ?_ (by rw [es1z, sizeLine_eq]; omega))
    have sb : Heap.SameBut a s.heap (s.heap.update a (Obj.putSet es1 t2)) := .update ..
    have ho1 := store_at (es' := es1) (t' := t2) ho dt
    generalize s.heap.update a (Obj.putSet es1 t2) = h1 at sb ho1 ⊢
    have tx1 : ∀ p ∈ L1, Tx P w h1 p.2 p.1 := fun p hp => by
      rcases List.mem_cons.mp (pm.mem_iff.mp hp) with e | hp
      · rw [e]
        exact T.same ho dt sb
      · exact (R.tx p hp).same ho dt sb
    have ld1 : w.params.followText "set-order" = true ∨ t2.led = true := by
      rw [el, q5]
      exact R.led
    have ex1 : ({ o with data := .set es1 (ep + 1) t2 } : Obj).ExactSet := ⟨ex.1, ex.2.1, ex.2.2⟩
    have fullIs : t1.tooFull = decide ((L.length + 1) * 5 ≥ t1.mask * 3) := by
      unfold SetTable.tooFull
      rw [q9, List.length_map]
    by_cases hf : t2.tooFull = true
    · have hf1 := hf
      rw [ef, fullIs, decide_eq_true_eq, q4] at hf1
      have two : (t.mask = 7 ∧ L.length = 4) ∨ (t.mask = 31 ∧ L.length = 18) := by
        rcases R.tab.mok with e | e | e
        · exact .inl ⟨e, by rw [e] at hf1 rm; omega⟩
        · exact .inr ⟨e, by rw [e] at hf1 rm; omega⟩
        · exfalso
          rw [e] at hf1
          omega
      have go : ∀ M, SetTable.sizeAbove (SetTable.grown (L.length + 1)) - 1 = M → MaskOk M → SetTable.sizeAbove (SetTable.grown (L.length + 1)) ≤ 128 → (L.length + 1) * 5 < M * 3 →
          wpAny (model P w) A (setRelay a (SetTable.grown (L.length + 1))) (fun _ s2 => wpAny (model P w) A (pure true) Q E s2) E { s with heap := h1 } := fun M h1' h2' h3' h4' => by
        refine relay_T (s := { s with heap := h1 }) ho1 ex1 rfl inn ?_ T1.dm ?_ nd1 tx1 ld1 (by rw [hlen]; exact few2) h1' h2' h3' (by rw [hlen]; exact h4') fun h2 L2 es2 e2 t3 sb2 R2 pm2 => ?_
        · have := T1.sz
          rw [List.length_map, hlen] at this
          rw [this, es1z]
        · rw [es1z, em, q4]
          rcases two with ⟨z1, z2⟩ | ⟨z1, z2⟩ <;> omega
        · exact wpAny_pure (q true h2 L2 es2 e2 t3 (sb.trans sb2) R2 (fun z => absurd z nm) fun _ => pm2.trans pm)
      have fin : wpAny (model P w) A (setRelay a (SetTable.grown (L.length + 1))) (fun _ s2 => wpAny (model P w) A (pure true) Q E s2) E { s with heap := h1 } := by
        rcases two with ⟨_, e2⟩ | ⟨_, e2⟩
        · exact go 31 (by rw [e2, size_20]) (.inr (.inl rfl)) (by rw [e2, size_20]; decide) (by omega)
        · exact go 127 (by rw [e2, size_76]) (.inr (.inr rfl)) (by rw [e2, size_76]; decide) (by omega)
      rw [eL]
      first
        | (refine wpAny_bind ?_; exact wp_if_pos (by simp [hf]) fin)
        | (refine wp_if_pos (by simp [hf]) ?_; exact wpAny_bind fin)
    · have hf1 := hf
      rw [ef, fullIs, decide_eq_true_eq, q4] at hf1
      have R1 : TsR P w h1 a L1 es1 (ep + 1) t2 := ⟨⟨_, ho1, ex1, rfl⟩, inn, T1, nd1, tx1, ld1, by rw [hlen, em, q4]; omega, by rw [hlen]; exact few2⟩
      have fin : wpAny (model P w) A (pure true) Q E { s with heap := h1 } := wpAny_pure (q true h1 L1 es1 (ep + 1) t2 sb R1 (fun z => absurd z nm) fun _ => pm)
      first
        | (refine wp_if_neg (by simp [hf]) ?_; exact fin)
        | (refine wpAny_bind ?_; refine wp_if_neg (by simp [hf]) ?_; exact wpAny_pure fin)
end
end Cb

/-! set(xs), whatever the items are: told by what is known turn by turn. -/
namespace Cb
open PySem PySem.Spec PyProof.Rows L2 PySem.W
section
variable {P : Program} {w : World} {A : Around} {E : Value → Shared → Prop} {s : Shared}
/-- a set that is new -/
abbrev set0 (w : World) : Obj := { cls := .type "set", dict := none, data := .set #[] 0 (.fresh 0 0 (!w.params.followText "set-order")) }
theorem set_loop {I S : Addr} {fp wr : List Addr} {G : Array GenState → Array GenState → Prop} {n : Nat} {Pv : Nat → Value → Prop} {St : Nat → Shared → Prop} {R : Result → Shared → Prop} (W : WalksS P w A.in1 I fp wr G n Pv St) (out : S ∉ fp) (J : Nat → Heap → Prop)
    (keep : ∀ i h h', J i h → (∀ b o, b ∉ wr → h.get? b = some o → h'.get? b = some o) → J i h')
    (add : ∀ i v (st : Shared) (Q : Bool → Shared → Prop) (E : Value → Shared → Prop), Pv i v → i < n → J i st.heap → (∀ b h' tk, st.toks ≤ tk → Heap.SameBut S st.heap h' → J (i + 1) h' → Q b { st with heap := h', toks := tk }) → wpAny (model P w) A.in1 (setAdd S v) Q E st) :
    ∀ (m i : Nat) (s : Shared), n - i = m → i ≤ n → St i s → J i s.heap → (∀ s', Moved (S :: wr) G s s' → J n s'.heap → R (.ok (.ret .none)) s') → codeAny (model P w) A (.builtin "set.update.loop" ⟨[.ref S, .ref I], []⟩) R s := by
  have sub : ∀ b ∈ wr, b ∈ S :: wr := fun b hb => List.mem_cons_of_mem _ hb
  intro m
  induction m with
  | zero =>
    intro i s hm hi st j r
    obtain rfl : i = n := by omega
    refine codeAny_builtin F.entry_set_update_loop ?_
    rw [Around.under_plainId F.plain_set_update_loop _]
    show wpAny _ A.in1 (pyNext (.ref I) >>= _) _ _ s
    refine wpAny_bind (W.done s _ _ st fun s1 mv => ?_)
    show wpAny _ A.in1 (ret Value.none) _ _ s1
    exact wpAny_pure (r s1 (mv.mono sub) (keep _ _ _ j fun b o nb e => mv.heap b o nb e))
  | succ m ih =>
    intro i s hm hi st j r
    have lt : i < n := by omega
    refine codeAny_builtin F.entry_set_update_loop ?_
    rw [Around.under_plainId F.plain_set_update_loop _]
    show wpAny _ A.in1 (pyNext (.ref I) >>= _) _ _ s
    refine wpAny_bind (W.item i s _ _ lt st fun v s1 pv st1 mv => ?_)
    show wpAny _ A.in1 (holding [v] (setAdd S v) >>= _) _ _ s1
    refine wpAny_bind (wpAny_holding (add i v s1 _ _ pv lt (keep _ _ _ j fun b o nb e => mv.heap b o nb e) fun b h2 tk le sb j2 => ?_))
    refine wpAny_pure ⟨plainId_quiet F.plain_set_update_loop _, ih (i + 1) _ (by omega) lt (W.frame _ s1 _ _ st1 le fun c hc o e => ?_) j2 fun s3 mv3 j3 => ?_⟩
    · exact (sb.2 c fun z => out (by rw [← z]; exact hc)).trans e
    · refine r s3 (Moved.trans W.gtrans ((mv.mono sub).then_heap le fun c o hc e => ?_) mv3) j3
      exact (sb.2 c fun z => hc (by rw [z]; exact List.mem_cons_self)).trans e
set_option maxHeartbeats 8000000 in
theorem call_set_of {l : Addr} {items : Array Value} (hh : A.handled = none) (hl : s.heap.IsList l items) (J : Nat → Heap → Prop)
    (j0 : ∀ h, (∀ b o, s.heap.get? b = some o → h.get? b = some o) → h.get? s.heap.objs.size = some (set0 w) → J 0 h) (keep : ∀ i h h', J i h → (∀ b o, b ≠ s.heap.objs.size + 1 → h.get? b = some o → h'.get? b = some o) → J i h')
    (add : ∀ (B : Around) i v (st : Shared) (Q : Bool → Shared → Prop) (E : Value → Shared → Prop), B.units ≤ A.units + 3 → items[i]? = some v → J i st.heap → (∀ b h' tk, st.toks ≤ tk → Heap.SameBut s.heap.objs.size st.heap h' → J (i + 1) h' → Q b { st with heap := h', toks := tk }) → wpAny (model P w) B (setAdd s.heap.objs.size v) Q E st)
    {Q : Value → Shared → Prop} (q : ∀ (h' : Heap) (tk : Nat), J items.size h' → (∀ b o, s.heap.get? b = some o → h'.get? b = some o) → Q (.ref s.heap.objs.size) { s with heap := h', toks := tk }) : wpAny (model P w) A (call (.type "set") [.ref l]) Q E s := by
  obtain ⟨c, tl, hmro⟩ := PySem.F.called_set.mro
  have hmade := PySem.F.called_set.made
  have hsub := PySem.F.called_set.sub
  refine wpAny_call (codeAny_of_tree ?_)
  show wpAny _ _ (callAny (.type "set") _) _ _ _
  refine wpAny_pure ⟨Code.quiet_builtin _ (by decide +kernel), codeAny_builtin PySem.F.entry_type_call ?_⟩
  rw [Around.under_plain (weight_type_call_type "set" [.ref l] []) rfl]
  have h1 := PySem.F.called_set.notType
  have h2 := PySem.F.called_set.canCreate
  have hct := PySem.F.typeCall_set_1 (.ref l)
  repeat any_goals first | assumption | wp_step
  refine codeAny_mono (code_set_led1 (.ref l) (E := E) (Q₁ := fun ob s1 => ob = .ref s.heap.objs.size ∧ s1 = { s with heap := s.heap.push (set0 w) }) ⟨rfl, rfl⟩) fun r s1 hr => ?_
  cases r with
  | error e => exact hr
  | ok fl =>
    cases fl with
    | ret ob =>
      obtain ⟨rfl, rfl⟩ := hr
      have hS : (s.heap.push (set0 w)).get? s.heap.objs.size = some (set0 w) := Heap.get?_push_size _ rfl
      have hT : Shared.TypeIs { s with heap := s.heap.push (set0 w) } (.ref s.heap.objs.size) "set" := ⟨_, hS, rfl⟩
      have hli := PySem.F.called_set.init.lookup
      have hbi := PySem.F.called_set.init.bind (.ref s.heap.objs.size)
      repeat any_goals first | assumption | wp_step
      refine codeAny_mono (codeAny_call_builtin (R := wants (fun r s2 => r = .none ∧ ∃ h' tk, s2 = { s with heap := h', toks := tk } ∧ J items.size h' ∧ ∀ b o, s.heap.get? b = some o → h'.get? b = some o) E) PySem.F.called_set.init.plain PySem.F.entry_set_init (check_set_init_1 hT ?_)) fun r2 s2 hr2 => ?_
      · obtain ⟨ol, hol, hcl, nl, hdl⟩ := hl
        obtain ⟨kcls, kdict, kdata, kslots⟩ := ol
        simp only at hcl hdl
        subst hcl hdl
        have hol2 : (s.heap.push (set0 w)).get? l = some { cls := .type "list", dict := kdict, data := .seq items nl, slots := kslots } := Heap.get?_push_of_some _ hol
        have n1 := PySem.F.sub_list_set
        have n2 := PySem.F.sub_list_frozenset
        have n3 : (Value.type "list" == Value.type "dict") = false := by decide
        have hl2 : (s.heap.push (set0 w)).IsList l items := ⟨_, hol2, rfl, nl, rfl⟩
        unfold Builtin.«set.__init__» noKeywords Builtin.Frozenset.updateFrom
        generalize hPI : pyIter = PI
        wp_walk
        subst hPI
        refine wpAny_pyIter_list hl2 ?_
        refine wpAny_bind (wpAny_runValue ?_)
        have lS : l < s.heap.objs.size := Heap.lt_size hol
        have z1 : (s.heap.push (set0 w)).objs.size = s.heap.objs.size + 1 := Heap.size_push ..
        have nI : l ≠ (s.heap.push (set0 w)).objs.size := by
          rw [z1]
          exact Nat.ne_of_lt (Nat.lt_succ_of_lt lS)
        have calm : A.in1.in1.in1.handled = none := by simp [hh]
        have outS : s.heap.objs.size ∉ [(s.heap.push (set0 w)).objs.size, l] := by
          rw [z1]
          intro z
          rcases List.mem_cons.mp z with e | z
          · exact absurd e (Nat.ne_of_lt (Nat.lt_succ_self _))
          · exact absurd (List.mem_singleton.mp z) (Nat.ne_of_gt lS)
        refine set_loop (A := A.in1.in1) ((Walks.list calm _ l nI items).toS) outS J (fun i h h' j kp => keep i h h' j fun b o nb e => kp b o (fun z => nb ((List.mem_singleton.mp z).trans z1)) e) (fun i v st Q E pv _ j k => add _ i v st Q E (Nat.le_refl _) pv j k) (items.size - 0) 0 _ rfl (Nat.zero_le _)
          ⟨⟨_, Heap.get?_push_size _ rfl, rfl, rfl⟩, hl2.push _⟩ (j0 _ (fun b o e => Heap.get?_push_of_some _ (Heap.get?_push_of_some _ e)) (Heap.get?_push_of_some _ hS)) fun s' mv j => ?_
        obtain ⟨h', g2, d2, tk2, os2⟩ := s'
        have eg : g2 = s.gens := mv.gens
        have ed : d2 = s.drawn := mv.drawn
        have eo : os2 = s.os := mv.os
        subst eg ed eo
        show wpAny _ _ _ _ _ _
        refine wpAny_pure ?_
        show wpAny _ _ (ret Value.none) _ _ _
        refine wpAny_pure ⟨rfl, h', tk2, rfl, j, fun b o e => ?_⟩
        have lt := Heap.lt_size e
        refine mv.heap b o (fun z => ?_) (Heap.get?_push_of_some _ (Heap.get?_push_of_some _ e))
        rcases List.mem_cons.mp z with z | z
        · exact absurd z (Nat.ne_of_lt lt)
        · rw [List.mem_singleton.mp z, z1] at lt
          exact absurd (Nat.lt_of_succ_lt lt) (Nat.lt_irrefl _)
      · cases r2 with
        | error e => exact hr2
        | ok fl2 =>
          cases fl2 with
          | ret r =>
            obtain ⟨rfl, h', tk, rfl, j, kp⟩ := hr2
            repeat any_goals first | assumption | wp_step
            exact q _ _ j kp
          | _ => exact hr2.elim
    | _ => exact hr.elim
end
end Cb

/-! What a repr of nested data comes to: bounds, data by data. -/
namespace Cb
open PySem PySem.Spec PyProof.Rows L2 PySem.W
theorem textFrom_le : ∀ (ts : List Str) (k : Nat) (acc : Str), (textFrom k acc ts).length ≤ acc.length + piled ts
  | [], k, acc => by show acc.length ≤ acc.length + _; omega
  | t :: r, k, acc => by
    have h := textFrom_le r (k + 1) (acc ++ (if k > 0 then ", " else "" : String) ++ t)
    have e : (acc ++ (if k > 0 then ", " else "" : String) ++ t).length = acc.length + (if k > 0 then 2 else 0) + t.length := by
      rw [strLen_append, strLen_append]
      split <;> rfl
    have e2 : (if k > 0 then 2 else 0 : Nat) ≤ 2 := by split <;> omega
    rw [piled_cons]
    show (textFrom (k + 1) _ r).length ≤ _
    omega
theorem list_text (ts : List Str) : (listText ts).length ≤ piled ts + 2 := by
  unfold listText
  rw [strLen_append]
  have h := textFrom_le ts 0 "["
  have e1 : ((("[" : String) : Str)).length = 1 := rfl
  have e2 : ((("]" : String) : Str)).length = 1 := rfl
  omega
/-- data whose repr is told: its depth, its length -/
structure Nice (m L : Nat) (d : PD) : Prop where
  sh : d.showable = true
  nd : d.hasDict = false
  dp : d.depth ≤ m
  len : d.shown.length ≤ L
theorem Nice.mono {m L m' L' : Nat} {d : PD} (n : Nice m L d) (h : m ≤ m') (h2 : L ≤ L') : Nice m' L' d := ⟨n.sh, n.nd, Nat.le_trans n.dp h, Nat.le_trans n.len h2⟩
theorem nice_depth {m : Nat} : ∀ {ds : List PD}, (∀ d ∈ ds, d.depth ≤ m) → PyData.depthAll ds ≤ m
  | [], _ => by simp [PyData.depthAll]
  | d :: ds, h => by
    rw [PyData.depthAll]
    exact Nat.max_le.mpr ⟨h d List.mem_cons_self, nice_depth fun e he => h e (List.mem_cons_of_mem _ he)⟩
theorem nice_dict : ∀ {ds : List PD}, (∀ d ∈ ds, d.hasDict = false) → PyData.hasDictAll ds = false
  | [], _ => by simp [PyData.hasDictAll]
  | d :: ds, h => by
    rw [PyData.hasDictAll, h d List.mem_cons_self, nice_dict fun e he => h e (List.mem_cons_of_mem _ he)]
    rfl
theorem nice_piled {L : Nat} {ds : List PD} (h : ∀ d ∈ ds, d.shown.length ≤ L) : piled (ds.map PyData.shown) ≤ ds.length * (L + 2) := by
  have := piled_le L (ts := ds.map PyData.shown) fun t ht => by
    obtain ⟨d, hd, rfl⟩ := List.mem_map.mp ht
    exact h d hd
  rwa [List.length_map] at this
theorem nice_tup {m L : Nat} {ds : List PD} (h : ∀ d ∈ ds, Nice m L d) : Nice (m + 1) (ds.length * (L + 2) + 2) (.tuple ds) := by
  refine ⟨?_, ?_, ?_, ?_⟩
  · rw [PyData.showable]
    exact PySem.Spec.showableAll_of fun d hd => (h d hd).sh
  · rw [PyData.hasDict]
    exact nice_dict fun d hd => (h d hd).nd
  · rw [PyData.depth]
    have := nice_depth (ds := ds) fun d hd => (h d hd).dp
    omega
  · rw [PyData.shown, shown_all]
    have h1 := fmt_text (ds.map PyData.shown)
    have h2 := nice_piled (ds := ds) fun d hd => (h d hd).len
    omega
theorem nice_lst {m L : Nat} {ds : List PD} (h : ∀ d ∈ ds, Nice m L d) : Nice (m + 1) (ds.length * (L + 2) + 2) (.list ds) := by
  refine ⟨?_, ?_, ?_, ?_⟩
  · rw [PyData.showable]
    exact PySem.Spec.showableAll_of fun d hd => (h d hd).sh
  · rw [PyData.hasDict]
    exact nice_dict fun d hd => (h d hd).nd
  · rw [PyData.depth]
    have := nice_depth (ds := ds) fun d hd => (h d hd).dp
    omega
  · rw [PyData.shown, shown_all]
    have h1 := list_text (ds.map PyData.shown)
    have h2 := nice_piled (ds := ds) fun d hd => (h d hd).len
    omega
theorem nice_str {s : Str} (h : (reprText s).length ≤ 20) : Nice 0 20 (.str s) := ⟨by rw [PyData.showable], by rw [PyData.hasDict], by rw [PyData.depth]; exact Nat.le_refl _, by rw [PyData.shown]; exact h⟩
theorem nice_bool (b : Bool) : Nice 0 20 (.bool b) := ⟨by rw [PyData.showable], by rw [PyData.hasDict], by rw [PyData.depth]; exact Nat.le_refl _, by rw [PyData.shown]; cases b <;> decide +kernel⟩
theorem nice_none : Nice 0 20 .none := ⟨by rw [PyData.showable], by rw [PyData.hasDict], by rw [PyData.depth]; exact Nat.le_refl _, by rw [PyData.shown]; decide +kernel⟩
theorem nice_sD {ns : List Str} (h : ∀ n ∈ ns, okS n) : Nice 1 (ns.length * 22 + 2) (sD ns) := by
  have := nice_tup (m := 0) (L := 20) (ds := ns.map PyData.str) fun d hd => by
    obtain ⟨n, hn, rfl⟩ := List.mem_map.mp hd
    exact nice_str (h n hn).2
  rw [List.length_map] at this
  exact this
theorem nice_sD8 {ns : List Str} (h : ∀ n ∈ ns, okS n) (hl : ns.length ≤ 8) : Nice 1 200 (sD ns) := (nice_sD h).mono (Nat.le_refl _) (by omega)
theorem nice_tD {ts : List (List Str)} (h : ∀ t ∈ ts, t.length ≤ 8 ∧ ∀ n ∈ t, okS n) (hl : ts.length ≤ 64) : Nice 2 20000 (tD ts) := by
  have := nice_tup (m := 1) (L := 200) (ds := ts.map sD) fun d hd => by
    obtain ⟨t, ht, rfl⟩ := List.mem_map.mp hd
    exact nice_sD8 (h t ht).2 (h t ht).1
  rw [List.length_map] at this
  exact this.mono (Nat.le_refl _) (by omega)
theorem repr_nice {K : Frag} {H : Hp} {Q : VK} {a : Addr} {m L : Nat} {d : PD} (n : Nice m L d) (hd : Dp K H (.ref a) d) (q : Q (.str d.shown) H) (hm : m ≤ 50 := by omega) (hL : L ≤ 1000000 := by omega) : rRepr K [.ref a] H Q :=
  ⟨a, d, rfl, hd, n.sh, n.nd, Nat.le_trans n.dp hm, Nat.le_trans n.len (Nat.le_trans hL (by decide)), q⟩
theorem prd_empty {α β : Type} {F : α → β → Prop} {xs : List α} {ys : List β} (h : Paired F xs ys) : xs.isEmpty = ys.isEmpty := by
  cases h <;> rfl
theorem eqv_tup_nil (xs : List PD) : PyData.eqv (.tuple xs) (.tuple []) = xs.isEmpty := by
  cases xs <;> simp [PyData.eqv, PyData.eqvAll]
end Cb

/-! Values of any kind: names, sets, order; isinstance; comprehensions over a text and over pairs. -/
namespace Cb
open PySem PySem.Spec PyProof.Rows L2 PySem.W
/-! ### texts in order -/
def ltS (a b : Str) : Bool := decide (a.cps.toList < b.cps.toList)
def asc (ns : List Str) : Bool := (ns.zip (ns.drop 1)).all fun p => ltS p.1 p.2
def Asc (ns : List Str) : Prop := ns.Pairwise fun a b => a.cps.toList < b.cps.toList
theorem asc_cons (x y : Str) (r : List Str) : asc (x :: y :: r) = (ltS x y && asc (y :: r)) := rfl
theorem asc_iff : ∀ ns : List Str, asc ns = true ↔ Asc ns
  | [] => ⟨fun _ => .nil, fun _ => rfl⟩
  | [x] => ⟨fun _ => List.pairwise_singleton _ _, fun _ => rfl⟩
  | x :: y :: r => by
    have ih := asc_iff (y :: r)
    rw [asc_cons, Bool.and_eq_true, ih]
    constructor
    · rintro ⟨h1, h2⟩
      have h1 : x.cps.toList < y.cps.toList := of_decide_eq_true h1
      refine List.pairwise_cons.mpr ⟨fun z hz => ?_, h2⟩
      rcases List.mem_cons.mp hz with e | hz
      · rw [e]
        exact h1
      · exact List.lt_trans h1 ((List.pairwise_cons.mp h2).1 z hz)
    · intro h
      obtain ⟨h1, h2⟩ := List.pairwise_cons.mp h
      exact ⟨decide_eq_true (h1 y List.mem_cons_self), h2⟩
theorem Asc.le {ns : List Str} (h : Asc ns) : ns.Pairwise fun a b => a.cps.toList ≤ b.cps.toList := h.imp fun z => List.le_of_lt z
theorem Asc.nd {ns : List Str} (h : Asc ns) : ns.Nodup := h.imp fun {a b} z e => by
  rw [e] at z
  exact List.lt_irrefl _ z
theorem Asc.eq {a b : List Str} (ha : Asc a) (hb : Asc b) (h : ∀ x, x ∈ a ↔ x ∈ b) : a = b := pair_eq (same_perm hb.nd ha.nd h) ha.le hb.le
theorem once_asc (l : List Str) : Asc (once l) := by
  have h1 : (once l).Pairwise fun a b => a.cps.toList ≤ b.cps.toList := srt_le _
  have h2 : (once l).Pairwise fun a b => a ≠ b := once_nd l
  refine (h1.and h2).imp fun {a b} ⟨h, n⟩ => ?_
  exact Classical.byContradiction fun z => n (cps_inj (List.le_antisymm h (List.not_lt.mp z)))
theorem isIn_iff {n : Str} {ns : List Str} : isIn n ns = true ↔ n ∈ ns := by
  unfold isIn
  rw [List.any_eq_true]
  exact ⟨fun ⟨x, hx, e⟩ => by rw [← eq_of_beq e]; exact hx, fun h => ⟨n, h, by simp⟩⟩
/-- a set is those of all that are in it -/
theorem filter_self {F ns : List Str} (hF : Asc F) : ns = F.filter (fun n => isIn n ns) ↔ asc ns = true ∧ ∀ n ∈ ns, n ∈ F := by
  constructor
  · intro h
    refine ⟨(asc_iff ns).mpr ?_, fun n hn => ?_⟩
    · rw [h]
      exact hF.sublist List.filter_sublist
    · rw [h] at hn
      exact (List.mem_filter.mp hn).1
  · rintro ⟨h1, h2⟩
    refine Asc.eq ((asc_iff ns).mp h1) (hF.sublist List.filter_sublist) fun x => ?_
    rw [List.mem_filter, isIn_iff]
    exact ⟨fun h => ⟨h2 x h, h⟩, fun h => h.2⟩
/-! ### names -/
def isLow (c : Str) : Bool := !decide (c.cps.toList < ("a" : Str).cps.toList) && !decide (("z" : Str).cps.toList < c.cps.toList)
def nameS (s : Str) : Bool := (decide (1 ≤ (s.length : Int)) && decide ((s.length : Int) ≤ 8)) && s.cps.toList.all fun c => isLow ⟨#[c]⟩
def isName : PD → Bool
  | .str s => nameS s
  | _ => false
def namesD : PD → Bool
  | .tuple ds => ds.all isName
  | _ => false
def strD : PD → Str
  | .str s => s
  | _ => ""
theorem name_str {d : PD} (h : isName d = true) : d = .str (strD d) := by
  cases d <;> first | rfl | exact absurd (show false = true from h) (by decide)
theorem names_str : ∀ {ds : List PD}, ds.all isName = true → ds = (ds.map strD).map PyData.str
  | [], _ => rfl
  | d :: ds, h => by
    rw [List.all_cons, Bool.and_eq_true] at h
    rw [List.map_cons, List.map_cons, ← name_str h.1, ← names_str h.2]
theorem strD_str (ns : List Str) : (ns.map PyData.str).map strD = ns := by
  rw [List.map_map]
  exact List.map_id _
/-! ### values, their sizes -/
def okT (n : Nat) (s : Str) : Prop := PyData.strOk s = true ∧ s.length ≤ n
def Sc (n : Nat) (d : PD) : Prop := d = .none ∨ (∃ b, d = .bool b) ∨ d = .int 0 ∨ d = .int 1 ∨ ∃ s, d = .str s ∧ okT n s
def Okd (n : Nat) : Nat → PD → Prop
  | 0, d => Sc n d
  | m + 1, d => Sc n d ∨ ∃ ds, (d = .tuple ds ∨ d = .list ds) ∧ ds.length ≤ n ∧ ∀ e ∈ ds, Okd n m e
theorem Sc.mono {n n' : Nat} {d : PD} (h : Sc n d) (l : n ≤ n') : Sc n' d := by
  rcases h with h | h | h | h | ⟨s, h1, h2, h3⟩
  · exact .inl h
  · exact .inr (.inl h)
  · exact .inr (.inr (.inl h))
  · exact .inr (.inr (.inr (.inl h)))
  · exact .inr (.inr (.inr (.inr ⟨s, h1, h2, Nat.le_trans h3 l⟩)))
theorem Sc.okd {n : Nat} {d : PD} (h : Sc n d) : ∀ m, Okd n m d
  | 0 => h
  | _ + 1 => .inl h
theorem Okd.mono {n n' : Nat} : ∀ {m m' : Nat} {d : PD}, Okd n m d → n ≤ n' → m ≤ m' → Okd n' m' d
  | 0, m', d, h, l, _ => Sc.okd (Sc.mono (show Sc n d from h) l) m'
  | m + 1, 0, d, _, _, z => absurd z (by omega)
  | m + 1, m' + 1, d, h, l, z => by
    rcases h with h | ⟨ds, h1, h2, h3⟩
    · exact .inl (h.mono l)
    · exact .inr ⟨ds, h1, Nat.le_trans h2 l, fun e he => Okd.mono (h3 e he) l (by omega)⟩
theorem Okd.tup {n m : Nat} {ds : List PD} (h : Okd n m (.tuple ds)) : ∃ k, m = k + 1 ∧ ds.length ≤ n ∧ ∀ e ∈ ds, Okd n k e := by
  have sc : ¬ Sc n (.tuple ds) := by
    rintro (h | ⟨b, h⟩ | h | h | ⟨s, h, _⟩) <;> cases h
  cases m with
  | zero => exact absurd h sc
  | succ k =>
    rcases h with h | ⟨es, h1 | h1, h2, h3⟩
    · exact absurd h sc
    · cases h1
      exact ⟨k, rfl, h2, h3⟩
    · cases h1
theorem Okd.lst {n m : Nat} {ds : List PD} (h : Okd n m (.list ds)) : ∃ k, m = k + 1 ∧ ds.length ≤ n ∧ ∀ e ∈ ds, Okd n k e := by
  have sc : ¬ Sc n (.list ds) := by
    rintro (h | ⟨b, h⟩ | h | h | ⟨s, h, _⟩) <;> cases h
  cases m with
  | zero => exact absurd h sc
  | succ k =>
    rcases h with h | ⟨es, h1 | h1, h2, h3⟩
    · exact absurd h sc
    · cases h1
    · cases h1
      exact ⟨k, rfl, h2, h3⟩
theorem Okd.str {n m : Nat} {s : Str} (h : Okd n m (.str s)) : okT n s := by
  have sc : Sc n (.str s) → okT n s := by
    rintro (h | ⟨b, h⟩ | h | h | ⟨s, h, z⟩)
    · cases h
    · cases h
    · cases h
    · cases h
    · cases h
      exact z
  cases m with
  | zero => exact sc h
  | succ k =>
    rcases h with h | ⟨es, h1 | h1, _⟩
    · exact sc h
    · cases h1
    · cases h1
theorem okT_repr {n : Nat} {s : Str} (h : okT n s) : (reprText s).length ≤ 10 * n + 2 := by
  have h1 := StrLaws.reprText_len s fun c hc => by
    have h2 := h.1
    unfold PyData.strOk at h2
    rw [← Array.all_toList, List.all_eq_true] at h2
    have := of_decide_eq_true (h2 c hc)
    omega
  have := h.2
  omega
def Lb (n : Nat) : Nat → Nat
  | 0 => 10 * n + 7
  | m + 1 => Lb n m + (n * (Lb n m + 2) + 2)
theorem Lb_mono (n : Nat) : ∀ m, Lb n 0 ≤ Lb n m
  | 0 => Nat.le_refl _
  | m + 1 => Nat.le_trans (Lb_mono n m) (Nat.le_add_right _ _)
theorem Sc.nice {n m : Nat} {d : PD} (h : Sc n d) : Nice m (Lb n 0) d := by
  have l7 : 7 ≤ Lb n 0 := by show 7 ≤ 10 * n + 7; omega
  have z : ∀ d : PD, d.showable = true → d.hasDict = false → d.depth = 0 → d.shown.length ≤ Lb n 0 → Nice m (Lb n 0) d := fun d a b c e => ⟨a, b, by omega, e⟩
  rcases h with rfl | ⟨b, rfl⟩ | rfl | rfl | ⟨s, rfl, h⟩
  · exact z _ (by rw [PyData.showable]) (by rw [PyData.hasDict]) (by rw [PyData.depth]) (Nat.le_trans (by rw [PyData.shown]; decide +kernel : (PyData.none.shown).length ≤ 7) l7)
  · exact z _ (by rw [PyData.showable]) (by rw [PyData.hasDict]) (by rw [PyData.depth]) (Nat.le_trans (by rw [PyData.shown]; cases b <;> decide +kernel : ((PyData.bool b).shown).length ≤ 7) l7)
  · exact z _ (by rw [PyData.showable]; decide +kernel) (by rw [PyData.hasDict]) (by rw [PyData.depth]) (Nat.le_trans (by rw [PyData.shown]; decide +kernel : ((PyData.int 0).shown).length ≤ 7) l7)
  · exact z _ (by rw [PyData.showable]; decide +kernel) (by rw [PyData.hasDict]) (by rw [PyData.depth]) (Nat.le_trans (by rw [PyData.shown]; decide +kernel : ((PyData.int 1).shown).length ≤ 7) l7)
  · have := okT_repr h
    exact z _ (by rw [PyData.showable]) (by rw [PyData.hasDict]) (by rw [PyData.depth]) (by rw [PyData.shown]; show _ ≤ 10 * n + 7; omega)
theorem Okd.nice {n : Nat} : ∀ {m : Nat} {d : PD}, Okd n m d → Nice m (Lb n m) d
  | 0, d, h => Sc.nice (show Sc n d from h)
  | m + 1, d, h => by
    rcases h with h | ⟨ds, h1, h2, h3⟩
    · exact (Sc.nice (m := m + 1) h).mono (Nat.le_refl _) (Lb_mono n _)
    · have l : ds.length * (Lb n m + 2) + 2 ≤ Lb n (m + 1) := by
        have := Nat.mul_le_mul_right (Lb n m + 2) h2
        show _ ≤ Lb n m + (n * (Lb n m + 2) + 2)
        omega
      rcases h1 with rfl | rfl
      · exact (nice_tup fun e he => Okd.nice (h3 e he)).mono (Nat.le_refl _) l
      · exact (nice_lst fun e he => Okd.nice (h3 e he)).mono (Nat.le_refl _) l
theorem lay_all : ∀ {ds : List PD}, (∀ d ∈ ds, d.canLay0 = true) → PyData.canLayAll0 ds = true
  | [], _ => by simp [PyData.canLayAll0]
  | d :: ds, h => by
    rw [PyData.canLayAll0, h d List.mem_cons_self, lay_all fun e he => h e (List.mem_cons_of_mem _ he)]
    rfl
theorem Okd.lay {n : Nat} : ∀ {m : Nat} {d : PD}, Okd n m d → d.canLay0 = true := by
  have sc : ∀ {d : PD}, Sc n d → d.canLay0 = true := by
    rintro d (rfl | ⟨b, rfl⟩ | rfl | rfl | ⟨s, rfl, h⟩)
    · rw [PyData.canLay0]
    · rw [PyData.canLay0]
    · rw [PyData.canLay0]
    · rw [PyData.canLay0]
    · rw [PyData.canLay0]
      exact h.1
  intro m
  induction m with
  | zero => exact fun h => sc h
  | succ m ih =>
    rintro d (h | ⟨ds, h1, h2, h3⟩)
    · exact sc h
    · rcases h1 with rfl | rfl
      · rw [PyData.canLay0]
        exact lay_all fun e he => ih (h3 e he)
      · rw [PyData.canLay0]
        exact lay_all fun e he => ih (h3 e he)
theorem Okd.shaped {n m : Nat} {d : PD} (h : Okd n m d) (hm : m ≤ 60 := by omega) : SeqAt.shaped d = true := by
  unfold SeqAt.shaped
  rw [h.lay]
  have := h.nice.dp
  simp
  omega
theorem okT_of {s : Str} (h : okS s) {n : Nat} (hl : s.length ≤ n) : okT n s := ⟨h.1, hl⟩
/-! ### what a value is -/
def tyN : PD → String
  | .none => "NoneType"
  | .bool _ => "bool"
  | .int _ => "int"
  | .str _ => "str"
  | .list _ => "list"
  | .tuple _ => "tuple"
  | .dict _ => "dict"
theorem dp_ty {K : Frag} {H : Hp} {v : V} {d : PD} (h : Dp K H v d) : TyX K H v (.type (tyN d)) := by
  cases h with
  | non => exact .base .non
  | bl b => exact .base (.bl b)
  | int i => exact .base (.int i)
  | str s => exact .base (.str s)
  | lst hs _ =>
    rcases hs with (h | ⟨o, h⟩) | ⟨o, its, n, h, c, _⟩
    · exact .base (.lst h)
    · exact .base (.frz h)
    · exact .kList h c
  | tup hs _ =>
    rcases hs with (h | ⟨o, h⟩) | ⟨o, its, n, h, c, _⟩
    · exact .base (.tup h)
    · exact .fTuple h
    · exact .kTuple h c
theorem isi_str {K : Frag} {H : Hp} {Q : VK} {v : V} {d : PD} (h : Dp K H v d) (q : Q (.bl (tyN d == "str")) H) : rIsi K [v, .ty "str"] H Q := by
  refine ⟨v, _, _, _, _, rfl, .ty "str", dp_ty h, ?_, q⟩
  cases d <;> first | rfl | (cases h)
theorem isi_tup {K : Frag} {H : Hp} {Q : VK} {v : V} {d : PD} (h : Dp K H v d) (q : Q (.bl (tyN d == "tuple")) H) : rIsi K [v, .ty "tuple"] H Q := by
  refine ⟨v, _, _, _, _, rfl, .ty "tuple", dp_ty h, ?_, q⟩
  cases d <;> first | rfl | (cases h)
theorem dp_tup {K : Frag} {H : Hp} {v : V} {ds : List PD} (h : Dp K H v (.tuple ds)) : ∃ a xs, v = .ref a ∧ SqT K H a xs ∧ DpAll K H xs ds := by
  cases h with
  | tup h1 h2 => exact ⟨_, _, rfl, h1, h2⟩
theorem dp_str {K : Frag} {H : Hp} {v : V} {s : Str} (h : Dp K H v (.str s)) : v = .str s := by
  cases h
  rfl
theorem dps_len {K : Frag} {H : Hp} : ∀ {xs : List V} {ds : List PD}, DpAll K H xs ds → xs.length = ds.length
  | _, _, .nil => rfl
  | _, _, .cons _ t => congrArg Nat.succ (dps_len t)
theorem dps_pair {K : Frag} {H : Hp} : ∀ {xs : List V} {ds : List PD}, DpAll K H xs ds → Paired (Dp K H) xs ds
  | _, _, .nil => .nil
  | _, _, .cons r t => .cons r (dps_pair t)
theorem pair_dps {K : Frag} {H : Hp} : ∀ {xs : List V} {ds : List PD}, Paired (Dp K H) xs ds → DpAll K H xs ds
  | _, _, .nil => .nil
  | _, _, .cons r t => .cons r (pair_dps t)
theorem dps_strs {K : Frag} {H : Hp} : ∀ {ns : List Str} {xs : List V}, DpAll K H xs (ns.map PyData.str) → xs = ns.map V.str
  | [], _, h => by
    cases h
    rfl
  | n :: ns, _, h => by
    have h : DpAll K H _ (.str n :: ns.map PyData.str) := h
    cases h with
    | cons r t => rw [dp_str r, dps_strs t]; rfl
theorem dp_s1 {K : Frag} {H : Hp} {v : V} {ns : List Str} (h : Dp K H v (sD ns)) : S1 K H v ns := by
  obtain ⟨a, xs, rfl, h1, h2⟩ := dp_tup h
  rw [dps_strs h2] at h1
  exact ⟨a, rfl, h1⟩
/-! ### comprehensions over a text -/
theorem lc_str {x : Str} {g : TG} {tt : TT} {te : TE} {vs : List Nat} {σ : L2.St} {H1 : Hp} {D : Addr} {Qd : Hp → Prop} (Pv : Nat → Hp → Prop) (h0 : Pv 0 (upd H1 D (.lst [])))
    (hs : ∀ i c H, x.cps.toList[i]? = some c → Pv i H → g (.str ⟨#[c]⟩) (wipe σ vs) H fun σ2 H2 => wipe σ2 vs = wipe σ vs ∧ tt σ2 H2 fun b H3 =>
      if b = true then te σ2 H3 fun y H4 => ∃ acc, H4 D = some (.lst acc) ∧ acc.length < sizeLine ∧ Pv (i + 1) (upd H4 D (.lst (acc ++ [y]))) else Pv (i + 1) H3) (hd : ∀ H, Pv x.cps.toList.length H → Qd H) :
    ∃ W : Nat → Nat → Hp → Prop, (∃ m, W 0 m (upd H1 D (.lst []))) ∧ ∀ i m H, W i m H →
      ((Its x).stop i H ∧ Qd H) ∨ ((Its x).go i H ∧ ∃ Nx : Hp → Prop, (∀ H', Nx H' → ∃ m', m' < m ∧ W (i + 1) m' H') ∧ ∀ y H', (Its x).yld i H y H' → g y (wipe σ vs) H' fun σ2 H2 => wipe σ2 vs = wipe σ vs ∧ tt σ2 H2 fun b H3 =>
        if b = true then te σ2 H3 fun y H4 => ∃ acc, H4 D = some (.lst acc) ∧ acc.length < sizeLine ∧ Nx (upd H4 D (.lst (acc ++ [y]))) else Nx H3) := by
  have el : x.cps.toList.length = x.cps.size := Array.length_toList
  refine ⟨fun i m H => m = x.cps.size - i ∧ i ≤ x.cps.size ∧ Pv i H, ⟨x.cps.size, by simp, Nat.zero_le _, h0⟩, ?_⟩
  rintro i m H ⟨rfl, hi, p⟩
  by_cases hlt : i < x.cps.size
  · refine .inr ⟨hlt, Pv (i + 1), fun H' p' => ⟨x.cps.size - (i + 1), by omega, rfl, hlt, p'⟩, fun y H' z => ?_⟩
    obtain ⟨rfl, c, hc, rfl⟩ := z
    exact hs i c _ (by simpa using hc) p
  · have e : i = x.cps.size := by omega
    subst e
    exact .inl ⟨Nat.le_refl _, hd H (by rw [el]; exact p)⟩
section
variable {x : Str} {tl : TE} {j : Nat} {vs : List Nat} {σ : L2.St} {H : Hp} {Q : VK} {tt : TT} {te : TE}
theorem lcS_filter (f : Nat → Bool) (g : Nat → V) (hl : ∀ R : VK, R (.str x) H → tl σ H R) (hn : x.length ≤ 100000) (hj : ∀ y, wipe ((wipe σ vs).set j (some y)) vs = wipe σ vs)
    (ht : ∀ c H1, Same H H1 → ∀ R : Bool → Hp → Prop, R (f c) H1 → tt ((wipe σ vs).set j (some (.str ⟨#[c]⟩))) H1 R)
    (he : ∀ c, f c = true → ∀ H1, Same H H1 → ∀ R : VK, R (g c) H1 → te ((wipe σ vs).set j (some (.str ⟨#[c]⟩))) H1 R)
    (q : ∀ D H', H D = none → Same H H' → H' D = some (.lst ((x.cps.toList.filter f).map g)) → Q (.ref D) H') : tLc (iStr tl) (gName j) tt te vs σ H Q := by
  have el : x.cps.toList.length = x.length := Array.length_toList
  refine hl _ ⟨x, rfl, fun D nD => ?_⟩
  refine lc_str (fun i H' => Same H H' ∧ H' D = some (.lst (((x.cps.toList.take i).filter f).map g))) ⟨same_upd nD, upd_same⟩ (fun i c H' hi p => ⟨hj _, ?_⟩) fun H' p => ?_
  · obtain ⟨e, hD⟩ := p
    refine ht c H' e _ ?_
    rw [take_snoc hi, List.filter_append, List.map_append]
    by_cases h : f c = true
    · rw [if_pos h]
      have hi2 := (List.getElem?_eq_some_iff.mp hi).1
      refine he c h H' e _ ⟨_, hD, ?_, same_mut e nD, ?_⟩
      · rw [List.length_map]
        have := List.length_filter_le f (x.cps.toList.take i)
        rw [List.length_take] at this
        exact big (by omega)
      · rw [upd_same, List.filter_cons_of_pos h]
        rfl
    · rw [if_neg h]
      refine ⟨e, ?_⟩
      rw [hD, List.filter_cons_of_neg h]
      simp
  · refine q D H' nD p.1 ?_
    rw [p.2, List.take_length]
end
end Cb

/-! Comprehensions over pairs; slices of sets of people; a heap but for one list. -/
namespace Cb
open PySem PySem.Spec PyProof.Rows L2 PySem.W RZ
theorem lc_zip {K : Frag} {a b : Addr} {xs ys : List V} {g : TG} {tt : TT} {te : TE} {vs : List Nat} {σ : L2.St} {H1 : Hp} {D : Addr} {Qd : Hp → Prop} (Pv : Nat → Hp → Prop) (h0 : Pv 0 (upd H1 D (.lst [])))
    (ha : ∀ i H, Pv i H → SqT K H a xs) (hb : ∀ i H, Pv i H → SqT K H b ys)
    (hs : ∀ i x y T H, xs[i]? = some x → ys[i]? = some y → Pv i H → H T = none → g (.ref T) (wipe σ vs) (upd H T (.tup [x, y])) fun σ2 H2 => wipe σ2 vs = wipe σ vs ∧ tt σ2 H2 fun b H3 =>
      if b = true then te σ2 H3 fun y H4 => ∃ acc, H4 D = some (.lst acc) ∧ acc.length < sizeLine ∧ Pv (i + 1) (upd H4 D (.lst (acc ++ [y]))) else Pv (i + 1) H3) (hd : ∀ H, Pv (min xs.length ys.length) H → Qd H) :
    ∃ W : Nat → Nat → Hp → Prop, (∃ m, W 0 m (upd H1 D (.lst []))) ∧ ∀ i m H, W i m H →
      ((ItzT K a b).stop i H ∧ Qd H) ∨ ((ItzT K a b).go i H ∧ ∃ Nx : Hp → Prop, (∀ H', Nx H' → ∃ m', m' < m ∧ W (i + 1) m' H') ∧ ∀ y H', (ItzT K a b).yld i H y H' → g y (wipe σ vs) H' fun σ2 H2 => wipe σ2 vs = wipe σ vs ∧ tt σ2 H2 fun b H3 =>
        if b = true then te σ2 H3 fun y H4 => ∃ acc, H4 D = some (.lst acc) ∧ acc.length < sizeLine ∧ Nx (upd H4 D (.lst (acc ++ [y]))) else Nx H3) := by
  refine ⟨fun i m H => m = min xs.length ys.length - i ∧ i ≤ min xs.length ys.length ∧ Pv i H, ⟨min xs.length ys.length, by simp, Nat.zero_le _, h0⟩, ?_⟩
  rintro i m H ⟨rfl, hi, p⟩
  have qa := ha i H p
  have qb := hb i H p
  by_cases hlt : i < min xs.length ys.length
  · have hx : i < xs.length := by omega
    have hy : i < ys.length := by omega
    refine .inr ⟨⟨xs, ys, xs[i], ys[i], qa, qb, by simp [hx], by simp [hy]⟩, Pv (i + 1), fun H' p' => ⟨min xs.length ys.length - (i + 1), by omega, rfl, hlt, p'⟩, fun v H' z => ?_⟩
    obtain ⟨T, x, y, rfl, nT, rfl, h1, h2⟩ := z
    exact hs i x y T H (h1 xs qa) (h2 ys qb) p nT
  · have e : i = min xs.length ys.length := by omega
    refine .inl ⟨⟨xs, ys, qa, qb, by omega⟩, hd H (by rw [← e]; exact p)⟩
/-- [e for x, y in zip(t, u)], two sets of people, nothing changed -/
theorem lcZ_map {K : Frag} {ta : TA} {te : TE} {i j : Nat} {vs : List Nat} {σ : L2.St} {H : Hp} {Q : VK} {ns ms : List Str} {g : TG} (f : Str → Str → V)
    (hl : ∀ R : List V → Hp → Prop, (∀ a b H1, Same H H1 → SqT K H1 a (ns.map V.str) → SqT K H1 b (ms.map V.str) → R [.ref a, .ref b] H1) → ta σ H R) (hn : ns.length ≤ 1000)
    (hg : ∀ T x y H1 (R : L2.St → Hp → Prop), H1 T = some (.tup [.str x, .str y]) → R (((wipe σ vs).set i (some (.str x))).set j (some (.str y))) H1 → g (.ref T) (wipe σ vs) H1 R)
    (hj : ∀ x y, wipe (((wipe σ vs).set i (some x)).set j (some y)) vs = wipe σ vs)
    (he : ∀ x y H1, Same H H1 → ∀ R : VK, R (f x y) H1 → te (((wipe σ vs).set i (some (.str x))).set j (some (.str y))) H1 R)
    (q : ∀ D H', H D = none → Same H H' → H' D = some (.lst ((ns.zip ms).map fun p => f p.1 p.2)) → Q (.ref D) H') : tLc (iZipA K ta) g tYes te vs σ H Q := by
  refine hl _ fun a b H1 e1 sa sb => ⟨a, b, ns.map V.str, ms.map V.str, rfl, .inr ⟨sa, sb, fun D nD => ?_⟩⟩
  refine lc_zip (K := K) (a := a) (b := b) (xs := ns.map V.str) (ys := ms.map V.str) (fun n H' => Same H1 H' ∧ H' D = some (.lst (((ns.zip ms).take n).map fun p => f p.1 p.2))) ⟨same_upd nD, upd_same⟩ (fun n H' z => sameT z.1 sa) (fun n H' z => sameT z.1 sb) (fun n x y T H' hx hy z nT => ?_) fun H' z => ?_
  · obtain ⟨e2, hD⟩ := z
    rw [List.getElem?_map] at hx hy
    obtain ⟨x, hx1, rfl⟩ := Option.map_eq_some_iff.mp hx
    obtain ⟨y, hy1, rfl⟩ := Option.map_eq_some_iff.mp hy
    have s3 := same_upd (o := .tup [V.str x, V.str y]) nT
    refine hg T x y _ _ upd_same ⟨hj _ _, ?_⟩
    unfold tYes
    refine ite2 (fun _ => ?_) fun h => absurd rfl h
    have hz : (ns.zip ms)[n]? = some (x, y) := by
      rw [List.getElem?_zip_eq_some]
      exact ⟨hx1, hy1⟩
    have hzl := (List.getElem?_eq_some_iff.mp hz).1
    have zl : (ns.zip ms).length ≤ ns.length := by
      rw [List.length_zip]
      omega
    refine he x y _ ((e1.trans e2).trans s3) _ ⟨_, s3 _ _ hD, ?_, same_mut (e2.trans s3) nD, ?_⟩
    · rw [List.length_map, List.length_take]
      exact big (by omega)
    · rw [upd_same, take_snoc hz, List.map_append]
      rfl
  · refine q D H' (e1.free nD) (e1.trans z.1) ?_
    rw [z.2, List.length_map, List.length_map, ← List.length_zip, List.take_length]
/-- t[lo:hi] of a set of people -/
theorem slA_names {K : Frag} {H : Hp} {Q : VK} {x : V} {ns : List Str} {lo hi : Option Int} (h : S1 K H x ns) (q : ∀ v H', Same H H' → S1 K H' v ((ns.drop (HT.sIx ns.length 0 lo)).take (HT.sIx ns.length ns.length hi - HT.sIx ns.length 0 lo)) → Q v H') : rSlA K x lo hi H Q := by
  obtain ⟨a, rfl, ha⟩ := h
  refine ⟨a, _, rfl, ha, fun hw => ?_, fun _ p np => ?_⟩
  · rw [List.length_map] at hw
    refine q _ H (Same.refl _) ⟨a, rfl, ?_⟩
    rw [hw.1, hw.2, List.drop_zero, Nat.sub_zero, List.take_length]
    exact ha
  · refine q _ _ (same_upd np) ⟨p, rfl, st_ ?_⟩
    rw [upd_same]
    unfold cutV
    rw [List.length_map, List.map_take, List.map_drop]
theorem cut_one (ns : List Str) : (ns.drop (HT.sIx ns.length 0 (some 1))).take (HT.sIx ns.length ns.length none - HT.sIx ns.length 0 (some 1)) = ns.drop 1 := by
  have e1 : HT.sIx ns.length 0 (some ((1 : Nat) : Int)) = min 1 ns.length := HT.sIx_nat _ _ _
  have e1 : HT.sIx ns.length 0 (some 1) = min 1 ns.length := e1
  rw [e1, HT.sIx_none]
  have e2 : ns.drop (min 1 ns.length) = ns.drop 1 := by
    cases ns with
    | nil => rfl
    | cons x r => 
      have : min 1 (x :: r).length = 1 := by simp
      rw [this]
  rw [e2]
  refine List.take_of_length_le ?_
  rw [List.length_drop]
  omega
/-! ### the heap but for the list at r -/
def er (r : Addr) (H : Hp) : Hp := fun b => if b = r then none else H b
theorem er_same {r : Addr} {H : Hp} : Same (er r H) H := fun b o h => by
  unfold er at h
  split at h
  · cases h
  · exact h
theorem er_mono {r : Addr} {H H' : Hp} (e : Same H H') : Same (er r H) (er r H') := fun b o h => by
  unfold er at h ⊢
  split at h
  · cases h
  · rename_i n
    rw [if_neg n]
    exact e b o h
theorem er_at {r b : Addr} {H : Hp} (n : b ≠ r) : er r H b = H b := if_neg n
section
variable {P : Program} {w : World} {K : Frag} {mg : Str → Option Value} {base : Heap} {CX : CXT} {k : Nat} {f : Addr} {fd : FuncData} {sp : Sp}
/-- a def by a call of its own by keywords ys alone -/
def FnKW (P : Program) (w : World) (K : Frag) (mg : Str → Option Value) (base : Heap) (CX : CXT) (k : Nat) (f : Addr) (ys : List Str) (sp : Sp) : Prop :=
  ∀ (A : Around) (outer : List Env) (s : Shared) (H : Hp) (us : List Value) (vs : List V) (Q : VK) (E : XK), Room k A → Env0 P w K mg base A outer s H → Vals vs us → sp vs H Q E →
    codeAny (model P w) A (.call (.ref f) ⟨[], ys.zip us⟩) (CR CX outer P w H s Q E) s
def revSp2 (sp : Sp) : Sp := fun vs H Q E => ∃ v1 v2, vs = [v2, v1] ∧ sp [v1, v2] H Q E
theorem kw2 {a b : Str} (F : FnOk P w K mg base CX k f fd [a, b] sp) (hb : ∀ (s : Shared) (u1 u2 : Value), BindsTo s fd ⟨[], [(b, u2), (a, u1)]⟩ [(a, u1), (b, u2)]) : FnKW P w K mg base CX k f [b, a] (revSp2 sp) := by
  intro A outer s H us vs Q E hr e0 r h
  obtain ⟨v1, v2, rfl, q⟩ := h
  match us, r with
  | [u2, u1], .cons r2 (.cons r1 .nil) => exact F.run A outer s H ⟨[], [(b, u2), (a, u1)]⟩ [u1, u2] [v1, v2] Q E hr e0 (hb s u1 u2) (.cons r1 (.cons r2 .nil)) q
end
section
variable {X : Cx} {k : Nat} {f : Addr} {CX : CXT} {ys : List Str} {sp : Sp} {x : Str} {p pos : Pos} {kws : List Keyword} {tk : TA} {E : XK}
/-- f(y = e, ..) -/
theorem pe_callKW (F : FnKW X.prog X.w X.K X.mg X.base CX k f ys sp) (hr : Room k X.A) (hg : Gl X x) (hm : X.mg x = some (.ref f)) (hk : keepIn X.K (.ref f) = true) (hx : Passes CX X E) (hkw : PK X kws tk)
    (hall : (backToKw pos (keywordEach kws X.env)).all (·.1.isSome) = true := by rfl) (hks : (backToKw pos (keywordEach kws X.env)).filterMap (·.1) = ys := by rfl) (hdb : (x == ("__debug__" : Str)) = false := by decide)
    (hpl : ((backTo pos (starEach [] X.env)).any (·.1) || (backToKw pos (keywordEach kws X.env)).any (·.1.isNone)) = false := by rfl) :
    PE X (.Call (.Name x p) [] kws pos) (tCall sp [] E tk) := by
  refine ⟨fun pins s σ H Q I h => ?_⟩
  refine wpAny_Call_Name_kw (ld_glob I hg hm ?_ hdb)
  refine PySem.W.callWith_KW0 (h₀ := X.base) I.ok.mod.kin hk hall ?_ hpl
  refine thn (hkw.run pos pins s σ H _ I h) fun ws s2 ⟨zs, H2, I2, rz, q2⟩ => ⟨I2.kIn, ?_⟩
  rw [hks]
  have q3 : sp (zs ++ []) H2 Q E := q2
  rw [List.append_nil] at q3
  refine wpAny_call (codeAny_mono (F X.A X.stack s2 H2 ws zs Q E hr I2.env0 rz q3) fun r s' hq => ?_)
  cases r with
  | error e => exact hx pins σ _ _ e s' I2 hq
  | ok fl =>
    cases fl with
    | ret u => exact I2.after hq
    | next => exact False.elim hq
    | brk => exact False.elim hq
    | cont => exact False.elim hq
end
/-! ### repr of any value -/
def rReprD (K : Frag) : List V → Hp → VK → Prop := fun vs H Q => ∃ (v : V) (d : PD), vs = [v] ∧ Dp K H v d ∧ d.showable = true ∧ d.hasDict = false ∧ d.depth ≤ 50 ∧ d.shown.length ≤ sizeLine ∧ Q (.str d.shown) H
theorem c_reprD {X : Cx} {K : Frag} (hu : X.A.units + 64 < cLine) (hg : Gu X.A) (e : X.K = K := by rfl) : CallR X (.builtin "repr") (rReprD K) := by
  subst e
  intro pins s σ H vs us Q I r h
  obtain ⟨v, d, rfl, hd, hs, hn, hdp, hz, q⟩ := h
  cases v with
  | ref a =>
    rw [Vals.ref1 r]
    obtain ⟨as, rd⟩ := Dp.reads I d (.ref a) (.ref a) hd rfl
    exact repr_of_reads' rd hs (PyData.noDict_hsm hn) hg (by omega) (fun _ _ e => e) (fun h' u tk hk => ⟨.str d.shown, H, I.kept hk, ⟨_, rfl⟩, q⟩) hz
  | non =>
    cases hd
    obtain ⟨u, rfl, e⟩ := vals1 r
    obtain rfl : u = Value.none := e
    rw [PyData.shown] at q
    exact PySem.P.repr_of_none ⟨.str _, H, I.tok _, ⟨_, rfl⟩, q⟩
  | bl b =>
    cases hd
    obtain ⟨u, rfl, e⟩ := vals1 r
    obtain rfl : u = Value.bool b := e
    rw [PyData.shown] at q
    exact PySem.P.repr_of_bool ⟨.str _, H, I.tok _, ⟨_, rfl⟩, by cases b <;> exact q⟩
  | int i =>
    cases hd
    obtain ⟨u, rfl, t, rfl⟩ := vals1 r
    rw [PyData.showable] at hs
    rw [PyData.shown] at q
    exact PySem.P.repr_of_int (of_decide_eq_true hs) ⟨.str _, H, I.tok _, ⟨_, rfl⟩, q⟩
  | str x =>
    cases hd
    obtain ⟨u, rfl, t, rfl⟩ := vals1 r
    rw [PyData.shown] at hz q
    exact PySem.P.repr_of_str ⟨.str _, H, I.tok _, ⟨_, rfl⟩, q⟩ hz
  | _ => exact absurd hd (by intro z; cases z)
theorem repr_okd {K : Frag} {H : Hp} {Q : VK} {v : V} {n m : Nat} {d : PD} (h : Okd n m d) (hd : Dp K H v d) (q : Q (.str d.shown) H) (hm : m ≤ 50 := by omega) (hL : Lb n m ≤ sizeLine := by decide) : rReprD K [v] H Q :=
  ⟨v, d, rfl, hd, h.nice.sh, h.nice.nd, Nat.le_trans h.nice.dp hm, Nat.le_trans h.nice.len hL, q⟩
theorem repr_niceD {K : Frag} {H : Hp} {Q : VK} {v : V} {m L : Nat} {d : PD} (n : Nice m L d) (hd : Dp K H v d) (q : Q (.str d.shown) H) (hm : m ≤ 50 := by omega) (hL : L ≤ 1000000 := by omega) : rReprD K [v] H Q :=
  ⟨v, d, rfl, hd, n.sh, n.nd, Nat.le_trans n.dp hm, Nat.le_trans n.len (Nat.le_trans hL (by decide)), q⟩
end Cb

/-! An exception that was caught and kept in a name: it stands in the heap from there on. -/
namespace Cb
open PySem PySem.Spec PyProof.Rows L2 PySem.W
/-- at a: an exception that was caught, its class, its dict -/
def exh (a : Addr) (cls : Value) (d : Option Addr) : HO := .ext fun h => ∃ oe, h.get? a = some oe ∧ Zc cls d oe ∧ ∃ vs, oe.data = .fields vs
section
variable {P : Program} {w : World} {H : Hp} {h : Heap} {a : Addr} {cls : Value} {d : Option Addr}
theorem exh_at (hok : HOk P w H h) (e : H a = some (exh a cls d)) : ∃ oe, h.get? a = some oe ∧ Zc cls d oe ∧ ∃ vs, oe.data = .fields vs := by
  have x : ObjOk P w H h a (.ext fun h => ∃ oe, h.get? a = some oe ∧ Zc cls d oe ∧ ∃ vs, oe.data = .fields vs) := hok a _ e
  exact x.1
end
section
variable {X : Cx} {pins : List (Addr × Obj)} {σ : L2.St} {H : Hp} {s : Shared} {a : Addr} {oe : Obj} {cls : Value} {d : Option Addr}
/-- an object that nobody tracks is tracked from now on -/
theorem adopt (I : Inv X pins σ H s) (hz : Zc cls d oe) (ha : s.heap.get? a = some oe) (hf : ∃ vs, oe.data = .fields vs) (na : H a = none) (nL : a ≠ X.env.locals) (n0 : X.s_0.heap.get? a = none) (np : ∀ p ∈ X.pn ++ pins, p.1 ≠ a) : Inv X pins σ (upd H a (exh a cls d)) s := by
  refine ⟨I.ok, I.os, I.bare, ⟨I.base.keep, I.base.slot, fun b o e n hx => ?_, I.base.there, fun b xs e => ?_, fun b o u e => ?_, fun b ps e => ?_⟩, I.loc, I.cell, ?_, fun x c e => ?_, fun p hp => ?_, fun b o e => ?_, I.len⟩
  · rw [upd_ne (fun z => by rw [z, n0] at e; cases e)]
    exact I.base.free b o e n hx
  · have z := I.base.tups b xs e
    rw [upd_ne (ne_of_none z na)]
    exact z
  · have z := I.base.frzs b o u e
    rw [upd_ne (ne_of_none z na)]
    exact z
  · obtain ⟨m, z⟩ := I.base.tbls b ps e
    exact ⟨m, by rw [upd_ne (ne_of_none z na)]; exact z⟩
  · rw [upd_ne (Ne.symm nL)]
    exact I.free
  · obtain ⟨v, o, ho, hd⟩ := I.cell x c e
    have nc : c ≠ a := fun z => by
      obtain ⟨vs, hv⟩ := hf
      rw [z, ha] at ho
      cases ho
      rw [hv] at hd
      cases hd
    rw [upd_ne nc]
    exact I.freeC x c e
  · obtain ⟨e, n, ne, nf, dd⟩ := I.pin p hp
    exact ⟨e, by rw [upd_ne (np p hp)]; exact n, ne, nf, dd⟩
  · by_cases hb : b = a
    · subst hb
      rw [upd_same] at e
      cases e
      exact ⟨⟨oe, ha, hz, hf⟩, ⟨oe, ha⟩, fun h1 h2 ⟨o', q, r⟩ k => ⟨o', k _ q, r⟩⟩
    · rw [upd_ne hb] at e
      exact (I.hok b o e).stay (fun _ _ _ q => q) (fun c hc => by rw [upd_ne (ne_of_none hc na)]; exact hc) fun c xs hc => by rw [upd_ne (ne_of_none hc na)]; exact hc
end
/-- an exception at a, caught in a def's frame: the state sI without it, the ground G below it -/
structure Cgt (X : Cx) (pins : List (Addr × Obj)) (G : Heap) (a : Addr) (σ : L2.St) (H : Hp) (sI s' : Shared) : Prop where
  inv : Inv X pins σ H sI
  low : ∀ b o, sI.heap.get? b = some o → b ∉ frs X.stack → G.get? b = some o
  os : s'.os = sI.os
  bare : AllBare s'.gens
  new : G.get? a = none
  non : H a = none
  nfr : a ∉ frs X.stack
section
variable {X : Cx} {pins : List (Addr × Obj)} {G : Heap} {a : Addr} {σ : L2.St} {H : Hp} {sI s' : Shared}
theorem Cgt.ground (c : Cgt X pins G a σ H sI s') {h : Heap} (st : G.StaysIn h) (up : sI.heap.UpToSlots h) : Inv X pins σ H { s' with heap := h } := c.inv.landed c.low st up c.os c.bare
theorem Cgt.unheard (c : Cgt X pins G a σ H sI s') : sI.heap.get? a = none := by
  cases q : sI.heap.get? a with
  | none => rfl
  | some o => exact absurd ((c.low a o q c.nfr).symm.trans c.new) (by simp)
theorem Cgt.first (c : Cgt X pins G a σ H sI s') (hex : X.ex = []) : X.s_0.heap.get? a = none := by
  cases q : X.s_0.heap.get? a with
  | none => rfl
  | some o =>
    obtain ⟨o', q'⟩ := c.inv.base.there a o q (by rw [hex]; exact List.not_mem_nil)
    exact absurd (q'.symm.trans c.unheard) (by simp)
theorem Cgt.apart (c : Cgt X pins G a σ H sI s') : ∀ p ∈ X.pn ++ pins, p.1 ≠ a := fun p hp z => by
  have q := (c.inv.pin p hp).1
  rw [z] at q
  exact absurd (q.symm.trans c.unheard) (by simp)
theorem Cgt.frame (c : Cgt X pins G a σ H sI s') (hs : X.stack = X.env :: X.outer) (hf : X.env.frame = some X.env.locals) : a ≠ X.env.locals ∧ a ∉ X.fs := by
  have nf : a ∉ frs (X.env :: X.outer) := hs ▸ c.nfr
  have e : frs (X.env :: X.outer) = X.env.locals :: X.fs := by
    show (X.env :: X.outer).filterMap (·.frame) = _
    rw [List.filterMap_cons, hf]
    rfl
  rw [e] at nf
  exact ⟨fun z => nf (z ▸ List.mem_cons_self), fun z => nf (List.mem_cons_of_mem _ z)⟩
end
/-- what the clause 'except x as n' wishes where the exception is kept and each is the clause's: slot i is n's -/
def wKp (K : Frag) (n : Nat) (c : Value) (i : Nat) (ts : Addr → Value → Option Addr → TS) (D : Ends) : WX := fun cls d σ H =>
  PySem.W.exmOne K cls c = some true ∧ (σ.length = n → ∀ a, H a = none → ts a cls d { nx := fun σ' H' => H' a = none → D.nx (σ'.set i none) (upd H' a (exh a cls d)), rt := fun _ _ => False, bk := fun _ _ => False, ct := fun _ _ => False } (σ.set i (some (.ref a))) H)
section
variable {X : Cx} {x n : Str} {c : Value} {i : Nat} {body suite : List Stmt} {b₀ : Stmt} {np pos pos' : Pos} {tb : WX → TS} {ts : Addr → Value → Option Addr → TS}
/-- the clause runs with a caught exception that is its own; behind it the exception stands in the heap -/
theorem clause_keeps {pins : List (Addr × Obj)} {G : Heap} {a : Addr} {σ : L2.St} {H : Hp} {sI s' : Shared} {h : Heap} {cls : Value} {d : Option Addr} {D : Ends} (C : Cgt X pins G a σ H sI s') (hs : X.stack = X.env :: X.outer) (hf : X.env.frame = some X.env.locals) (hex : X.ex = [])
    (hN : X.N.Nodup) (hi : X.N[i]? = some n) (hln : X.env.kindOf n = some .local) (hc : Names X x c)
    (hsu : ∀ (a : Addr) (oe : Obj) (cls : Value) (d : Option Addr) (pn : List (Addr × Obj)), Zc cls d oe → (∃ vs, oe.data = .fields vs) → PSs (X.suite a ((a, oe) :: pn)) (b₀ :: suite) (ts a cls d))
    (fl : HandSPX.FlyingZ G (X.env :: X.outer) a (Zc cls d) h) (up : sI.heap.UpToSlots h) (w : wKp X.K X.N.length c i ts D cls d σ H) :
    wpAny (model X.prog X.w) X.A (handleBy (.ref a) X.env [.ExceptHandler (some (.Name x np)) (some n) (b₀ :: suite) pos']) (SP X pins D) X.xe { s' with heap := h } := by
  obtain ⟨hm, hw⟩ := w
  obtain ⟨nL, nF⟩ := C.frame hs hf
  -- is it the clause's?
  obtain ⟨o1, v1, g1, z1, d1⟩ := fl.there
  have I1 := C.ground fl.1 up
  have T1 := I1.suite g1 d1 C.non nL nF
  have own : PySem.W.Looks (model X.prog X.w) h (typeOf (.ref a)) cls := fun _ _ _ _ k q => wpAny_typeOf_ref (k _ _ g1) (z1.1 ▸ q)
  have looked := PySem.W.exm_one (M := model X.prog X.w) I1.kIn own hm
  have named : ∀ (Q' E' : Value → Shared → Prop), Q' c { s' with heap := h } → wpAny (model X.prog X.w) (X.A.mark (some (.ref a))) (eval (.Name x np) X.env) Q' E' { s' with heap := h } := fun Q' E' q => by
    rcases hc with ⟨g, nd, m | ⟨m, bt, nn⟩⟩
    · exact ld_glob (X := X.suite a ((a, o1) :: (X.pn ++ pins))) T1 g m q nd
    · exact ld_blt (X := X.suite a ((a, o1) :: (X.pn ++ pins))) T1 g m bt q nn nd
  refine wpAny_handleBy_cons (codeAny_handlers_test (named _ _ (looked.here ?_))) (fun z => nomatch z)
  -- the name is bound, the suite runs
  refine codeAny_handlers_suite_as (HandSPX.lands_againZ fl fun h2 fl2 up2 => ?_)
  obtain ⟨o2, v2, g2, z2, d2⟩ := fl2.there
  have T2 := (C.ground fl2.1 (up.trans up2)).suite g2 d2 C.non nL nF
  refine store_ok (X := X.suite a ((a, o2) :: (X.pn ++ pins))) (v := .ref a) T2 hN hi (.inl hln) rfl (fun s3 T3 => ?_) (.inr hln)
  refine wpAny_mono ((hsu a o2 cls d (X.pn ++ pins) z2 ⟨_, d2⟩).run [] s3 _ H _ T3 (hw C.inv.len a C.non)) (fun f s4 ends => ?_) (fun _ _ z => z.elim)
  -- the name goes, the exception is tracked
  match f, ends with
  | .next, ⟨σ4, H4, T4, q4⟩ =>
    have p4 := T4.pin (a, o2) (List.mem_append_left _ List.mem_cons_self)
    exact gone_ok (adopt (T4.unsuite C.inv.ok) z2 p4.1 ⟨_, d2⟩ p4.2.1 nL (C.first hex) C.apart) hN hi hln fun s5 I5 => ⟨_, _, I5, q4 p4.2.1⟩
  | .brk, ⟨_, _, _, z⟩ => exact z.elim
  | .cont, ⟨_, _, _, z⟩ => exact z.elim
  | .ret _, ⟨_, _, _, _, _, z⟩ => exact z.elim
/-- try: body / except x as n: suite, where each exception is the clause's, and n's object is kept -/
theorem ps_try_keep (hs : X.stack = X.env :: X.outer) (hf : X.env.frame = some X.env.locals) (hex : X.ex = []) (hN : X.N.Nodup) (hi : X.N[i]? = some n) (hln : X.env.kindOf n = some .local) (hc : Names X x c)
    (hb : ∀ (W : WX) (pn : List (Addr × Obj)) (xe : Value → Shared → Prop), Takes (X.tr pn xe) W → PSs (X.tr pn xe) body (tb W))
    (hsu : ∀ (a : Addr) (oe : Obj) (cls : Value) (d : Option Addr) (pn : List (Addr × Obj)), Zc cls d oe → (∃ vs, oe.data = .fields vs) → PSs (X.suite a ((a, oe) :: pn)) (b₀ :: suite) (ts a cls d)) :
    PS X (.Try body [.ExceptHandler (some (.Name x np)) (some n) (b₀ :: suite) pos'] [] [] pos) (fun D σ H => tb (wKp X.K X.N.length c i ts D) D σ H) := by
  refine ⟨fun pins s σ H D I h => wpAny_Try_except ?_⟩
  have fr : X.A.frames = some (X.env :: X.outer) := hs ▸ I.ok.frames
  refine wpAny_mono (PSs.run (hb (wKp X.K X.N.length c i ts D) (X.pn ++ pins) (fun v s1 => wpAny (model X.prog X.w) X.A (noteFrame v X.env) (fun _ s2 => wpAny (model X.prog X.w) X.A (setFlight v none) (fun _ s3 => wpAny (model X.prog X.w) X.A (handleBy v X.env [.ExceptHandler (some (.Name x np)) (some n) (b₀ :: suite) pos']) (SP X pins D) X.xe s3) X.xe s2) X.xe s1)
    (fun u s' air => ?_)) [] s σ H D (I.toTry _) h) (fun f s1 ends => ?_) fun _ _ z => z
  · obtain ⟨a, G, sI, pins', σ', H', cls, d, rfl, I', low, up, sky, na, os, ag, w⟩ := air
    refine Sky.land Zc.steady fr hf (hs ▸ sky) fun h3 fl up3 => ?_
    have nfr : a ∉ frs X.stack := fun hm => by
      obtain ⟨oe, vs, g, _, hd⟩ := fl.there
      obtain ⟨_, o', g', nf⟩ := fl.2.2.1.mem (hs ▸ hm)
      rw [g] at g'
      cases g'
      exact nf _ hd
    exact clause_keeps ⟨I'.ofTry I.ok, low, os, ag, fl.2.1, na, nfr⟩ hs hf hex hN hi hln hc hsu fl (up.trans up3) w
  · match f, ends with
    | .next, ⟨_, _, I1, q⟩ => exact wpAny_execs_nil ⟨_, _, I1.ofTry I.ok, q⟩
    | .brk, ⟨_, _, I1, q⟩ => exact ⟨_, _, I1.ofTry I.ok, q⟩
    | .cont, ⟨_, _, I1, q⟩ => exact ⟨_, _, I1.ofTry I.ok, q⟩
    | .ret _, ⟨_, _, _, I1, r, q⟩ => exact ⟨_, _, _, I1.ofTry I.ok, r, q⟩
end
/-! ### such an exception is looked at -/
/-- its dict stands -/
def Exh (H : Hp) (a D : Addr) (fs : List (Str × V)) : Prop := ∃ dd, H a = some (exh a (.ref D) (some dd)) ∧ H dd = some (.xd fs)
section
variable {X : Cx} {pins : List (Addr × Obj)} {σ : L2.St} {H : Hp} {s : Shared} {a D : Addr} {fs : List (Str × V)}
theorem exh_inst (I : Inv X pins σ H s) (h : Exh H a D fs) : ∃ (oe od : Obj) (mA : Str → Option Value), PySem.W.InstAt s.heap a oe D (some od) ∧ (∀ name, PySem.W.lookIn name od = some (mA name)) ∧ ∀ f, RelO (fs.lookup f) (mA f) := by
  obtain ⟨dd, e1, e2⟩ := h
  obtain ⟨oe, ha, hz, vs, hv⟩ := exh_at I.hok e1
  have hx : ObjOk X.prog X.w H s.heap dd (.xd fs) := I.hok dd _ e2
  obtain ⟨mA, hns, hr⟩ := hx
  obtain ⟨od, ho, hl⟩ := lookIn_ns hns
  exact ⟨oe, od, mA, ⟨ha, hz.1, by unfold PySem.W.notCls; rw [hv] <;> rfl, by rw [hz.2]; exact ho⟩, hl, hr⟩
/-- isinstance(e, c) -/
def rIsX (K : Frag) : List V → Hp → VK → Prop := fun xs H Q => ∃ (a D : Addr) (fs : List (Str × V)) (c : V) (cv : Value) (b : Bool), xs = [.ref a, c] ∧ ClsV c cv ∧ Exh H a D fs ∧ ExcC K D ∧ PySem.W.kitOne K (.ref D) cv = some b ∧ Q (.bl b) H
theorem c_isX {X : Cx} {K : Frag} (e : X.K = K := by rfl) : CallR X (.builtin "isinstance") (rIsX K) := by
  subst e
  intro pins s σ H xs us Q I r h
  obtain ⟨a, D, fs, c, cv, b, rfl, hcv, hx, C, e, q⟩ := h
  obtain ⟨u1, u2, rfl, r1, r2⟩ := vals2 r
  cases (show u1 = Value.ref a from r1)
  have ec := hcv.eq r2
  subst ec
  obtain ⟨oe, od, mA, J, _⟩ := exh_inst I hx
  exact PySem.W.kia_one (PySem.W.kitx_exc (by obtain ⟨cd, hc, _⟩ := any_some C.hd; rw [hc]; rfl) C.hg C.hk C.hs C.ha C.hn C.ht C.hm) I.kIn J e (fun z => nomatch z) fun tk => ⟨.bl b, H, I.kept (t' := tk) fun _ _ z => z, rfl, q⟩
/-- isinstance(e, (c1, ..)) -/
def rIsXT (K : Frag) : List V → Hp → VK → Prop := fun xs H Q => ∃ (a D : Addr) (fs : List (Str × V)) (tp : Addr) (cs : List V) (us : List Value) (b : Bool), xs = [.ref a, .ref tp] ∧ H tp = some (.tup cs) ∧ Paired ClsV cs us ∧ Exh H a D fs ∧ ExcC K D ∧ PySem.W.kitAny K (.ref D) us = some b ∧ Q (.bl b) H
theorem c_isXT {X : Cx} {K : Frag} (e : X.K = K := by rfl) : CallR X (.builtin "isinstance") (rIsXT K) := by
  subst e
  intro pins s σ H xs us Q I r h
  obtain ⟨a, D, fs, tp, cs, ws, b, rfl, hT, k, hx, C, e, q⟩ := h
  obtain ⟨u1, u2, rfl, r1, r2⟩ := vals2 r
  cases (show u1 = Value.ref a from r1)
  cases (show u2 = Value.ref tp from r2)
  obtain ⟨oe, od, mA, J, _⟩ := exh_inst I hx
  obtain ⟨_, its, rv, o, h1, h2, n, h3⟩ := (show ObjOk X.prog X.w H s.heap tp (.tup cs) from I.hok tp _ hT)
  have e3 := ClsV.all k rv
  subst e3
  obtain ⟨oc, od', dt, sl⟩ := o
  simp only at h2 h3
  subst h2 h3
  exact PySem.W.kia_tup (PySem.W.kitx_exc (by obtain ⟨cd, hc, _⟩ := any_some C.hd; rw [hc]; rfl) C.hg C.hk C.hs C.ha C.hn C.ht C.hm) I.kIn J h1 e (fun z => nomatch z) fun tk => ⟨.bl b, H, I.kept (t' := tk) fun _ _ z => z, rfl, q⟩
/-- e.f -/
def tXh (K : Frag) (f : Str) (te : TE) : TE := fun σ H Q => te σ H fun x H1 => ∃ (a D : Addr) (fs : List (Str × V)) (v : V), x = .ref a ∧ Exh H1 a D fs ∧ XfC K D ∧ PySem.W.findIn K (.ref D) f = some none ∧ fs.lookup f = some v ∧ Q v H1
theorem pe_xh {X : Cx} {K : Frag} {e : Expr} {te : TE} {pos : Pos} {n : Str} (he : PE X e te) (hb : attributeBase e n X.env (eval e X.env) = eval e X.env := by rfl) (eK : X.K = K := by rfl) :
    PE X (.Attribute e n pos) (tXh K n te) := by
  subst eK
  refine ⟨fun pins s σ H Q I h => ?_⟩
  refine attr_of hb (thn (he.run pins s σ H _ I h) fun u s1 hh => ?_)
  obtain ⟨x, H1, I1, rx, a, D, fs, v, ex, hx, T, hno, l, q⟩ := hh
  subst ex
  obtain rfl : u = Value.ref a := rx
  obtain ⟨oe, od, mA, J, hl, hr⟩ := exh_inst I1 hx
  obtain ⟨u, hu, ru⟩ := RelO.some_of (v := v) (o := mA n) (by rw [← l]; exact hr n)
  exact HandSPX.exc_get I1.kIn J T.ga T.gg T.exC (PySem.W.findObj_own T.hdC hno rfl (by rw [hl, hu])) (handed_of ru) ⟨v, H1, I1.tok _, ru, q⟩
end
end Cb

/-! The program's own defs. -/
namespace K50
open PySem PySem.Spec PyProof.Rows L2 PySem.W Cb
def top (i : Nat) : Stmt := PySem.Challenge.pw_crewbook_k50_first_crews_found.main.body.getD i (.Pass ⟨0, 0, 0, 0⟩)
/-- the built-in names that nobody hides -/
structure Blt (mg : Str → Option Value) : Prop where
  len : mg "len" = none
  list : mg "list" = none
  tuple : mg "tuple" = none
  range : mg "range" = none
  sorted : mg "sorted" = none
  any : mg "any" = none
  all : mg "all" = none
  min : mg "min" = none
  max : mg "max" = none
  repr : mg "repr" = none
/-- a def of the text that stands where its name says, with its promise -/
structure Own (P : Program) (w : World) (K : Frag) (mg : Str → Option Value) (base : Heap) (k : Nat) (x : Str) (ps : List Str) (sp : Sp) where
  f : Addr
  fd : FuncData
  G : FnOk P w K mg base CX0 k f fd ps sp
  m : mg x = some (.ref f)
  kp : keepIn K (.ref f) = true
  b : Binds K fd ps []

end K50

namespace K50
open PySem PySem.Spec PyProof.Rows L2 PySem.W Cb
theorem flat_le {α β : Type} (m : Nat) (f : α → List β) : ∀ l : List α, (∀ x ∈ l, (f x).length ≤ m) → (l.flatMap f).length ≤ l.length * m
  | [], _ => by simp
  | x :: l, h => by
    have h1 := flat_le m f l fun y hy => h y (List.mem_cons_of_mem _ hy)
    have h2 := h x List.mem_cons_self
    rw [List.flatMap_cons, List.length_append, List.length_cons, Nat.succ_mul]
    omega
def pool : List Str := ["a", "b", "c", "d", "ed", "zzzzzzzz"]
theorem pool_cb : ∀ n ∈ pool, Cb.okS n := by
  intro n hn
  have h : (pool.all fun n => PyData.strOk n && decide ((reprText n).length ≤ 20)) = true := by decide +kernel
  have h2 := List.all_eq_true.mp h n hn
  simp only [Bool.and_eq_true, decide_eq_true_eq] at h2
  exact h2
/-- a name of the pool -/
def okS (n : Str) : Prop := n ∈ pool
theorem okS.cb {n : Str} (h : okS n) : Cb.okS n := pool_cb n h
theorem ordT : TotalLe (dataLe false sD) := sortLe_total _ _ _
theorem srtT_ord (ts : List (List Str)) : (srtT ts).Pairwise fun a b => dataLe false sD a b = true := sort_pairwise ordT ts
/-- lists of crews as the law makes them -/
structure Gt (ts : List (List Str)) : Prop where
  many : ts.length ≤ 64
  each : ∀ t ∈ ts, t ≠ [] ∧ t.length ≤ 8 ∧ ∀ n ∈ t, okS n
  ord : ts.Pairwise fun a b => dataLe false sD a b = true

end K50

namespace K50
open PySem PySem.Spec PyProof.Rows L2 PySem.W Cb Evl
/-! ### the draws -/
def rngV (c nx rest dr : V) : List (Key × V) := [(.inr "cells", c), (.inr "next", nx), (.inr "rest", rest), (.inr "draws", dr)]
section
variable {H : Hp} {r : Addr} {c nx rest dr v : V}
theorem dg_cells (h : H r = some (.dK (rngV c nx rest dr))) : DGet H r (.str "cells") (some c) := DGet.k (k := .inr "cells") h
theorem dg_next (h : H r = some (.dK (rngV c nx rest dr))) : DGet H r (.str "next") (some nx) := DGet.k (k := .inr "next") h
theorem dg_rest (h : H r = some (.dK (rngV c nx rest dr))) : DGet H r (.str "rest") (some rest) := DGet.k (k := .inr "rest") h
theorem dg_draws (h : H r = some (.dK (rngV c nx rest dr))) : DGet H r (.str "draws") (some dr) := DGet.k (k := .inr "draws") h
theorem dp_next (h : H r = some (.dK (rngV c nx rest dr))) : DPut H r (.str "next") v (upd H r (.dK (rngV c v rest dr))) := DPut.k (k := .inr "next") h (by show 4 < sizeLine; decide)
theorem dp_rest (h : H r = some (.dK (rngV c nx rest dr))) : DPut H r (.str "rest") v (upd H r (.dK (rngV c nx v dr))) := DPut.k (k := .inr "rest") h (by show 4 < sizeLine; decide)
theorem dp_draws (h : H r = some (.dK (rngV c nx rest dr))) : DPut H r (.str "draws") v (upd H r (.dK (rngV c nx rest v))) := DPut.k (k := .inr "draws") h (by show 4 < sizeLine; decide)
end
/-- the dict of the draws at r, its cells at c: at most d of them were made -/
def Rng (H : Hp) (r c : Addr) (d : Int) : Prop := ∃ (ns : List Int) (nx rest dr : Int), H r = some (.dK (rngV (.ref c) (.int nx) (.int rest) (.int dr))) ∧ H c = some (.lst (ns.map V.int)) ∧ 0 ≤ nx ∧ 0 ≤ dr ∧ dr ≤ d
theorem Rng.same {H H' : Hp} {r c : Addr} {d : Int} (e : Same H H') (h : Rng H r c d) : Rng H' r c d := by
  obtain ⟨ns, nx, rest, dr, h1, h2, h3⟩ := h
  exact ⟨ns, nx, rest, dr, e _ _ h1, e _ _ h2, h3⟩
theorem Rng.le {H : Hp} {r c : Addr} {d e : Int} (h : Rng H r c d) (l : d ≤ e) : Rng H r c e := by
  obtain ⟨ns, nx, rest, dr, h1, h2, h3, h4, h5⟩ := h
  exact ⟨ns, nx, rest, dr, h1, h2, h3, h4, Int.le_trans h5 l⟩
/-- a list that the draws don't know may change -/
theorem Rng.mut {H H0 : Hp} {r c l : Addr} {d d0 : Int} {o : HO} (h : Rng H r c d) (n : H0 l = none) (h0 : Rng H0 r c d0) : Rng (upd H l o) r c d := by
  obtain ⟨ns, nx, rest, dr, h1, h2, h3⟩ := h
  obtain ⟨_, _, _, _, g1, g2, _⟩ := h0
  exact ⟨ns, nx, rest, dr, by rw [upd_ne (ne_of_none g1 n)]; exact h1, by rw [upd_ne (ne_of_none g2 n)]; exact h2, h3⟩
section
variable {P : Program} {w : World} {K : Frag} {mg : Str → Option Value} {base : Heap}
theorem dpInts {K : Frag} {H : Hp} : ∀ ns : List Int, DpAll K H (ns.map V.int) (ns.map PyData.int)
  | [] => .nil
  | n :: ns => .cons (.int n) (dpInts ns)
theorem lay_ints : ∀ ns : List Int, PyData.canLayAll0 (ns.map .int) = true
  | [] => by simp [PyData.canLayAll0]
  | n :: ns => by
    show PyData.canLayAll0 (.int n :: ns.map .int) = true
    rw [PyData.canLayAll0, lay_ints ns, PyData.canLay0]
    rfl
theorem shaped_ints (ns : List Int) : SeqAt.shaped (.list (ns.map .int)) = true := by
  unfold SeqAt.shaped
  rw [PyData.canLay0, lay_ints, PyData.depth, PySem.W.depth_ints]
  rfl
theorem shaped_nil : SeqAt.shaped (.list []) = true := by
  unfold SeqAt.shaped
  simp [PyData.canLay0, PyData.canLayAll0, PyData.depth, PyData.depthAll]
abbrev s_draw : Stmt := top 21
abbrev N_draw : List Str := ["_law_rng", "_law_limit", "_law_draws", "_law_digit", "_law_index", "_law_cell", "_law_mixed"]
theorem sc_draw : FnScope N_draw ["_law_rng", "_law_limit"] (defScope s_draw) := ⟨rfl, rfl, rfl, by decide +kernel, rfl, by decide +kernel, by decide +kernel⟩
def sp_draw : Sp := fun vs H Q _ => ∃ (r c : Addr) (n d : Int), vs = [.ref r, .int n] ∧ 0 < n ∧ n < 2 ^ 60 ∧ d ≤ 1000000000 ∧ Rng H r c d ∧ ∀ z H', Ch r H H' → Rng H' r c (d + 1) → 0 ≤ z → z < n → Q (.int z) H'
theorem ok_draw {f : Addr} {fd : FuncData} {k : Nat} (F : Fun K "_law_draw" "_law_draw" s_draw f fd) (B : Blt mg) : FnOk P w K mg base CX0 (k + 1) f fd ["_law_rng", "_law_limit"] sp_draw := by
  refine F.ok sc_draw (fun vs H Q E h => ?_) (fun cdv A outer s H vs Q E hr h => ?_)
  · obtain ⟨_, _, _, _, rfl, _⟩ := h
    rfl
  · obtain ⟨r, c, n, d, rfl, hn, hn2, hd, ⟨ns, nx, rest, dr, h0, hc, hnx, hdr, hdd⟩, q⟩ := h
    have ncr : c ≠ r := ne_of hc h0 (by intro z; cases z)
    have wd : CDivW 0 n := ⟨hn, by
      have := wide_div (i := 0) (j := n) (b := 60) hn (by omega) (by decide) (by decide)
      exact this.2⟩
    refine ⟨_, (pss_cons (ps_set (i := 2) sc_draw.nd rfl (Or.inl rfl) (pe_op op_add (pe_dget (hu_of hr) (pv 0) pe_str (fun _ _ => rfl)) pe_int))
      (pss_cons (ps_dput (hu_of hr) (pv 0) pe_str (pv 2) rfl)
      (pss_cons (ps_if (pt_cmpR op_gt (pe_dget (hu_of hr) (pv 0) pe_str (fun _ _ => rfl)) pe_int (nomark _)) (pss_cons (ps_set (i := 3) sc_draw.nd rfl (Or.inl rfl) (pe_op op_mod (pe_dget (hu_of hr) (pv 0) pe_str (fun _ _ => rfl)) (pv 1)))
      (pss_cons (ps_dput (hu_of hr) (pv 0) pe_str (pe_op op_fdivW (pe_dget (hu_of hr) (pv 0) pe_str (fun _ _ => rfl)) (pv 1)) rfl)
      (pss_one (ps_ret (pv 3))))) pss_nil)
      (pss_cons (ps_set (i := 4) sc_draw.nd rfl (Or.inl rfl) (pe_dget (hu_of hr) (pv 0) pe_str (fun _ _ => rfl)))
      (pss_cons (ps_dput (hu_of hr) (pv 0) pe_str (pe_op op_add (pv 4) pe_int) rfl)
      (pss_cons (ps_set (i := 5) sc_draw.nd rfl (Or.inl rfl) pe_int)
      (pss_cut (ps_if (pt_cmpR (o_neD K hr.units) (pe_dget (hu_of hr) (pv 0) pe_str (fun _ _ => rfl)) (pe_lst pa_nil) (nomark _)) (pss_one (ps_set (i := 5) sc_draw.nd rfl (Or.inl rfl) (pe_ix (i_list K) (pe_dget (hu_of hr) (pv 0) pe_str (fun _ _ => rfl)) (pe_op op_mod (pv 4) (pe_callB (c_len K) (by rfl) B.len (by decide +kernel) (pa_cons (pe_dget (hu_of hr) (pv 0) pe_str (fun _ _ => rfl)) pa_nil))) (fun _ _ => rfl)))) pss_nil)
      (pss_cut (ps_if (PW.pt (pw_and (pt_cmpR op_ge (pv 5) (pe_op op_pow pe_int pe_int) (nomark _)) (pw_and1 (pt_cmpR op_lt (pv 4) (pe_callB (c_len K) (by rfl) B.len (by decide +kernel) (pa_cons (pe_dget (hu_of hr) (pv 0) pe_str (fun _ _ => rfl)) pa_nil)) (nomark _))))) (pss_cons (ps_dput (hu_of hr) (pv 0) pe_str (pe_op op_fdivW (pv 5) (pv 1)) rfl)
      (pss_one (ps_ret (pe_op op_mod (pv 5) (pv 1))))) pss_nil)
      (pss_cons (ps_set (i := 6) sc_draw.nd rfl (Or.inl rfl) (pe_op op_mod (pe_op op_pow (pe_op op_add (pe_op op_add (pe_op op_mod (pv 5) pe_int) (pe_op op_mul pe_int (pv 2))) pe_int) pe_int) pe_int))
      (pss_cons (ps_set (i := 6) sc_draw.nd rfl (Or.inl rfl) (pe_op op_mod (pe_op op_pow (pe_op op_add (pv 6) (pe_op op_mul pe_int (pv 2))) pe_int) pe_int))
      (pss_one (ps_ret (pe_op op_mod (pe_op op_fdivW (pv 6) pe_int) (pv 1)))))))))))))), ?_⟩
    refine ⟨_, rfl, r, _, rfl, dg_draws h0, _, _, rfl, rfl, ?_⟩
    refine ⟨_, rfl, _, rfl, r, _, rfl, dp_draws h0, ?_⟩
    have c1 := Ch.put (k' := rngV (.ref c) (.int nx) (.int rest) (.int (dr + 1))) h0
    have h1 : (upd H r (.dK (rngV (.ref c) (.int nx) (.int rest) (.int (dr + 1))))) r = some (.dK (rngV (.ref c) (.int nx) (.int rest) (.int (dr + 1)))) := upd_same
    have hc1 := c1.lst hc
    generalize upd H r (.dK (rngV (.ref c) (.int nx) (.int rest) (.int (dr + 1)))) = H1 at c1 h1 hc1 ⊢
    refine ⟨_, rfl, r, _, rfl, dg_rest h1, _, _, rfl, rfl, _, rfl, ite2 (fun _ => ?_) (fun _ => ?_)⟩
    · refine ⟨_, rfl, r, _, rfl, dg_rest h1, _, rfl, _, _, rfl, rfl, hn, ?_⟩
      refine ⟨_, rfl, r, _, rfl, dg_rest h1, _, rfl, _, _, rfl, rfl, wd, _, rfl, r, _, rfl, dp_rest h1, _, rfl, ?_⟩
      exact q _ _ (c1.trans (Ch.put h1)) ⟨ns, nx, _, dr + 1, upd_same, (Ch.put h1).lst hc1, hnx, by omega, by omega⟩ (Int.emod_nonneg _ (by omega)) (Int.emod_lt_of_pos _ hn)
    · refine ⟨_, rfl, r, _, rfl, dg_next h1, ?_⟩
      refine ⟨_, rfl, _, _, rfl, rfl, _, rfl, r, _, rfl, dp_next h1, ?_⟩
      have c2 := c1.trans (Ch.put (k' := rngV (.ref c) (.int (nx + 1)) (.int rest) (.int (dr + 1))) h1)
      have h2 : (upd H1 r (.dK (rngV (.ref c) (.int (nx + 1)) (.int rest) (.int (dr + 1))))) r = some (.dK (rngV (.ref c) (.int (nx + 1)) (.int rest) (.int (dr + 1)))) := upd_same
      have hc2 := (Ch.put (k' := rngV (.ref c) (.int (nx + 1)) (.int rest) (.int (dr + 1))) h1).lst hc1
      generalize upd H1 r (.dK (rngV (.ref c) (.int (nx + 1)) (.int rest) (.int (dr + 1)))) = H2 at c2 h2 hc2 ⊢
      refine ⟨fun σ' H' => ∃ cell : Int, σ' = [some (.ref r), some (.int n), some (.int (dr + 1)), none, some (.int nx), some (.int cell), none] ∧ Same H2 H', ?_, ?_⟩
      · refine ⟨_, rfl, r, _, rfl, dg_cells h2, Nat.zero_le _, fun l nl => ⟨.list (ns.map .int), .list [], .lst (sl_ (same_upd nl _ _ hc2)) (dpInts ns), .lst (sl_ upd_same) .nil, shaped_ints ns, shaped_nil, _, rfl, ?_⟩⟩
        have e3 : Same H2 (upd H2 l (.lst [])) := same_upd nl
        rw [eqv_list_nil]
        refine ite2 (fun hne => ?_) (fun _ => ⟨17, rfl, e3⟩)
        have hlen : 0 < ns.length := by
          cases ns with
          | nil => exact absurd hne (by decide)
          | cons _ _ => exact Nat.succ_pos _
        have hm0 : 0 ≤ nx % (ns.length : Int) := Int.emod_nonneg _ (by omega)
        have hm1 : nx % (ns.length : Int) < (ns.length : Int) := Int.emod_lt_of_pos _ (by omega)
        obtain ⟨j, hj⟩ : ∃ j : Nat, nx % (ns.length : Int) = (j : Int) := ⟨(nx % (ns.length : Int)).toNat, by omega⟩
        have hjl : j < ns.length := by omega
        refine ⟨_, rfl, r, _, rfl, dg_cells (e3 _ _ h2), _, rfl, _, rfl, r, _, rfl, dg_cells (e3 _ _ h2), c, _, rfl, .inl (sl_ (e3 _ _ hc2)), _, _, rfl, rfl, by rw [List.length_map]; omega,
          c, ns.map V.int, _, .int ns[j], rfl, rfl, sl_ (e3 _ _ hc2), ?_, ?_⟩
        · rw [List.length_map, hj]
          exact atI_nat (by rw [List.getElem?_map, List.getElem?_eq_getElem hjl]; rfl)
        · exact ⟨ns[j], rfl, e3⟩
      · rintro σ' H3 ⟨cell, rfl, e3⟩
        have h3 := e3 _ _ h2
        have hc3 := e3 _ _ hc2
        have c3 := c2.trans (Ch.of e3)
        refine ⟨fun σ' H' => σ' = [some (.ref r), some (.int n), some (.int (dr + 1)), none, some (.int nx), some (.int cell), none] ∧ H' = H3, ?_, ?_⟩
        · refine ⟨_, rfl, _, _, rfl, rfl, ⟨by decide, by decide, by decide⟩, _, _, rfl, rfl, _, rfl, ite2 (fun _ => ?_) (fun _ => iteF ⟨rfl, rfl⟩)⟩
          refine ⟨_, rfl, _, rfl, r, _, rfl, dg_cells h3, c, _, rfl, .inl (sl_ hc3), _, _, rfl, rfl, _, rfl, ite2 (fun _ => ?_) (fun _ => ⟨rfl, rfl⟩)⟩
          refine ⟨_, rfl, _, rfl, _, _, rfl, rfl, wd, _, rfl, r, _, rfl, dp_rest h3, _, rfl, _, rfl, _, _, rfl, rfl, hn, ?_⟩
          exact q _ _ (c3.trans (Ch.put h3)) ⟨ns, nx + 1, _, dr + 1, upd_same, (Ch.put h3).lst hc3, by omega, by omega, by omega⟩ (Int.emod_nonneg _ (by omega)) (Int.emod_lt_of_pos _ hn)
        · rintro σ' H' ⟨rfl, rfl⟩
          refine ⟨_, rfl, _, _, rfl, rfl, (by decide : (0 : Int) < 2147483579), _, rfl, _, _, rfl, rfl, .inl ⟨by decide, by decide⟩, _, _, rfl, rfl, _, _, rfl, rfl, _, _, rfl, rfl, ⟨by decide, by decide, by omega⟩, _, _, rfl, rfl, (by decide : (0 : Int) < 2147483629), ?_⟩
          refine ⟨_, rfl, _, rfl, _, _, rfl, rfl, .inl ⟨by decide, by decide⟩, _, _, rfl, rfl, _, _, rfl, rfl, ⟨by decide, by decide, ?_⟩, _, _, rfl, rfl, (by decide : (0 : Int) < 2147483647), ?_⟩
          · have a1 := Int.emod_nonneg ((cell % 2147483579 + 8009 * (dr + 1) + 13) ^ (5 : Int).toNat) (b := 2147483629) (by decide)
            have a2 := Int.emod_lt_of_pos ((cell % 2147483579 + 8009 * (dr + 1) + 13) ^ (5 : Int).toNat) (b := 2147483629) (by decide)
            omega
          · refine ⟨_, rfl, _, _, rfl, rfl, ⟨by decide, by decide⟩, _, rfl, _, _, rfl, rfl, hn, ?_⟩
            exact q _ _ c3 ⟨ns, nx + 1, rest, dr + 1, h3, hc3, by omega, by omega, by omega⟩ (Int.emod_nonneg _ (by omega)) (Int.emod_lt_of_pos _ hn)
end
end K50

namespace K50
open PySem PySem.Spec PyProof.Rows L2 PySem.W Cb
def nc (c o : List Str) : List Str := o.filter fun p => !isIn p c
theorem ok_nc {c o : List Str} (h : ∀ n ∈ o, okS n) : ∀ n ∈ nc c o, okS n := fun n hn => h n (List.mem_filter.mp hn).1
end K50
namespace K50
open PySem PySem.Spec PyProof.Rows L2 PySem.W Cb Evl
theorem erase_map {α β : Type} (f : α → β) : ∀ (l : List α) (j : Nat), (l.map f).eraseIdx j = (l.eraseIdx j).map f
  | [], _ => rfl
  | _ :: _, 0 => rfl
  | x :: l, j + 1 => by
    show f x :: (l.map f).eraseIdx j = f x :: (l.eraseIdx j).map f
    rw [erase_map f l j]
section
variable {P : Program} {w : World} {K : Frag} {mg : Str → Option Value} {base : Heap}
/-! ### the dict of the draws -/
abbrev s_source : Stmt := top 20
theorem sc_source : FnScope ["_law_script"] ["_law_script"] (defScope s_source) := ⟨rfl, rfl, rfl, by decide +kernel, rfl, by decide +kernel, by decide +kernel⟩
def sp_source (K : Frag) : Sp := fun vs H Q _ => ∃ (a : Addr) (ns : List Int), vs = [.ref a] ∧ SqL K H a (ns.map V.int) ∧ ∀ r c H', Same H H' → Rng H' r c 0 → Q (.ref r) H'
theorem ok_source {f : Addr} {fd : FuncData} {k : Nat} (F : Fun K "_law_source" "_law_source" s_source f fd) (B : Blt mg) : FnOk P w K mg base CX0 (k + 1) f fd ["_law_script"] (sp_source K) := by
  refine F.ok sc_source (fun vs H Q E h => ?_) (fun cdv A outer s H vs Q E hr h => ?_)
  · obtain ⟨_, _, rfl, _⟩ := h
    rfl
  · obtain ⟨a, ns, rfl, hS, q⟩ := h
    refine ⟨_, (pss_one (ps_ret (pe_disp (pps_cons pe_str (pe_callTy (c_list K) (by rfl) B.list (by decide +kernel) (pa_cons (pe_slice (s_list K) (pv 0) po_none (po_some pe_int)) pa_nil)) (pps_cons pe_str pe_int (pps_cons pe_str pe_int (pps_cons pe_str pe_int pps_nil)))) (by rfl) (by rfl) (fun z => by cases z) (by decide)))), ?_⟩
    intro p np
    have s1 : Same H (upd H p (.dK [])) := same_upd np
    refine ⟨_, rfl, _, rfl, a, ns.map V.int, rfl, s1.seq hS, fun b nb => ⟨b, _, rfl, .inl (sl_ upd_same), fun c nc => ?_⟩⟩
    obtain ⟨ms, hm⟩ : ∃ ms : List Int, cutV (ns.map V.int) none (some 63) = ms.map V.int := ⟨(ns.drop _).take _, by unfold cutV; rw [List.map_take, List.map_drop]⟩
    rw [hm]
    rw [hm] at nc
    have s2 := same_upd (o := .lst (ms.map V.int)) nb
    have s3 := same_upd (o := .lst (ms.map V.int)) nc
    have hp : (upd (upd (upd H p (.dK [])) b (.lst (ms.map V.int))) c (.lst (ms.map V.int))) p = some (.dK []) := s3 _ _ (s2 _ _ upd_same)
    refine ⟨hp, rngV (.ref c) (.int 0) (.int 0) (.int 0), rfl, by show 4 ≤ 15; decide, ?_⟩
    have ncp : c ≠ p := fun e => by
      rw [← e, upd_same] at hp
      cases hp
    refine q p c _ (same_mut ((s1.trans s2).trans s3) np) ⟨ms, 0, 0, 0, upd_same, by rw [upd_ne ncp]; exact upd_same, Int.le_refl _, Int.le_refl _, Int.le_refl _⟩
/-! ### some of a pool -/
abbrev s_sample : Stmt := top 22
abbrev N_sample : List Str := ["_law_rng", "_law_pool", "_law_amount", "_law_rest", "_law_k"]
theorem sc_sample : FnScope N_sample ["_law_rng", "_law_pool", "_law_amount"] (defScope s_sample) := ⟨rfl, rfl, rfl, by decide +kernel, rfl, by decide +kernel, by decide +kernel⟩
def sp_sample (K : Frag) : Sp := fun vs H Q _ => ∃ (r c pool : Addr) (d : Int) (ns : List Str) (m : Nat), vs = [.ref r, .ref pool, .int m] ∧ (SqL K H pool (ns.map V.str) ∨ SqT K H pool (ns.map V.str)) ∧ m ≤ ns.length ∧ ns.length ≤ 1000 ∧ Rng H r c d ∧ d ≤ 100000000 ∧
  ∀ (l : Addr) (out : List Str) (H' : Hp), H l = none → Ch r H H' → Rng H' r c (d + m) → H' l = some (.lst (out.map V.str)) → out.length = m → (∀ s ∈ out, s ∈ ns) → Q (.ref l) H'
theorem ok_sample {f : Addr} {fd : FuncData} {k : Nat} (F : Fun K "_law_sample" "_law_sample" s_sample f fd) (B : Blt mg) (D__law_draw : Own P w K mg base 1 "_law_draw" ["_law_rng", "_law_limit"] sp_draw) : FnOk P w K mg base CX0 (k + 2) f fd ["_law_rng", "_law_pool", "_law_amount"] (sp_sample K) := by
  refine F.ok sc_sample (fun vs H Q E h => ?_) (fun cdv A outer s H vs Q E hr h => ?_)
  · obtain ⟨_, _, _, _, _, _, rfl, _⟩ := h
    rfl
  · obtain ⟨r, c, pool, d, ns, m, rfl, hP, hm, hl, hR, hd, q⟩ := h
    have hr1 : Room 1 _ := hr.mono (Nat.le_add_left 1 k)
    refine ⟨_, (pss_cons (ps_set (i := 3) sc_sample.nd rfl (Or.inr rfl) (pe_callTy (c_list K) (by rfl) B.list (by decide +kernel) (pa_cons (pv 1) pa_nil)))
      (pss_one (ps_ret (pe_lc (own := [("_law_k", 4)]) (g := gName 4) (tt := tYes) rfl sc_sample.nd (pi_range1 rfl B.range (pa_cons (pv 2) pa_nil)) (blkOk_by (own := [("_law_k", 4)]) (N := N_sample) (sc := defScope s_sample) (by decide +kernel)) (fun _ _ _ _ _ => (pg_name (i := 4) sc_sample.nd rfl (Or.inl rfl))) (fun _ _ _ _ _ => pts_nil)
        (fun _ _ _ _ _ => (show PE _ _ (tBM K "list" rPopAt _ _) from pe_bm PySem.F.plainAttrs_list PySem.F.slot_list_pop PySem.F.type_list_pop mt_popAt (pv 3) (pa_cons (pe_call D__law_draw.G hr1 rfl D__law_draw.m D__law_draw.kp D__law_draw.b .nil pass0 (pa_cons (pv 0) (pa_cons (pe_callB (c_len K) (by rfl) B.len (by decide +kernel) (pa_cons (pv 3) pa_nil)) pa_nil))) pa_nil))))))), ?_⟩
    refine ⟨_, rfl, pool, _, rfl, hP, fun l nl => ?_⟩
    have s1 : Same H (upd H l (.lst (ns.map V.str))) := same_upd nl
    refine ⟨_, rfl, (m : Int), rfl, by omega, by omega, fun D nD => ?_⟩
    have nDl : D ≠ l := fun e => by
      rw [e, upd_same] at nD
      cases nD
    have nD0 : H D = none := s1.free nD
    refine lc_range (lo := 0) (n := (m : Int).toNat) (fun i H' => Ch r H H' ∧ Rng H' r c (d + i) ∧ ∃ rest out : List Str, H' l = some (.lst (rest.map V.str)) ∧ H' D = some (.lst (out.map V.str)) ∧ rest.length + i = ns.length ∧ out.length = i ∧ (∀ s ∈ rest, s ∈ ns) ∧ ∀ s ∈ out, s ∈ ns) ?_ ?_ ?_
    · refine ⟨(Ch.of s1).upd nD0, ?_, ns, [], by rw [upd_ne nDl.symm]; exact upd_same, upd_same, rfl, rfl, fun _ z => z, fun _ z => absurd z (by simp)⟩
      have g := ((hR.same s1).mut (o := .lst []) nD0 hR)
      exact g.le (by omega)
    · rintro i H1 hi ⟨c1, g1, rest, out, h1, h2, e1, e2, e3, e4⟩
      have hpos : 0 < rest.length := by omega
      refine ⟨rfl, ?_⟩
      unfold tYes
      refine iteT ?_
      refine ⟨_, rfl, .inl ⟨rfl, _, SqL.of h1⟩, _, rfl, _, rfl, l, _, rfl, .inl (sl_ h1), r, c, _, d + i, rfl, by rw [List.length_map]; omega, by rw [List.length_map]; omega, by omega, g1, fun z H2 c2 g2 z0 z1 => ?_⟩
      rw [List.length_map] at z1
      obtain ⟨j, rfl⟩ : ∃ j : Nat, z = (j : Int) := ⟨z.toNat, by omega⟩
      have hj : j < rest.length := by omega
      have h1' := c2.lst h1
      have h2' := c2.lst h2
      refine ⟨l, _, _, j, .str rest[j], rfl, rfl, h1', by omega, by omega, ?_, ?_, out.map V.str, ?_, ?_, ?_⟩
      · rw [List.length_map]
        unfold seqIndex?
        simp
        omega
      · rw [List.getElem?_map, List.getElem?_eq_getElem hj]
        rfl
      · rw [upd_ne nDl]
        exact h2'
      · rw [List.length_map]
        exact big (by omega)
      · have hmem : rest[j] ∈ ns := e3 _ (List.getElem_mem hj)
        refine ⟨((c1.trans c2).upd nl).upd nD0, ?_, rest.eraseIdx j, out ++ [rest[j]], ?_, ?_, ?_, ?_, ?_, ?_⟩
        · exact ((g2.mut nl hR).mut nD0 hR).le (by omega)
        · rw [upd_ne nDl.symm, upd_same, erase_map]
        · rw [upd_same, List.map_append]
          rfl
        · rw [List.length_eraseIdx_of_lt hj]
          omega
        · rw [List.length_append]
          simp
          omega
        · exact fun s hs => e3 s (List.mem_of_mem_eraseIdx hs)
        · intro s hs
          rcases List.mem_append.mp hs with hs | hs
          · exact e4 s hs
          · rw [List.mem_singleton.mp hs]
            exact hmem
    · rintro H1 ⟨c1, g1, rest, out, h1, h2, e1, e2, e3, e4⟩
      exact q D out H1 nD0 c1 (g1.le (by omega)) h2 (by omega) e4
/-! ### is one set within another -/
abbrev s_within : Stmt := top 24
abbrev N_within : List Str := ["_law_some", "_law_more", "_law_name"]
theorem sc_within : FnScope N_within ["_law_some", "_law_more"] (defScope s_within) := ⟨rfl, rfl, rfl, by decide +kernel, rfl, by decide +kernel, by decide +kernel⟩
def sp_within (K : Frag) : Sp := fun vs H Q _ => ∃ (x y : V) (a b : List Str), vs = [x, y] ∧ S1 K H x a ∧ S1 K H y b ∧ a.length ≤ 1000 ∧ (∀ n ∈ a, okS n) ∧ ∀ t H', Same H H' → Q (.bl t) H'
theorem ok_within {f : Addr} {fd : FuncData} {k : Nat} (F : Fun K "_law_is_within" "_law_is_within" s_within f fd) : FnOk P w K mg base CX0 (k + 1) f fd ["_law_some", "_law_more"] (sp_within K) := by
  refine F.ok sc_within (fun vs H Q E h => ?_) (fun cdv A outer s H vs Q E hr h => ?_)
  · obtain ⟨_, _, _, _, rfl, _⟩ := h
    rfl
  · obtain ⟨x, y, c, o, rfl, ⟨a, rfl, hc⟩, ⟨b, rfl, ho⟩, hl, okc, q⟩ := h
    refine ⟨_, (pss_one (ps_ret (pe_cmpR (o_eqD K hr.units) (pe_lc (own := [("_law_name", 2)]) (g := gName 2) rfl sc_within.nd (p_tup K (pv 0)) (blkOk_by (own := [("_law_name", 2)]) (N := N_within) (sc := defScope s_within) (by decide +kernel)) (fun _ _ _ _ _ => (pg_name (i := 2) sc_within.nd rfl (Or.inl rfl)))
      (fun _ _ _ _ _ => (pts_one (pt_cmpR (o_nin K) (pv 2) (pv 1) rfl))) (fun _ _ _ _ _ => (pv 2))) (pe_lst pa_nil) (nomark _)))), ?_⟩
    unfold tRet tOp
    refine lcT_filter (xs := c.map V.str) (fun v => match v with | .str p => !isIn p o | _ => false) id (fun R hR => ⟨_, rfl, hR a H (Same.refl H) hc⟩) (by rw [List.length_map]; omega) (fun _ => rfl) (fun v hv H1 e1 R hR => ?_) (fun v hv _ H1 e1 R hR => ⟨v, rfl, hR H1 (Same.refl H1)⟩) fun D H' hD e hH => ?_
    · obtain ⟨p, _, rfl⟩ := List.mem_map.mp hv
      exact ⟨_, rfl, _, rfl, b, _, rfl, .inr (sameT e1 ho), rfl, flat_strs o, _, rfl, by rw [inV_strs]; exact hR⟩
    · have e2 : ((c.map V.str).filter (fun v => match v with | .str p => !isIn p o | _ => false)).map id = (nc o c).map V.str := by
        rw [List.map_id, List.filter_map]
        rfl
      rw [e2] at hH
      refine ⟨Nat.zero_le _, fun l nl => ⟨.list ((nc o c).map .str), .list [], .lst (sl_ (same_upd nl _ _ hH)) (dpStrs _), .lst (sl_ upd_same) .nil, shaped_strs (fun n hn => (ok_nc okc n hn).cb), shaped_nil, ?_⟩⟩
      exact q _ _ (e.trans (same_upd nl))
end
end K50

namespace K50
open PySem PySem.Spec PyProof.Rows L2 PySem.W Cb Evl
/-- x = e, then the rest -/
theorem sq_set {i : Nat} {te : TE} {rest : TS} {D : Ends} {σ : Stt} {H : Hp} (h : te σ H fun x H1 => rest D (σ.set i (some x)) H1) : tSeq (tAsg te (gName i)) rest D σ H := h
/-- sets made of some people, of every size up to i -/
structure Sets (i : Nat) (ns : List Str) (f : List (List Str)) : Prop where
  num : f.length = 2 ^ i
  each : ∀ t ∈ f, t.length ≤ i ∧ ∀ n ∈ t, n ∈ ns
  any : ∀ k, k ≤ i → ∃ t, t ∈ f ∧ t.length = k
theorem sets0 (ns : List Str) : Sets 0 ns [[]] := ⟨rfl, fun t h => by rw [List.mem_singleton.mp h]; exact ⟨Nat.le_refl _, fun n z => absurd z (by simp)⟩, fun k hk => ⟨[], by simp, by simp; omega⟩⟩
theorem Sets.step {i : Nat} {ns : List Str} {f : List (List Str)} {n : Str} (h : Sets i ns f) (hn : n ∈ ns) : Sets (i + 1) ns (f ++ f.map (· ++ [n])) := by
  refine ⟨by rw [List.length_append, List.length_map, h.num, Nat.pow_succ]; omega, fun t ht => ?_, fun k hk => ?_⟩
  · rcases List.mem_append.mp ht with ht | ht
    · have := h.each t ht
      exact ⟨by omega, this.2⟩
    · obtain ⟨u, hu, rfl⟩ := List.mem_map.mp ht
      have := h.each u hu
      refine ⟨by simp; omega, fun m hm => ?_⟩
      rcases List.mem_append.mp hm with hm | hm
      · exact this.2 m hm
      · rw [List.mem_singleton.mp hm]
        exact hn
  · by_cases hki : k ≤ i
    · obtain ⟨t, ht, e⟩ := h.any k hki
      exact ⟨t, List.mem_append.mpr (.inl ht), e⟩
    · obtain ⟨t, ht, e⟩ := h.any i (Nat.le_refl _)
      exact ⟨t ++ [n], List.mem_append.mpr (.inr (List.mem_map.mpr ⟨t, ht, rfl⟩)), by simp; omega⟩
theorem Sets.perm {i : Nat} {ns : List Str} {f g : List (List Str)} (h : Sets i ns f) (p : g.Perm f) : Sets i ns g :=
  ⟨by rw [p.length_eq, h.num], fun t ht => h.each t (p.mem_iff.mp ht), fun k hk => by
    obtain ⟨t, ht, e⟩ := h.any k hk
    exact ⟨t, p.mem_iff.mpr ht, e⟩⟩
section
variable {P : Program} {w : World} {K : Frag} {mg : Str → Option Value} {base : Heap}
/-! ### all sets of some people -/
abbrev s_sets : Stmt := top 26
abbrev N_sets : List Str := ["_law_names_now", "_law_found", "_law_name", "_law_some"]
theorem sc_sets : FnScope N_sets ["_law_names_now"] (defScope s_sets) := ⟨rfl, rfl, rfl, by decide +kernel, rfl, by decide +kernel, by decide +kernel⟩
def sp_sets (K : Frag) : Sp := fun vs H Q _ => ∃ (a : Addr) (ns : List Str), vs = [.ref a] ∧ SqL K H a (ns.map V.str) ∧ ns.length ≤ 10 ∧
  ∀ (F : Addr) (us : List V) (f : List (List Str)) (H' : Hp), Same H H' → H' F = some (.lst us) → Paired (S1 K H') us f → Sets ns.length ns f → Q (.ref F) H'
theorem ok_sets {f : Addr} {fd : FuncData} {k : Nat} (F : Fun K "_law_all_sets" "_law_all_sets" s_sets f fd) (B : Blt mg) : FnOk P w K mg base CX0 (k + 1) f fd ["_law_names_now"] (sp_sets K) := by
  refine F.ok sc_sets (fun vs H Q E h => ?_) (fun cdv A outer s H vs Q E hr h => ?_)
  · obtain ⟨_, _, rfl, _⟩ := h
    rfl
  · obtain ⟨a, ns, rfl, ha, hn, q⟩ := h
    refine ⟨_, (pss_cons (ps_set (i := 1) sc_sets.nd rfl (Or.inl rfl) (pe_lst (pa_cons (pe_tup pa_nil) pa_nil)))
      (pss_cons (ps_for PassesOwn.never rfl (p_list K (pe_callB (c_srt K hr.units) (by rfl) B.sorted (by decide +kernel) (pa_cons (pv 0) pa_nil))) (pg_name (i := 2) sc_sets.nd rfl (Or.inr rfl))
      (pss_one (ps_set (i := 1) sc_sets.nd rfl (Or.inl rfl) (pe_op op_cat (pv 1) (pe_lc (own := [("_law_some", 3)]) (g := gName 3) (tt := tYes) rfl sc_sets.nd (p_list K (pv 1)) (blkOk_by (own := [("_law_some", 3)]) (N := N_sets) (sc := defScope s_sets) (by decide +kernel)) (fun _ _ _ _ _ => (pg_name (i := 3) sc_sets.nd rfl (Or.inl rfl))) (fun _ _ _ _ _ => pts_nil) (fun _ _ _ _ _ => (pe_op (o_catA K) (pv 3) (pe_tup (pa_cons (pv 2) pa_nil)))))))))
      (pss_one (ps_ret (pe_srtLen hr.units B.sorted B.len (by rfl) (by rfl) (pv 1)))))), ?_⟩
    refine sq_set ⟨Nat.zero_le _, fun p np => ⟨(by decide : 1 ≤ sizeLine), fun F0 nF => ?_⟩⟩
    have s1 : Same H (upd H p (.tup [])) := same_upd np
    have s2 := s1.trans (same_upd (o := .lst [.ref p]) nF)
    refine sq_for ?_
    unfold tFor iList tCB tCons tNil
    refine ⟨_, rfl, ?_⟩
    show rSrt K [.ref a] _ _
    refine srt_any (.inl (s2.seq ha)) fun L nL => ⟨L, rfl, ⟨_, sl_ upd_same⟩, ?_⟩
    have s3 := s2.trans (same_upd (o := .lst ((srt ns).map V.str)) nL)
    refine for_list (xs := (srt ns).map V.str) (fun i σ' H' => Same H H' ∧ H' L = some (.lst ((srt ns).map V.str)) ∧ ∃ (v2 : Option V) (F' : Addr) (us : List V) (f : List (List Str)), σ' = [some (.ref a), some (.ref F'), v2, none] ∧ H' F' = some (.lst us) ∧ Paired (S1 K H') us f ∧ Sets i ns f)
      ⟨s3, upd_same, none, F0, [.ref p], [[]], rfl, same_upd nL _ _ upd_same, .cons ⟨p, rfl, st_ (same_upd nL _ _ (same_upd nF _ _ upd_same))⟩ .nil, sets0 ns⟩ (fun i σ' H2 _ z => sl_ z.2.1) (fun i x σ' H2 hi z => ?_) fun σ' H2 z => ?_
    · obtain ⟨e2, hL, v2, F', us, f, rfl, hF, hp, hs⟩ := z
      rw [List.getElem?_map] at hi
      obtain ⟨n, hi2, rfl⟩ := Option.map_eq_some_iff.mp hi
      have hnm : n ∈ ns := (srt_perm ns).mem_iff.mp (List.mem_of_getElem? hi2)
      have hil := (List.getElem?_eq_some_iff.mp hi2).1
      rw [srt_len] at hil
      have hul := prd_len hp
      have hfl := hs.num
      have h10 : 2 ^ i ≤ 2 ^ 10 := Nat.pow_le_pow_right (by decide) (by omega)
      refine ⟨_, rfl, ?_⟩
      refine lcL_rel (K := K) (tl := tVar 1) (j := 3) (vs := [3]) (te := tOp (rCatA K) (tVar 3) (tTup (tCons (tVar 2) tNil))) (xs := us) (F := fun H v b => S1 K H v b) (fun _ _ _ _ e z => e.s1 z) (f.map (· ++ [n])) (fun R hR => ⟨_, rfl, hR F' _ (Same.refl _) (sl_ hF)⟩) (by omega) (by rw [List.length_map]; exact hul) (fun _ => rfl) (fun j x b hx hb H3 e3 R hR => ?_) fun D ws H3 nD e3 hD hp3 => ?_
      · rw [List.getElem?_map] at hb
        obtain ⟨t, ht, rfl⟩ := Option.map_eq_some_iff.mp hb
        obtain ⟨t', ht', hx'⟩ := prd_getL hp hx
        rw [ht] at ht'
        cases ht'
        obtain ⟨ax, rfl, hx'⟩ := hx'
        have := (hs.each t (List.mem_of_getElem? ht)).1
        refine ⟨_, rfl, _, rfl, (by decide : 1 ≤ sizeLine), fun l nl => ?_⟩
        refine cat_names (xs := t) (ys := [n]) (sameT (e3.trans (same_upd nl)) hx') (st_ upd_same) (by simp; omega) fun z H4 e4 hz => hR _ _ ((same_upd nl).trans e4) ⟨z, rfl, hz⟩
      · have hwl := prd_len hp3
        rw [List.length_map] at hwl
        refine ⟨F', D, us, ws, rfl, rfl, e3 _ _ hF, hD, Nat.le_of_lt (big (by omega)), fun z nz => ?_⟩
        have s4 := same_upd (o := .lst (us ++ ws)) nz
        exact ⟨(e2.trans e3).trans s4, s4 _ _ (e3 _ _ hL), some (.str n), z, us ++ ws, f ++ f.map (· ++ [n]), rfl, upd_same, prd_app (prd_mono (fun _ _ z => z.same (e3.trans s4)) hp) (prd_mono (fun _ _ z => z.same s4) hp3), hs.step hnm⟩
    · obtain ⟨e2, hL, v2, F', us, f, rfl, hF, hp, hs⟩ := z
      rw [List.length_map, srt_len] at hs
      obtain ⟨zs, rfl, rfl, hz⟩ := prd_fst hp
      refine ⟨_, rfl, F', zs, rfl, sl_ hF, hz, fun p np => ?_⟩
      have s4 := same_upd (o := .lst ((zs.mergeSort (dataLe false fun b : V × List Str => PyData.int b.2.length)).map (·.1))) np
      exact q p _ ((zs.mergeSort (dataLe false fun b : V × List Str => PyData.int b.2.length)).map (·.2)) _ (e2.trans s4) upd_same (prd_of fun z m => (hz z (List.mem_mergeSort.mp m)).same s4) (hs.perm ((List.mergeSort_perm zs _).map _))
end
end K50

namespace K50
open PySem PySem.Spec PyProof.Rows L2 PySem.W Cb Evl
theorem sq_par {i j : Nat} {ta : TA} {rest : TS} {D : Ends} {σ : Stt} {H : Hp} (h : ta σ H fun vs H1 => ∃ v w, vs = [v, w] ∧ rest D ((σ.set i (some v)).set j (some w)) H1) : tSeq (tPar i j ta) rest D σ H := h
section
variable {K : Frag} {tl : TE} {j : Nat} {vs : List Nat} {σ : Stt} {H : Hp} {Q : VK} {tt : TT} {F : Addr} {us : List V} {ts : List (List Str)}
/-- [t for t in found if ..], some of the crews found -/
theorem lcL_some (hl : ∀ R : VK, R (.ref F) H → tl σ H R) (hF : H F = some (.lst us)) (hp : Paired (S1 K H) us ts) (hn : us.length ≤ 1000) (hj : ∀ x, wipe ((wipe σ vs).set j (some x)) vs = wipe σ vs) (hv : ∀ x, ((wipe σ vs).set j (some x))[j]? = some (some x))
    (ht : ∀ x t, t ∈ ts → ∀ H1, Same H H1 → S1 K H1 x t → ∀ R : Bool → Hp → Prop, (∀ b H2, Same H1 H2 → R b H2) → tt ((wipe σ vs).set j (some x)) H1 R)
    (q : ∀ D ws wts H', H D = none → Same H H' → H' D = some (.lst ws) → Paired (S1 K H') ws wts → (∀ t ∈ wts, t ∈ ts) → Q (.ref D) H') : tLc (iList K tl) (gName j) tt (tVar j) vs σ H Q := by
  refine hl _ ⟨F, rfl, ⟨us, sl_ hF⟩, fun D nD => ?_⟩
  refine lc_list (K := K) (a := F) (xs := us) (fun i H' => Same H H' ∧ ∃ ws wts, H' D = some (.lst ws) ∧ Paired (S1 K H') ws wts ∧ ws.length ≤ i ∧ ∀ t ∈ wts, t ∈ ts) ⟨same_upd nD, [], [], upd_same, .nil, Nat.zero_le _, fun _ z => absurd z (by simp)⟩ (fun i H' _ z => sl_ (z.1 _ _ hF)) (fun i x H' hi z => ⟨hj x, ?_⟩) fun H' z => ?_
  · obtain ⟨e2, ws, wts, hw, hpw, hwi, hm⟩ := z
    obtain ⟨t, ht', hx⟩ := prd_getL hp hi
    have htm : t ∈ ts := List.mem_of_getElem? ht'
    have hil := (List.getElem?_eq_some_iff.mp hi).1
    refine ht x t htm H' e2 (hx.same e2) _ fun b H2 e3 => ?_
    cases b with
    | true =>
      rw [if_pos rfl]
      refine ⟨x, hv x, ws, e3 _ _ hw, big (by omega), same_mut (e2.trans e3) nD, ws ++ [x], wts ++ [t], upd_same, ?_, by simp; omega, fun u hu => ?_⟩
      · have f2 : Fx H2 (upd H2 D (.lst (ws ++ [x]))) := Fx.mut (e3 _ _ hw)
        exact prd_app (f2.s1s (prd_mono (fun _ _ z => z.same e3) hpw)) (.cons (f2.s1 (hx.same (e2.trans e3))) .nil)
      · rcases List.mem_append.mp hu with hu | hu
        · exact hm u hu
        · rw [List.mem_singleton.mp hu]
          exact htm
    | false =>
      rw [if_neg (by simp)]
      exact ⟨e2.trans e3, ws, wts, e3 _ _ hw, prd_mono (fun _ _ z => z.same e3) hpw, by omega, hm⟩
  · obtain ⟨e2, ws, wts, hw, hpw, hwi, hm⟩ := z
    exact q D ws wts H' nD e2 hw hpw hm
end
theorem clamp (x : Int) {n : Nat} (h : 1 ≤ n) : ∃ b : Nat, (if (if x < (n : Int) then x else (n : Int)) > 1 then (if x < (n : Int) then x else (n : Int)) else (1 : Int)) = (b : Int) ∧ 1 ≤ b ∧ b ≤ n := by
  refine ⟨(if (if x < (n : Int) then x else (n : Int)) > 1 then (if x < (n : Int) then x else (n : Int)) else (1 : Int)).toNat, ?_, ?_, ?_⟩ <;> split <;> split <;> omega
theorem pool_ok : ∀ n ∈ pool, okS n := fun _ h => h
section
variable {P : Program} {w : World} {K : Frag} {mg : Str → Option Value} {base : Heap}
/-! ### drawn crews -/
/-- crews made: some, and fit -/
def sp_made (lo hi : Int) (K : Frag) : Sp := fun vs H Q _ => ∃ (r c : Addr) (m d : Int), vs = [.ref r, .int m] ∧ lo ≤ m ∧ m ≤ hi ∧ d ≤ 1000000 ∧ Rng H r c d ∧ ∀ v ts H', Ch r H H' → Rng H' r c (d + 1000) → S2 K H' v ts → Gt ts → ts ≠ [] → Q v H'
abbrev s_teams : Stmt := top 23
abbrev N_teams : List Str := ["_law_rng", "_law_most", "_law_folk_here", "_law_found", "_law_amount", "_law_turn", "_law_extra", "_law_some", "_law_rivals", "_law_team"]
theorem sc_teams : FnScope N_teams ["_law_rng", "_law_most"] (defScope s_teams) := ⟨rfl, rfl, rfl, by decide +kernel, rfl, by decide +kernel, by decide +kernel⟩
theorem ok_teams {f : Addr} {fd : FuncData} {k : Nat} (F : Fun K "_law_make_teams" "_law_make_teams" s_teams f fd) (B : Blt mg) (D__law_draw : Own P w K mg base 1 "_law_draw" ["_law_rng", "_law_limit"] sp_draw) (D__law_sample : Own P w K mg base 2 "_law_sample" ["_law_rng", "_law_pool", "_law_amount"] (sp_sample K))
    (D__law_is_within : Own P w K mg base 1 "_law_is_within" ["_law_some", "_law_more"] (sp_within K)) : FnOk P w K mg base CX0 (k + 3) f fd ["_law_rng", "_law_most"] (sp_made 3 5 K) := by
  refine F.ok sc_teams (fun vs H Q E h => ?_) (fun cdv A outer s H vs Q E hr h => ?_)
  · obtain ⟨_, _, _, _, rfl, _⟩ := h
    rfl
  · obtain ⟨r, c, m, d, rfl, hm1, hm2, hd, hR, q⟩ := h
    have hr1 : Room 1 _ := hr.mono (by omega)
    have hr2 : Room 2 _ := hr.mono (by omega)
    refine ⟨_, (pss_cons (ps_set (i := 2) sc_teams.nd rfl (Or.inl rfl) (pe_call D__law_sample.G hr2 rfl D__law_sample.m D__law_sample.kp D__law_sample.b .nil pass0 (pa_cons (pv 0) (pa_cons (pe_lst (pa_cons pe_str (pa_cons pe_str (pa_cons pe_str (pa_cons pe_str (pa_cons pe_str (pa_cons pe_str pa_nil))))))) (pa_cons (pe_op op_add pe_int (pe_call D__law_draw.G hr1 rfl D__law_draw.m D__law_draw.kp D__law_draw.b .nil pass0 (pa_cons (pv 0) (pa_cons (pe_op op_sub (pv 1) pe_int) pa_nil)))) pa_nil)))))
      (pss_cons (ps_par (by rfl) sc_teams.nd (i := 3) (j := 4) rfl rfl (by decide) rfl rfl (pa_cons (pe_lst pa_nil) (pa_cons (pe_ix (i_list K) (pe_lst (pa_cons pe_int (pa_cons pe_int (pa_cons pe_int (pa_cons pe_int (pa_cons pe_int pa_nil)))))) (pe_call D__law_draw.G hr1 rfl D__law_draw.m D__law_draw.kp D__law_draw.b .nil pass0 (pa_cons (pv 0) (pa_cons pe_int pa_nil))) (fun _ _ => rfl)) pa_nil)) (by rfl))
      (pss_cons (ps_for PassesOwn.never rfl (pi_range1 rfl B.range (pa_cons (pe_op op_add pe_int (pe_call D__law_draw.G hr1 rfl D__law_draw.m D__law_draw.kp D__law_draw.b .nil pass0 (pa_cons (pv 0) (pa_cons pe_int pa_nil)))) pa_nil)) (pg_name (i := 5) sc_teams.nd rfl (Or.inl rfl))
      (pss_cons (ps_set (i := 6) sc_teams.nd rfl (Or.inl rfl) (pe_ix (i_list K) (pe_lst (pa_cons pe_int (pa_cons pe_int (pa_cons pe_int (pa_cons pe_int (pa_cons (pe_un un_neg pe_int) pa_nil)))))) (pe_call D__law_draw.G hr1 rfl D__law_draw.m D__law_draw.kp D__law_draw.b .nil pass0 (pa_cons (pv 0) (pa_cons pe_int pa_nil))) (fun _ _ => rfl)))
      (pss_cons (ps_set (i := 7) sc_teams.nd rfl (Or.inr rfl) (pe_callTy (c_tuple K) (by rfl) B.tuple (by decide +kernel) (pa_cons (pe_callB (c_srt K hr.units) (by rfl) B.sorted (by decide +kernel) (pa_cons (pe_call D__law_sample.G hr2 rfl D__law_sample.m D__law_sample.kp D__law_sample.b .nil pass0 (pa_cons (pv 0) (pa_cons (pv 2) (pa_cons (pe_callB (call_max2 rfl) (by rfl) B.max (by decide +kernel) (pa_cons pe_int (pa_cons (pe_callB (call_min2 rfl) (by rfl) B.min (by decide +kernel) (pa_cons (pe_callB (c_len K) (by rfl) B.len (by decide +kernel) (pa_cons (pv 2) pa_nil)) (pa_cons (pe_op op_add (pv 4) (pv 6)) pa_nil))) pa_nil))) pa_nil)))) pa_nil)) pa_nil)))
      (pss_cons (ps_setLc (i := 8) (own := [("_law_team", 9)]) (g := gName 9) rfl sc_teams.nd rfl rfl (sw_true rfl rfl rfl (by decide +kernel)) (p_list K (pv 3)) (blkOk_by (own := [("_law_team", 9)]) (N := N_teams) (sc := defScope s_teams) (by decide +kernel)) (fun _ _ _ _ _ => (pg_name (i := 9) sc_teams.nd rfl (Or.inl rfl))) (fun _ _ _ _ _ => (pts_one (PW.pt (pw_or (pt_val (pe_call D__law_is_within.G hr1 rfl D__law_is_within.m D__law_is_within.kp D__law_is_within.b .nil pass0 (pa_cons (pv 9) (pa_cons (pv 7) pa_nil)))) (pw_or1 (pt_val (pe_call D__law_is_within.G hr1 rfl D__law_is_within.m D__law_is_within.kp D__law_is_within.b .nil pass0 (pa_cons (pv 7) (pa_cons (pv 9) pa_nil))))))))) (fun _ _ _ _ _ => (pv 9)))
      (pss_one (ps_if (pt_cmpR (o_eqD K hr.units) (pv 8) (pe_lst pa_nil) (nomark _)) (pss_one (ps_expr (pe_bm PySem.F.plainAttrs_list PySem.F.slot_list_append PySem.F.type_list_append mt_append (pv 3) (pa_cons (pv 7) pa_nil)))) pss_nil))))))
      (pss_one (ps_ret (pe_callTy (c_tuple K) (by rfl) B.tuple (by decide +kernel) (pa_cons (pe_callB (c_srt K hr.units) (by rfl) B.sorted (by decide +kernel) (pa_cons (pv 3) pa_nil)) pa_nil))))))), ?_⟩
    -- folk
    refine sq_set ⟨_, rfl, (by decide : 6 ≤ sizeLine), fun p np => ⟨_, rfl, _, rfl, _, _, rfl, rfl, r, c, m - 2, d, rfl, by omega, by omega, by omega, hR.same (same_upd np), fun z H1 c1 g1 z0 z1 => ?_⟩⟩
    obtain ⟨j, rfl⟩ : ∃ j : Nat, z = (j : Int) := ⟨z.toNat, by omega⟩
    have n1 : H p = none := np
    refine ⟨_, _, rfl, rfl, r, c, p, d + 1, pool, 3 + j, by rw [Int.natCast_add]; rfl, .inl (sl_ (c1.lst upd_same)), by show 3 + j ≤ 6; omega, by decide, g1, by omega, fun l folk H2 nl c2 g2 hl hfl hfm => ?_⟩
    have cA : Ch r H H2 := ((Ch.new np).trans c1).trans c2
    have okf : ∀ n ∈ folk, okS n := fun n hn => pool_ok n (hfm n hn)
    -- found, amount
    refine sq_par ⟨Nat.zero_le _, fun F nF => ⟨(by decide : 5 ≤ sizeLine), fun p2 np2 => ⟨_, rfl, r, c, 5, d + 1 + (3 + j : Nat), rfl, by decide, by decide, by omega, (g2.same (same_upd nF)).same (same_upd np2), fun z3 H3 c3 g3 z30 z31 => ?_⟩⟩⟩
    obtain ⟨j3, rfl⟩ : ∃ j : Nat, z3 = (j : Int) := ⟨z3.toNat, by omega⟩
    have hj3 : j3 < ([2, 2, 2, 1, 3] : List Int).length := by show j3 < 5; omega
    refine ⟨p2, ([2, 2, 2, 1, 3] : List Int).map V.int, _, .int ([2, 2, 2, 1, 3] : List Int)[j3], rfl, rfl, sl_ (c3.lst upd_same), atI_nat (by rw [List.getElem?_map, List.getElem?_eq_getElem hj3]; rfl), _, _, rfl, ?_⟩
    generalize ([2, 2, 2, 1, 3] : List Int)[j3] = am
    have cB : Ch r H H3 := ((cA.trans (Ch.new nF)).trans (Ch.new np2)).trans c3
    have hF3 : H3 F = some (.lst []) := c3.lst (same_upd np2 _ _ upd_same)
    have hl3 : H3 l = some (.lst (folk.map V.str)) := c3.lst (same_upd np2 _ _ (same_upd nF _ _ hl))
    -- for turn
    refine sq_for ?_
    refine ⟨_, rfl, r, c, 6, d + 1 + (3 + j : Nat) + 1, rfl, by decide, by decide, by omega, g3, fun z4 H4 c4 g4 z40 z41 => ⟨_, _, rfl, rfl, 4 + z4, rfl, by omega, by omega, ?_⟩⟩
    have nFH : H F = none := cA.free nF
    have nlH : H l = none := ((Ch.new np).trans c1).free nl
    have hlF : l ≠ F := fun e => by
      rw [e, nF] at hl
      cases hl
    refine for_range (lo := 0) (n := (4 + z4).toNat) (fun i σ' H' => ∃ (v5 v6 v7 v8 : Option V) (us : List V) (ts : List (List Str)), σ' = [some (.ref r), some (.int m), some (.ref l), some (.ref F), some (.int am), v5, v6, v7, v8, none] ∧ Ch r H H' ∧ Rng H' r c (d + 20 + 10 * i) ∧
      H' l = some (.lst (folk.map V.str)) ∧ H' F = some (.lst us) ∧ Paired (S1 K H') us ts ∧ us.length ≤ i ∧ (∀ t ∈ ts, t ≠ [] ∧ t.length ≤ 8 ∧ ∀ n ∈ t, okS n) ∧ (0 < i → ts ≠ []))
      ⟨none, none, none, none, [], [], rfl, cB.trans c4, g4.le (by omega), c4.lst hl3, c4.lst hF3, .nil, Nat.zero_le _, fun _ z => absurd z (by simp), fun z => absurd z (by simp)⟩ (fun i σ' H5 hi z => ?_) fun σ' H5 z => ?_
    · obtain ⟨v5, v6, v7, v8, us, ts, rfl, cC, gC, hlC, hFC, hpC, huC, okC, neC⟩ := z
      have hi9 : i < 10 := by omega
      -- extra
      refine sq_set ⟨1, rfl, (by decide : 5 ≤ sizeLine), fun p5 np5 => ⟨_, rfl, r, c, 5, d + 20 + 10 * i, rfl, by decide, by decide, by omega, gC.same (same_upd np5), fun z6 H6 c6 g6 z60 z61 => ?_⟩⟩
      obtain ⟨j6, rfl⟩ : ∃ j : Nat, z6 = (j : Int) := ⟨z6.toNat, by omega⟩
      have hj6 : j6 < ([0, 0, 0, 1, -1] : List Int).length := by show j6 < 5; omega
      refine ⟨p5, ([0, 0, 0, 1, -1] : List Int).map V.int, _, .int ([0, 0, 0, 1, -1] : List Int)[j6], rfl, rfl, sl_ (c6.lst upd_same), atI_nat (by rw [List.getElem?_map, List.getElem?_eq_getElem hj6]; rfl), ?_⟩
      generalize ([0, 0, 0, 1, -1] : List Int)[j6] = ex
      have cD : Ch r H5 H6 := (Ch.new np5).trans c6
      have hl6 := cD.lst hlC
      have hF6 := cD.lst hFC
      have hlfe : (folk.map V.str).length = folk.length := List.length_map _
      have hfl1 : 1 ≤ (folk.map V.str).length := by omega
      obtain ⟨b, hb, hb1, hb2⟩ := clamp (am + ex) hfl1
      rw [hlfe] at hb2
      -- some
      refine sq_set ⟨_, rfl, _, rfl, _, rfl, l, folk.map V.str, rfl, .inl (sl_ hl6), _, rfl, _, rfl, _, _, rfl, rfl, _, _, rfl, _, _, rfl, r, c, l, d + 20 + 10 * i + 1, folk, b, by rw [hb]; rfl, .inl (sl_ hl6), hb2, by omega, g6, by omega, fun l7 out H7 nl7 c7 g7 hl7 ho7 hm7 => ?_⟩
      unfold tNil
      show rSrt K [.ref l7] _ _
      refine srt_any (.inl (sl_ hl7)) fun p8 np8 => ⟨p8, _, rfl, .inl ⟨sl_ upd_same, fun t nt => ?_⟩⟩
      have s8 : Same H7 (upd (upd H7 p8 (.lst ((srt out).map V.str))) t (.tup ((srt out).map V.str))) := (same_upd np8).trans (same_upd nt)
      have ht8 : S1 K (upd (upd H7 p8 (.lst ((srt out).map V.str))) t (.tup ((srt out).map V.str))) (.ref t) (srt out) := ⟨t, rfl, st_ upd_same⟩
      generalize upd (upd H7 p8 (.lst ((srt out).map V.str))) t (.tup ((srt out).map V.str)) = H8 at s8 ht8
      have cE : Ch r H5 H8 := (cD.trans c7).trans (Ch.of s8)
      have hl8 := cE.lst hlC
      have hF8 := cE.lst hFC
      have g8 : Rng H8 r c (d + 20 + 10 * i + 1 + b) := g7.same s8
      have hp8 : Paired (S1 K H8) us ts := cE.s1s hpC
      have ulen := prd_len hpC
      have sl8 : (srt out).length = b := by rw [srt_len, ho7]
      have okso : ∀ n ∈ srt out, okS n := fun n hn => okf n (hm7 n ((srt_perm out).mem_iff.mp hn))
      have fit : srt out ≠ [] ∧ (srt out).length ≤ 8 ∧ ∀ n ∈ srt out, okS n := ⟨fun e => by rw [e] at sl8; simp at sl8; omega, by omega, okso⟩
      -- rivals
      refine sq_set ?_
      refine lcL_some (F := F) (us := us) (ts := ts) (fun R hR => ⟨_, rfl, hR⟩) hF8 hp8 (by omega) (fun _ => rfl) (fun _ => rfl) (fun x u hu H9 e9 hx R hR => ?_) fun D ws wts H9 nD e9 hD hpw hsub => ?_
      · have fu := okC u hu
        refine ⟨_, rfl, _, rfl, x, .ref t, u, srt out, rfl, hx, ht8.same e9, by omega, fu.2.2, fun b1 H10 e10 => ⟨b1, rfl, ite2 (fun _ => hR true H10 e10) (fun _ => ?_)⟩⟩
        exact ⟨_, rfl, _, rfl, .ref t, x, srt out, u, rfl, (ht8.same e9).same e10, hx.same e10, by omega, okso, fun b2 H11 e11 => ⟨b2, rfl, hR b2 H11 (e10.trans e11)⟩⟩
      · have okw : ∀ t ∈ wts, ∀ n ∈ t, okS n := fun t ht => (okC t (hsub t ht)).2.2
        refine ⟨_, rfl, Nat.zero_le _, fun l9 nl9 => ⟨.list (wts.map sD), .list [], .lst (sl_ (same_upd nl9 _ _ hD)) (s1s_dp (prd_mono (fun _ _ z => z.same (same_upd nl9)) hpw)), .lst (sl_ upd_same) .nil, shaped_teams (fun t ht n hn => (okw t ht n hn).cb), shaped_nil, _, rfl, ?_⟩⟩
        rw [eqv_list_nil]
        have sN : Same H8 (upd H9 l9 (.lst [])) := e9.trans (same_upd nl9)
        generalize upd H9 l9 (.lst []) = HN at sN
        have cN : Ch r H HN := (cC.trans cE).trans (Ch.of sN)
        have gN : Rng HN r c (d + 20 + 10 * i + 1 + b) := g8.same sN
        have hlN := sN _ _ hl8
        have hFN := sN _ _ hF8
        have hpN : Paired (S1 K HN) us ts := prd_mono (fun _ _ z => z.same sN) hp8
        refine ite2 (fun _ => ?_) (fun hne => ?_)
        · refine ⟨_, rfl, .inl ⟨rfl, _, SqL.of hFN⟩, _, rfl, F, us, _, rfl, rfl, hFN, big (by omega), ?_⟩
          have fF : Fx HN (upd HN F (.lst (us ++ [.ref t]))) := Fx.mut hFN
          refine ⟨some (.int (0 + i)), some (.int ex), some (.ref t), some (.ref D), us ++ [.ref t], ts ++ [srt out], rfl, cN.upd nFH, ?_, ?_, upd_same, prd_app (fF.s1s hpN) (.cons (fF.s1 (ht8.same sN)) .nil), by simp; omega, fun u hu => ?_, fun _ z => by simp at z⟩
          · exact (gN.mut nFH hR).le (by omega)
          · rw [upd_ne hlF]
            exact hlN
          · rcases List.mem_append.mp hu with hu | hu
            · exact okC u hu
            · rw [List.mem_singleton.mp hu]
              exact fit
        · refine ⟨some (.int (0 + i)), some (.int ex), some (.ref t), some (.ref D), us, ts, rfl, cN, gN.le (by omega), hlN, hFN, hpN, by omega, okC, fun _ z => ?_⟩
          subst z
          cases wts with
          | nil => exact hne rfl
          | cons u _ => exact absurd (hsub u List.mem_cons_self) (by simp)
    · obtain ⟨v5, v6, v7, v8, us, ts, rfl, cC, gC, hlC, hFC, hpC, huC, okC, neC⟩ := z
      have ulen := prd_len hpC
      unfold tRet tCB tCons tNil
      refine ⟨_, rfl, ?_⟩
      show rSrt K [.ref F] _ _
      refine srt_teams (sl_ hFC) hpC (fun t ht => (okC t ht).1) fun p8 ys np8 hps => ⟨p8, _, rfl, .inl ⟨sl_ upd_same, fun t nt => ?_⟩⟩
      have s8 := (same_upd (o := .lst ys) np8).trans (same_upd (o := .tup ys) nt)
      refine q (.ref t) (srtT ts) _ (cC.trans (Ch.of s8)) ((gC.same s8).le (by omega)) ⟨t, ys, rfl, st_ upd_same, prd_mono (fun _ _ z => z.same s8) hps⟩ ⟨?_, fun t ht => okC t ((srtT_perm ts).mem_iff.mp ht), srtT_ord ts⟩ fun e => ?_
      · rw [(srtT_perm ts).length_eq]
        omega
      · have e2 := (srtT_perm ts).length_eq
        rw [e] at e2
        refine neC (by omega) (List.eq_nil_of_length_eq_zero e2.symm)
end
end K50

namespace K50
open PySem PySem.Spec PyProof.Rows L2 PySem.W Cb Evl
theorem sq_asg {te : TE} {g : TG} {rest : TS} {D : Ends} {σ : Stt} {H : Hp} (h : te σ H fun x H1 => g x σ H1 (rest D)) : tSeq (tAsg te g) rest D σ H := h
section
variable {K : Frag} {tl : TE} {j : Nat} {vs : List Nat} {σ : Stt} {H : Hp} {tt : TT} {Q : VK} {β : Type} {F : Hp → V → β → Prop}
/-- the same, the items known when the list is made only -/
theorem lcL_pairX (mono : ∀ H1 H2 v b, Same H1 H2 → F H1 v b → F H2 v b) (Φ : List β → Prop) (p : β → Bool) (hl : ∀ R : VK, (∀ bs a H1 us, Φ bs → Same H H1 → SqL K H1 a us → Paired (F H1) us bs → R (.ref a) H1) → tl σ H R) (hn : ∀ bs, Φ bs → bs.length ≤ 100000)
    (hj : ∀ x, wipe ((wipe σ vs).set j (some x)) vs = wipe σ vs) (hv : ∀ x, ((wipe σ vs).set j (some x))[j]? = some (some x))
    (ht : ∀ x b H1, Same H H1 → F H1 x b → ∀ R : Bool → Hp → Prop, (∀ H2, Same H1 H2 → R (p b) H2) → tt ((wipe σ vs).set j (some x)) H1 R)
    (q : ∀ bs L us H', Φ bs → H L = none → Same H H' → H' L = some (.lst us) → Paired (F H') us (bs.filter p) → Q (.ref L) H') : tLc (iList K tl) (gName j) tt (tVar j) vs σ H Q := by
  refine hl _ fun bs a H1 us hΦ e1 hs hp => ⟨a, rfl, ⟨us, hs⟩, fun L nL => ?_⟩
  have hlen := prd_len hp
  have hn := hn bs hΦ
  refine lc_list (K := K) (a := a) (xs := us) (fun i H' => Same H1 H' ∧ ∃ ws, H' L = some (.lst ws) ∧ Paired (F H1) ws ((bs.take i).filter p)) ⟨same_upd nL, [], upd_same, .nil⟩ (fun i H' _ z => z.1.seq hs) (fun i x H' hi z => ⟨hj x, ?_⟩) fun H' z => ?_
  · obtain ⟨e2, ws, hw, hpw⟩ := z
    obtain ⟨b, hb, hf⟩ := prd_getL hp hi
    have hwl := prd_len hpw
    have hfl := List.length_filter_le p (bs.take i)
    have hbl := (List.getElem?_eq_some_iff.mp hb).1
    rw [List.length_take] at hfl
    refine ht x b H' (e1.trans e2) (mono _ _ _ _ e2 hf) _ fun H2 e3 => ?_
    rw [take_snoc hb, List.filter_append]
    by_cases h : p b = true
    · rw [if_pos h]
      refine ⟨x, hv x, ws, e3 _ _ hw, big (by omega), same_mut (e2.trans e3) nL, ws ++ [x], upd_same, ?_⟩
      rw [List.filter_cons_of_pos h]
      exact prd_app hpw (.cons hf .nil)
    · rw [if_neg h]
      refine ⟨e2.trans e3, ws, e3 _ _ hw, ?_⟩
      rw [List.filter_cons_of_neg h]
      simpa using hpw
  · obtain ⟨e2, ws, hw, hpw⟩ := z
    rw [hlen, List.take_length] at hpw
    exact q bs L ws H' hΦ (e1.free nL) (e1.trans e2) hw (prd_mono (fun _ _ z => mono _ _ _ _ e2 z) hpw)
end
section
variable {K : Frag} {H : Hp}
/-- the crews of the groups so far; n people are left -/
structure Gd (m n : Nat) (ts : List (List Str)) : Prop where
  some : ts ≠ []
  num : ts.length * 2 ^ n ≤ 64
  each : ∀ t ∈ ts, t.length + n ≤ 5 ∧ (∀ x ∈ t, okS x) ∧ (n < m → t ≠ [])
structure GW (K : Frag) (H : Hp) (r c : Addr) (m d : Int) (L : Addr) (n : Nat) (F : Addr) (rest : List Str) (us : List V) (ts : List (List Str)) (H' : Hp) : Prop where
  len : rest.length = n
  ch : Ch r H H'
  rng : Rng H' r c (d + 60 - 10 * n)
  atL : H' L = some (.lst (rest.map V.str))
  atF : H' F = some (.lst us)
  ne : F ≠ L
  ok : ∀ x ∈ rest, okS x
  prd : Paired (S1 K H') us ts
  gd : Gd m.toNat n ts
def GWs (K : Frag) (H : Hp) (r c : Addr) (m d : Int) (L : Addr) (n : Nat) (σ : Stt) (H' : Hp) : Prop := ∃ (v4 v5 v6 v7 v8 : Option V) (F : Addr) (rest : List Str) (us : List V) (ts : List (List Str)), σ = [some (.ref r), some (.int m), some (.ref L), some (.ref F), v4, v5, v6, v7, v8, none, none] ∧ GW K H r c m d L n F rest us ts H'
end
section
variable {P : Program} {w : World} {K : Frag} {mg : Str → Option Value} {base : Heap}
abbrev s_mgood : Stmt := top 25
abbrev N_mgood : List Str := ["_law_rng", "_law_most", "_law_rest", "_law_found", "_law_group", "_law_amount", "_law_some", "_law_longer", "_law_team", "_law_k", "_law_part"]
theorem sc_mgood : FnScope N_mgood ["_law_rng", "_law_most"] (defScope s_mgood) := ⟨rfl, rfl, rfl, by decide +kernel, rfl, by decide +kernel, by decide +kernel⟩
theorem ok_mgood {f : Addr} {fd : FuncData} {k : Nat} (F : Fun K "_law_make_good" "_law_make_good" s_mgood f fd) (B : Blt mg) (D__law_draw : Own P w K mg base 1 "_law_draw" ["_law_rng", "_law_limit"] sp_draw) (D__law_sample : Own P w K mg base 2 "_law_sample" ["_law_rng", "_law_pool", "_law_amount"] (sp_sample K))
    (D__law_all_sets : Own P w K mg base 1 "_law_all_sets" ["_law_names_now"] (sp_sets K)) : FnOk P w K mg base CX0 (k + 3) f fd ["_law_rng", "_law_most"] (sp_made 2 5 K) := by
  refine F.ok sc_mgood (fun vs H Q E h => ?_) (fun cdv A outer s H vs Q E hr h => ?_)
  · obtain ⟨_, _, _, _, rfl, _⟩ := h
    rfl
  · obtain ⟨r, c, m, d, rfl, hm1, hm2, hd, hR, q⟩ := h
    have hr1 : Room 1 _ := hr.mono (by omega)
    have hr2 : Room 2 _ := hr.mono (by omega)
    refine ⟨_, (pss_cons (ps_asg (pe_tup (pa_cons (pe_call D__law_sample.G hr2 rfl D__law_sample.m D__law_sample.kp D__law_sample.b .nil pass0 (pa_cons (pv 0) (pa_cons (pe_lst (pa_cons pe_str (pa_cons pe_str (pa_cons pe_str (pa_cons pe_str (pa_cons pe_str (pa_cons pe_str pa_nil))))))) (pa_cons (pv 1) pa_nil)))) (pa_cons (pe_lst (pa_cons (pe_tup pa_nil) pa_nil)) pa_nil))) (show PG _ _ (gTup K 2 _) from pg_tup rfl (pgs_cons (pg_name (i := 2) sc_mgood.nd rfl (Or.inr rfl)) (pgs_cons (pg_name (i := 3) sc_mgood.nd rfl (Or.inl rfl)) pgs_nil))))
      (pss_cons (ps_while PassesOwn.never (pt_cmpR (o_neD K hr.units) (pv 2) (pe_lst pa_nil) (nomark _))
      (pss_cons (ps_set (i := 4) sc_mgood.nd rfl (Or.inl rfl) (pe_callB (c_srt K hr.units) (by rfl) B.sorted (by decide +kernel) (pa_cons (pe_lc (own := [("_law_k", 9)]) (g := gName 9) (tt := tYes) rfl sc_mgood.nd (pi_range1 rfl B.range (pa_cons (pe_callB (call_min2 rfl) (by rfl) B.min (by decide +kernel) (pa_cons (pe_callB (c_len K) (by rfl) B.len (by decide +kernel) (pa_cons (pv 2) pa_nil)) (pa_cons (pe_op op_add pe_int (pe_call D__law_draw.G hr1 rfl D__law_draw.m D__law_draw.kp D__law_draw.b .nil pass0 (pa_cons (pv 0) (pa_cons pe_int pa_nil)))) pa_nil))) pa_nil)) (blkOk_by (own := [("_law_k", 9)]) (N := N_mgood) (sc := defScope s_mgood) (by decide +kernel)) (fun _ _ _ _ _ => (pg_name (i := 9) sc_mgood.nd rfl (Or.inl rfl))) (fun _ _ _ _ _ => pts_nil) (fun _ _ _ _ _ => (show PE _ _ (tBM0 K "list" rPop _) from pe_bm0 PySem.F.plainAttrs_list PySem.F.slot_list_pop PySem.F.type_list_pop mt_pop (pv 2)))) pa_nil)))
      (pss_cons (ps_set (i := 5) sc_mgood.nd rfl (Or.inr rfl) (pe_op op_add pe_int (pe_call D__law_draw.G hr1 rfl D__law_draw.m D__law_draw.kp D__law_draw.b .nil pass0 (pa_cons (pv 0) (pa_cons (pe_callB (c_len K) (by rfl) B.len (by decide +kernel) (pa_cons (pv 4) pa_nil)) pa_nil)))))
      (pss_cons (ps_setLc (i := 6) (own := [("_law_part", 10)]) (g := gName 10) rfl sc_mgood.nd rfl rfl (sw_true rfl rfl rfl (by decide +kernel)) (p_list K (pe_call D__law_all_sets.G hr1 rfl D__law_all_sets.m D__law_all_sets.kp D__law_all_sets.b .nil pass0 (pa_cons (pv 4) pa_nil))) (blkOk_by (own := [("_law_part", 10)]) (N := N_mgood) (sc := defScope s_mgood) (by decide +kernel)) (fun _ _ _ _ _ => (pg_name (i := 10) sc_mgood.nd rfl (Or.inl rfl))) (fun _ _ _ _ _ => (pts_one (pt_cmpR op_eq (pe_callB (c_len K) (by rfl) B.len (by decide +kernel) (pa_cons (pv 10) pa_nil)) (pv 5) (nomark _)))) (fun _ _ _ _ _ => (pv 10)))
      (pss_cons (ps_set (i := 7) sc_mgood.nd rfl (Or.inl rfl) (pe_lst pa_nil))
      (pss_cons (ps_for PassesOwn.never rfl (p_list K (pv 3)) (pg_name (i := 8) sc_mgood.nd rfl (Or.inr rfl))
      (pss_one (ps_expr (pe_bm PySem.F.plainAttrs_list PySem.F.slot_list_extend PySem.F.type_list_extend mt_extend (pv 7) (pa_cons (pe_lc (own := [("_law_part", 10)]) (g := gName 10) (tt := tYes) rfl sc_mgood.nd (p_list K (pv 6)) (blkOk_by (own := [("_law_part", 10)]) (N := N_mgood) (sc := defScope s_mgood) (by decide +kernel)) (fun _ _ _ _ _ => (pg_name (i := 10) sc_mgood.nd rfl (Or.inl rfl))) (fun _ _ _ _ _ => pts_nil) (fun _ _ _ _ _ => (pe_callTy (c_tuple K) (by rfl) B.tuple (by decide +kernel) (pa_cons (pe_callB (c_srt K hr.units) (by rfl) B.sorted (by decide +kernel) (pa_cons (pe_op (o_catA K) (pv 8) (pv 10)) pa_nil)) pa_nil)))) pa_nil)))))
      (pss_one (ps_set (i := 3) sc_mgood.nd rfl (Or.inl rfl) (pv 7)))))))))
      (pss_one (ps_ret (pe_callTy (c_tuple K) (by rfl) B.tuple (by decide +kernel) (pa_cons (pe_callB (c_srt K hr.units) (by rfl) B.sorted (by decide +kernel) (pa_cons (pv 3) pa_nil)) pa_nil)))))), ?_⟩
    obtain ⟨mn, rfl⟩ : ∃ n : Nat, m = (n : Int) := ⟨m.toNat, by omega⟩
    -- rest, found
    refine sq_asg ⟨_, rfl, (by decide : 6 ≤ sizeLine), fun p np => ⟨_, rfl, r, c, p, d, pool, mn, rfl, .inl (sl_ upd_same), by show mn ≤ 6; omega, by decide, hR.same (same_upd np), by omega, fun L rest H1 nL c1 g1 hL hlen hmem => ⟨Nat.zero_le _, fun e0 ne0 => ⟨(by decide : 1 ≤ sizeLine), fun F0 nF0 => ⟨(by decide : 2 ≤ sizeLine), fun tp ntp => ⟨tp, _, rfl, st_ upd_same, rfl, _, _, rfl, _, _, rfl, rfl, ?_⟩⟩⟩⟩⟩⟩
    have nLH : H L = none := Classical.byContradiction fun z => by
      cases hq : H L with
      | none => exact z hq
      | some o => exact absurd ((same_upd np _ _ hq).symm.trans nL) (by simp)
    have se : Same H1 (upd (upd (upd H1 e0 (.tup [])) F0 (.lst [.ref e0])) tp (.tup [.ref L, .ref F0])) := ((same_upd ne0).trans (same_upd nF0)).trans (same_upd ntp)
    have hF0 : (upd (upd (upd H1 e0 (.tup [])) F0 (.lst [.ref e0])) tp (.tup [.ref L, .ref F0])) F0 = some (.lst [.ref e0]) := same_upd ntp _ _ upd_same
    have he0 : S1 K (upd (upd (upd H1 e0 (.tup [])) F0 (.lst [.ref e0])) tp (.tup [.ref L, .ref F0])) (.ref e0) [] := ⟨e0, rfl, st_ (same_upd ntp _ _ (same_upd nF0 _ _ upd_same))⟩
    have nF0L : F0 ≠ L := fun e => by
      rw [e, same_upd ne0 _ _ hL] at nF0
      cases nF0
    generalize upd (upd (upd H1 e0 (.tup [])) F0 (.lst [.ref e0])) tp (.tup [.ref L, .ref F0]) = H2 at se hF0 he0
    have c2 : Ch r H H2 := ((Ch.new np).trans c1).trans (Ch.of se)
    refine sq_while ?_
    refine ⟨GWs K H r c mn d L, ⟨mn, none, none, none, none, none, F0, rest, [.ref e0], [[]], rfl, ⟨hlen, c2, (g1.same se).le (by omega), se _ _ hL, hF0, nF0L, fun x hx => pool_ok x (hmem x hx), .cons he0 .nil, ⟨by simp, ?_, fun t ht => ?_⟩⟩⟩, ?_⟩
    · have : 2 ^ mn ≤ 2 ^ 5 := Nat.pow_le_pow_right (by decide) (by omega)
      show 1 * 2 ^ mn ≤ 64
      omega
    · rw [List.mem_singleton.mp ht]
      exact ⟨by simp; omega, fun x z => absurd z (by simp), fun z => absurd z (by simp)⟩
    rintro n σ1 H3 ⟨v4, v5, v6, v7, v8, F, rest, us, ts, rfl, G⟩
    refine ⟨_, rfl, Nat.zero_le _, fun l0 nl0 => ⟨.list (rest.map .str), .list [], .lst (sl_ (same_upd nl0 _ _ G.atL)) (dpStrs _), .lst (sl_ upd_same) .nil, shaped_strs (fun n hn => (G.ok n hn).cb), shaped_nil, _, rfl, ?_⟩⟩
    rw [eqv_strs_nil]
    have s0 : Same H3 (upd H3 l0 (.lst [])) := same_upd nl0
    generalize upd H3 l0 (.lst []) = H4 at s0
    have G4 : GW K H r c mn d L n F rest us ts H4 := ⟨G.len, G.ch.trans (Ch.of s0), G.rng.same s0, s0 _ _ G.atL, s0 _ _ G.atF, G.ne, G.ok, prd_mono (fun _ _ z => z.same s0) G.prd, G.gd⟩
    clear G s0 nl0
    refine ite2 (fun hne => ?_) (fun hee => ?_)
    · refine ⟨fun σ' H' => ∃ m', m' < n ∧ GWs K H r c mn d L m' σ' H', fun _ _ z => z, ?_⟩
      have hn1 : 1 ≤ n := by
        rw [← G4.len]
        cases rest with
        | nil => exact absurd hne (by simp)
        | cons _ _ => simp
      obtain ⟨t0, ht0⟩ := List.exists_mem_of_ne_nil _ G4.gd.some
      have hn5 := (G4.gd.each t0 ht0).1
      have hlen : (rest.map V.str).length = n := by rw [List.length_map, G4.len]
      -- group
      refine sq_set ⟨_, rfl, L, _, rfl, .inl (sl_ G4.atL), _, rfl, r, c, 3, d + 60 - 10 * n, rfl, by decide, by decide, by omega, G4.rng, fun z H5 c5 g5 z0 z1 => ?_⟩
      obtain ⟨j, rfl⟩ : ∃ j : Nat, z = (j : Int) := ⟨z.toNat, by omega⟩
      obtain ⟨g, hg, hg1, hg2, hg3⟩ : ∃ g : Nat, (if 1 + (j : Int) < ((rest.map V.str).length : Int) then 1 + (j : Int) else ((rest.map V.str).length : Int)) = (g : Int) ∧ 1 ≤ g ∧ g ≤ n ∧ g ≤ 3 := by
        rw [hlen]
        refine ⟨min (1 + j) n, ?_, by omega, by omega, by omega⟩
        split <;> omega
      refine ⟨_, _, rfl, rfl, _, _, rfl, (g : Int), by rw [hg], by omega, by omega, fun D nD => ?_⟩
      have cc5 := G4.ch.trans c5
      have hL5 := c5.lst G4.atL
      have hF5 := c5.lst G4.atF
      have p5 := c5.s1s G4.prd
      have nDH : H D = none := cc5.free nD
      have nDL : D ≠ L := fun e => by
        rw [e, hL5] at nD
        cases nD
      have nDF : D ≠ F := fun e => by
        rw [e, hF5] at nD
        cases nD
      refine lc_range (lo := 0) (n := (g : Int).toNat) (fun i H' => Ch r H H' ∧ Rng H' r c (d + 60 - 10 * n + 1) ∧ ∃ rest' out : List Str, H' L = some (.lst (rest'.map V.str)) ∧ H' F = some (.lst us) ∧ H' D = some (.lst (out.map V.str)) ∧ Paired (S1 K H') us ts ∧ rest'.length + i = n ∧ out.length = i ∧ (∀ s ∈ rest', s ∈ rest) ∧ ∀ s ∈ out, s ∈ rest) ?_ ?_ ?_
      · exact ⟨cc5.upd nDH, g5.mut nDH hR, rest, [], by rw [upd_ne nDL.symm]; exact hL5, by rw [upd_ne nDF.symm]; exact hF5, upd_same, (Fx.of (same_upd nD)).s1s p5, by rw [G4.len]; rfl, rfl, fun _ z => z, fun _ z => absurd z (by simp)⟩
      · rintro i H6 hi ⟨cc, gg, rest', out, h1, h2, h3, h4, l1, l2, m1, m2⟩
        refine ⟨rfl, ?_⟩
        unfold tYes
        refine iteT ?_
        have hpos : rest'.length - 1 < rest'.length := by omega
        refine ⟨_, rfl, .inl ⟨rfl, _, SqL.of h1⟩, L, _, .str rest'[rest'.length - 1], rfl, rfl, h1, ?_, out.map V.str, ?_, ?_, ?_⟩
        · rw [List.length_map, List.getElem?_map, List.getElem?_eq_getElem hpos]
          rfl
        · rw [upd_ne nDL]
          exact h3
        · rw [List.length_map]
          exact big (by omega)
        · have hd1 : (rest'.map V.str).dropLast = rest'.dropLast.map V.str := by simp
          have f1 : Fx H6 (upd H6 L (.lst (rest'.map V.str).dropLast)) := Fx.mut h1
          have f2 : Fx (upd H6 L (.lst (rest'.map V.str).dropLast)) (upd (upd H6 L (.lst (rest'.map V.str).dropLast)) D (.lst (out.map V.str ++ [.str rest'[rest'.length - 1]]))) := Fx.mut (xs := out.map V.str) (by rw [upd_ne nDL]; exact h3)
          refine ⟨(cc.upd nLH).upd nDH, (gg.mut nLH hR).mut nDH hR, rest'.dropLast, out ++ [rest'[rest'.length - 1]], ?_, ?_, ?_, (f1.trans f2).s1s h4, ?_, ?_, fun s hs => m1 s (List.dropLast_subset _ hs), fun s hs => ?_⟩
          · rw [upd_ne nDL.symm, upd_same, hd1]
          · rw [upd_ne nDF.symm, upd_ne G4.ne]
            exact h2
          · rw [upd_same, List.map_append]
            rfl
          · rw [List.length_dropLast]
            omega
          · rw [List.length_append]
            simp
            omega
          · rcases List.mem_append.mp hs with hs | hs
            · exact m2 s hs
            · rw [List.mem_singleton.mp hs]
              exact m1 _ (List.getElem_mem hpos)
      · rintro H6 ⟨cc, gg, rest', out, h1, h2, h3, h4, l1, l2, m1, m2⟩
        have hgg : (g : Int).toNat = g := by omega
        rw [hgg] at l1 l2
        unfold tNil
        show rSrt K [.ref D] _ _
        refine srt_strs (sl_ h3) fun p7 np7 => ?_
        have s7 : Same H6 (upd H6 p7 (.lst ((srt out).map V.str))) := same_upd np7
        have h7 : (upd H6 p7 (.lst ((srt out).map V.str))) p7 = some (.lst ((srt out).map V.str)) := upd_same
        generalize upd H6 p7 (.lst ((srt out).map V.str)) = H7 at s7 h7
        have glen : (srt out).length = g := by rw [srt_len, l2]
        have glen2 : ((srt out).map V.str).length = g := by rw [List.length_map, glen]
        have okg : ∀ x ∈ srt out, okS x := fun x hx => G4.ok x (m2 x ((srt_perm out).mem_iff.mp hx))
        -- amount
        refine sq_set ⟨_, rfl, _, rfl, p7, _, rfl, .inl (sl_ h7), r, c, _, d + 60 - 10 * n + 1, rfl, by omega, by omega, by omega, gg.same s7, fun z8 H8 c8 g8 z80 z81 => ⟨_, _, rfl, rfl, ?_⟩⟩
        rw [glen2] at z81
        obtain ⟨j8, rfl⟩ : ∃ j : Nat, z8 = (j : Int) := ⟨z8.toNat, by omega⟩
        -- some
        have h2g : 2 ^ g ≤ 2 ^ 3 := Nat.pow_le_pow_right (by decide) hg3
        refine sq_set ?_
        refine lcL_pairX (F := S1 K) (fun _ _ _ _ e z => z.same e) (fun sets => Sets g (srt out) sets) (fun t => decide (t.length = 1 + j8)) (fun R hR => ⟨_, rfl, p7, srt out, rfl, sl_ (c8.lst h7), by omega, fun S0 ps sets H9 e9 hS0 hps hsets => hR sets S0 H9 ps (by rw [glen] at hsets; exact hsets) e9 (sl_ hS0) hps⟩) (fun bs h => by rw [h.num]; omega) (fun _ => rfl) (fun _ => rfl) (fun x t H10 e10 hx R hR => ?_) fun sets S us6 H10 hsets nS e10 hS hp6 => ?_
        · obtain ⟨ax, rfl, hx⟩ := hx
          refine ⟨_, rfl, ax, _, rfl, .inr hx, _, rfl, rfl, _, rfl, ?_⟩
          have e2 : decide (V.int ((t.map V.str).length : Int) = V.int (1 + (j8 : Int))) = decide (t.length = 1 + j8) := by
            rw [List.length_map]
            by_cases h : t.length = 1 + j8
            · rw [decide_eq_true h, h, Int.natCast_add]
              simp
            · rw [decide_eq_false h]
              refine decide_eq_false fun e => ?_
              injection e with e
              omega
          rw [e2]
          exact hR _ (Same.refl _)
        · generalize hparts : sets.filter (fun t => decide (t.length = 1 + j8)) = parts at hp6
          have okp : ∀ t ∈ parts, t.length = 1 + j8 ∧ ∀ x ∈ t, okS x := fun t ht => by
            rw [← hparts] at ht
            obtain ⟨h1, h2⟩ := List.mem_filter.mp ht
            exact ⟨of_decide_eq_true h2, fun x hx => okg x ((hsets.each t h1).2 x hx)⟩
          have pne : 0 < parts.length := by
            obtain ⟨t, ht, e⟩ := hsets.any (1 + j8) (by omega)
            have : t ∈ parts := by
              rw [← hparts]
              exact List.mem_filter.mpr ⟨ht, decide_eq_true e⟩
            exact List.length_pos_of_mem this
          have pnum : parts.length ≤ 2 ^ g := by
            rw [← hparts, ← hsets.num]
            exact List.length_filter_le _ _
          have s6 : Ch r H6 H10 := ((Ch.of s7).trans c8).trans (Ch.of e10)
          have cc10 := cc.trans s6
          have L10 := s6.lst h1
          have F10 := s6.lst h2
          have P10 := s6.s1s h4
          have g10 : Rng H10 r c (d + 60 - 10 * n + 1 + 1) := g8.same e10
          have p6l := prd_len hp6
          have pul := prd_len h4
          -- longer = []
          refine sq_lst fun l nl => ?_
          have sl := same_upd (o := .lst []) nl
          have nlH : H l = none := cc10.free nl
          have nlL : l ≠ L := fun e => by
            rw [e, L10] at nl
            cases nl
          have nlF : l ≠ F := fun e => by
            rw [e, F10] at nl
            cases nl
          have nlS : l ≠ S := fun e => by
            rw [e, hS] at nl
            cases nl
          have tnum := G4.gd.num
          have t64 : ts.length ≤ 64 := Nat.le_trans (Nat.le_mul_of_pos_right _ (Nat.two_pow_pos n)) tnum
          refine sq_for ?_
          refine ⟨_, rfl, F, rfl, ⟨us, sl_ (sl _ _ F10)⟩, for_list (xs := us) (fun i σ' H' => ∃ (v8 : Option V) (ws : List V) (wts : List (List Str)), σ' = [some (.ref r), some (.int mn), some (.ref L), some (.ref F), some (.ref p7), some (.int (1 + (j8 : Int))), some (.ref S), some (.ref l), v8, none, none] ∧
            Ch r H H' ∧ Rng H' r c (d + 60 - 10 * n + 1 + 1) ∧ H' L = some (.lst (rest'.map V.str)) ∧ H' F = some (.lst us) ∧ H' S = some (.lst us6) ∧ Paired (S1 K H') us ts ∧ Paired (S1 K H') us6 parts ∧ H' l = some (.lst ws) ∧ Paired (S1 K H') ws wts ∧ wts.length = i * parts.length ∧
            ∀ t ∈ wts, t.length + (n - g) ≤ 5 ∧ (∀ x ∈ t, okS x) ∧ t ≠ [])
            ⟨v8, [], [], rfl, cc10.upd nlH, g10.mut nlH hR, sl _ _ L10, sl _ _ F10, sl _ _ hS, (Fx.of sl).s1s P10, (Fx.of sl).s1s hp6, upd_same, .nil, by simp, fun _ z => absurd z (by simp)⟩ (fun i σ' H' _ z => ?_) (fun i x σ' H' hi z => ?_) fun σ' H' z => ?_⟩
          · obtain ⟨v8, ws, wts, rfl, z⟩ := z
            exact sl_ z.2.2.2.1
          · obtain ⟨v8, ws, wts, rfl, k1, k2, k3, k4, k5, k6, k7, k8, k9, k10, k11⟩ := z
            obtain ⟨t, ht, hx⟩ := prd_getL k6 hi
            have htm := List.mem_of_getElem? ht
            have hte := G4.gd.each t htm
            have hil := (List.getElem?_eq_some_iff.mp hi).1
            have wl := prd_len k9
            have ip : i * parts.length ≤ 64 * 8 := Nat.mul_le_mul (by omega) (by omega)
            refine ⟨_, rfl, .inl ⟨rfl, _, SqL.of k8⟩, ?_⟩
            refine lcL_rel (K := K) (tl := tVar 6) (j := 10) (vs := [10]) (te := tCB (rTupleOf K) (tCons (tCB (rSrt K) (tCons (tOp (rCatA K) (tVar 8) (tVar 10)) tNil)) tNil)) (xs := us6) (F := fun H v b => S1 K H v b) (fun _ _ _ _ e z => e.s1 z) (parts.map fun u => srt (t ++ u)) (fun R hR => ⟨_, rfl, hR S _ (Same.refl _) (sl_ k5)⟩) (by omega) (by rw [List.length_map]; exact p6l) (fun _ => rfl) (fun a y b hy hb H11 e11 R hR => ?_) fun D3 ws3 H11 nD3 e11 hD3 hp3 => ?_
            · rw [List.getElem?_map] at hb
              obtain ⟨u, hu, rfl⟩ := Option.map_eq_some_iff.mp hb
              obtain ⟨u', hu', hy'⟩ := prd_getL k7 hy
              rw [hu] at hu'
              cases hu'
              have hup := okp u (List.mem_of_getElem? hu)
              obtain ⟨ax, rfl, hx2⟩ := hx.same e11
              obtain ⟨ay, rfl, hy2⟩ := hy'.same e11
              refine ⟨_, rfl, _, rfl, cat_names (xs := t) (ys := u) hx2 hy2 (by omega) fun z H12 e12 hz => ?_⟩
              unfold tNil
              show rSrt K [.ref z] _ _
              refine srt_any (.inr hz) fun p13 np13 => ⟨p13, _, rfl, .inl ⟨sl_ upd_same, fun t14 nt14 => ?_⟩⟩
              exact hR _ _ ((e12.trans (same_upd np13)).trans (same_upd nt14)) ⟨t14, rfl, st_ upd_same⟩
            · have w3 := prd_len hp3
              rw [List.length_map] at w3
              refine ⟨l, D3, ws, ws3, rfl, rfl, e11 _ _ k8, hD3, Nat.le_of_lt (big (by omega)), ?_⟩
              have f3 : Fx H' (upd H11 l (.lst (ws ++ ws3))) := (Fx.of e11).trans (Fx.mut (e11 _ _ k8))
              have f4 : Fx H11 (upd H11 l (.lst (ws ++ ws3))) := Fx.mut (e11 _ _ k8)
              refine ⟨some x, ws ++ ws3, wts ++ parts.map fun u => srt (t ++ u), rfl, (k1.trans (Ch.of e11)).upd nlH, (k2.same e11).mut nlH hR, by rw [upd_ne nlL.symm]; exact e11 _ _ k3, by rw [upd_ne nlF.symm]; exact e11 _ _ k4, by rw [upd_ne nlS.symm]; exact e11 _ _ k5, f3.s1s k6, f3.s1s k7, upd_same, prd_app (f3.s1s k9) (f4.s1s hp3), ?_, fun u hu => ?_⟩
              · rw [List.length_append, List.length_map, k10, Nat.succ_mul]
              · rcases List.mem_append.mp hu with hu | hu
                · exact k11 u hu
                · obtain ⟨u, hu2, rfl⟩ := List.mem_map.mp hu
                  have hup := okp u hu2
                  refine ⟨?_, fun x hx => ?_, fun e => ?_⟩
                  · rw [srt_len, List.length_append]
                    omega
                  · rcases List.mem_append.mp ((srt_perm _).mem_iff.mp hx) with hx | hx
                    · exact hte.2.1 x hx
                    · exact hup.2 x hx
                  · have e2 : t.length + u.length = 0 := by
                      rw [← List.length_append, ← srt_len, e]
                      rfl
                    have := hup.1
                    omega
          · obtain ⟨v8, ws, wts, rfl, k1, k2, k3, k4, k5, k6, k7, k8, k9, k10, k11⟩ := z
            rw [pul] at k10
            refine ⟨_, rfl, n - g, by omega, _, _, _, _, _, l, rest', ws, wts, rfl, ⟨by omega, k1, k2.le (by omega), k3, k8, nlL, fun x hx => G4.ok x (m1 x hx), k9, ⟨fun e => ?_, ?_, fun t ht => ⟨(k11 t ht).1, (k11 t ht).2.1, fun _ => (k11 t ht).2.2⟩⟩⟩⟩
            · rw [e] at k10
              have h0 : 0 < ts.length := List.length_pos_of_mem ht0
              have h1 := Nat.mul_pos h0 pne
              simp at k10
              omega
            · have h1 : ts.length * parts.length * 2 ^ (n - g) ≤ ts.length * 2 ^ g * 2 ^ (n - g) := Nat.mul_le_mul_right _ (Nat.mul_le_mul_left _ pnum)
              have h2 : 2 ^ g * 2 ^ (n - g) = 2 ^ n := by
                rw [← Nat.pow_add]
                congr 1
                omega
              rw [Nat.mul_assoc (ts.length) (2 ^ g), h2] at h1
              rw [k10]
              exact Nat.le_trans h1 tnum
    · have hn0 : n = 0 := by
        rw [← G4.len]
        cases rest with
        | nil => rfl
        | cons _ _ => exact absurd rfl hee
      subst hn0
      unfold tRet tCB tCons tNil
      refine ⟨_, rfl, ?_⟩
      show rSrt K [.ref F] _ _
      have ne := G4.gd.each
      refine srt_teams (sl_ G4.atF) G4.prd (fun t ht => (ne t ht).2.2 (by omega)) fun p8 ys np8 hps => ⟨p8, _, rfl, .inl ⟨sl_ upd_same, fun t nt => ?_⟩⟩
      have s8 := (same_upd (o := .lst ys) np8).trans (same_upd (o := .tup ys) nt)
      refine q (.ref t) (srtT ts) _ (G4.ch.trans (Ch.of s8)) ((G4.rng.same s8).le (by omega)) ⟨t, ys, rfl, st_ upd_same, prd_mono (fun _ _ z => z.same s8) hps⟩ ⟨?_, fun t ht => ?_, srtT_ord ts⟩ fun e => ?_
      · rw [(srtT_perm ts).length_eq]
        have := G4.gd.num
        omega
      · have := ne t ((srtT_perm ts).mem_iff.mp ht)
        exact ⟨this.2.2 (by omega), by omega, this.2.1⟩
      · have e2 := (srtT_perm ts).length_eq
        rw [e] at e2
        exact G4.gd.some (List.eq_nil_of_length_eq_zero e2.symm)
end
end K50

namespace K50
open PySem PySem.Spec PyProof.Rows L2 PySem.W Cb Evl
section
variable {P : Program} {w : World} {K : Frag} {mg : Str → Option Value} {base : Heap}
abbrev s_many : Stmt := top 29
theorem sc_many : FnScope ["_law_rng", "_law_most"] ["_law_rng", "_law_most"] (defScope s_many) := ⟨rfl, rfl, rfl, by decide +kernel, rfl, by decide +kernel, by decide +kernel⟩
def sp_many (K : Frag) : Sp := fun vs H Q _ => ∃ (r c : Addr) (d : Int), vs = [.ref r, .int 5] ∧ d ≤ 900000 ∧ Rng H r c d ∧ ∀ v ts H', Ch r H H' → Rng H' r c (d + 1010) → S2 K H' v ts → Gt ts → ts ≠ [] → Q v H'
theorem ok_many {f : Addr} {fd : FuncData} {k : Nat} (F : Fun K "_law_make_any" "_law_make_any" s_many f fd) (D__law_draw : Own P w K mg base 1 "_law_draw" ["_law_rng", "_law_limit"] sp_draw) (D__law_make_good : Own P w K mg base 3 "_law_make_good" ["_law_rng", "_law_most"] (sp_made 2 5 K))
    (D__law_make_teams : Own P w K mg base 3 "_law_make_teams" ["_law_rng", "_law_most"] (sp_made 3 5 K)) : FnOk P w K mg base CX0 (k + 4) f fd ["_law_rng", "_law_most"] (sp_many K) := by
  refine F.ok sc_many (fun vs H Q E h => ?_) (fun cdv A outer s H vs Q E hr h => ?_)
  · obtain ⟨_, _, _, rfl, _⟩ := h
    rfl
  · obtain ⟨r, c, d, rfl, hd, hR, q⟩ := h
    have hr1 : Room 1 _ := hr.mono (by omega)
    have hr3 : Room 3 _ := hr.mono (by omega)
    refine ⟨_, (pss_cons (ps_if (pt_cmpR op_eq (pe_call D__law_draw.G hr1 rfl D__law_draw.m D__law_draw.kp D__law_draw.b .nil pass0 (pa_cons (pv 0) (pa_cons pe_int pa_nil))) pe_int (nomark _)) (pss_one (ps_ret (pe_call D__law_make_good.G hr3 rfl D__law_make_good.m D__law_make_good.kp D__law_make_good.b .nil pass0 (pa_cons (pv 0) (pa_cons (pe_op op_add pe_int (pe_call D__law_draw.G hr1 rfl D__law_draw.m D__law_draw.kp D__law_draw.b .nil pass0 (pa_cons (pv 0) (pa_cons (pe_op op_sub (pv 1) pe_int) pa_nil)))) pa_nil))))) pss_nil)
      (pss_one (ps_ret (pe_call D__law_make_teams.G hr3 rfl D__law_make_teams.m D__law_make_teams.kp D__law_make_teams.b .nil pass0 (pa_cons (pv 0) (pa_cons (pv 1) pa_nil)))))), ?_⟩
    refine ⟨_, rfl, r, c, 3, d, rfl, by decide, by decide, by omega, hR, fun z H1 c1 g1 z0 z1 => ⟨rfl, _, rfl, ite2 (fun _ => ?_) (fun _ => ?_)⟩⟩
    · refine ⟨_, rfl, _, rfl, _, rfl, _, _, rfl, rfl, r, c, 5 - 1, d + 1, rfl, by decide, by decide, by omega, g1, fun z2 H2 c2 g2 z20 z21 => ⟨_, _, rfl, rfl, r, c, 2 + z2, d + 1 + 1, rfl, by omega, by omega, by omega, g2, fun v ts H3 c3 g3 h3 gt ne => ?_⟩⟩
      exact q v ts H3 ((c1.trans c2).trans c3) (g3.le (by omega)) h3 gt ne
    · refine ⟨_, rfl, _, rfl, r, c, 5, d + 1, rfl, by decide, by decide, by omega, g1, fun v ts H3 c3 g3 h3 gt ne => ?_⟩
      exact q v ts H3 (c1.trans c3) (g3.le (by omega)) h3 gt ne
end
end K50

namespace Cb
open PySem PySem.Spec PyProof.Rows L2 PySem.W
section
variable {X : Cx} {k : Nat} {f : Addr} {CX : CXT} {sp : Sp} {x : Str} {p pos : Pos} {e : Expr} {es : List Expr} {t : TA} {E : XK}
/-- f(e, ..), f told by what stands in its places -/
theorem pe_callP (F : FnR X.prog X.w X.K X.mg X.base CX k f sp) (hr : Room k X.A) (hg : Gl X x) (hm : X.mg x = some (.ref f)) (hk : keepIn X.K (.ref f) = true) (hx : Passes CX X E) (ha : PA X (e :: es) t)
    (hdb : (x == ("__debug__" : Str)) = false := by decide) (he : starEach (e :: es) X.env = (false, eval e X.env) :: starEach es X.env := by rfl) (hpl : (backTo pos (starEach es X.env)).any (·.1) = false := by rfl) :
    PE X (.Call (.Name x p) (e :: es) [] pos) (tCall sp [] E t) := by
  refine ⟨fun pins s σ H Q I h => wpAny_Call_Name_kw (ld_glob I hg hm ?_ hdb)⟩
  refine callWith_K (h₀ := X.base) I.ok.mod.kin hk (thn (ha.run pos pins s σ H _ I h) fun us s1 ⟨vs, H1, I1, r, q⟩ => ⟨I1.kIn, ?_⟩) he hpl
  have q1 : sp (vs ++ []) H1 Q E := q
  rw [List.append_nil] at q1
  exact wpAny_call (run_fnR F hr hx I1 r q1)
/-- a statement that is not reached -/
theorem ps_never {st : Stmt} : PS X st (fun _ _ _ => False) := ⟨fun _ _ _ _ _ _ h => h.elim⟩
end
section
variable {K : Frag} {tl : TE} {j : Nat} {vs : List Nat} {σ : Stt} {H : Hp} {tt : TT} {Q : VK} {β : Type} {F : Hp → V → β → Prop} {us : List V} {bs : List β} {a : Addr}
/-- [x for x in t if ..], t a tuple, the items told by what they stand for -/
theorem lcT_pair (mono : ∀ H1 H2 v b, Same H1 H2 → F H1 v b → F H2 v b) (p : β → Bool) (hl : ∀ R : VK, R (.ref a) H → tl σ H R) (hs : SqT K H a us) (hp : Paired (F H) us bs) (hn : bs.length ≤ 100000)
    (hj : ∀ x, wipe ((wipe σ vs).set j (some x)) vs = wipe σ vs) (hv : ∀ x, ((wipe σ vs).set j (some x))[j]? = some (some x))
    (ht : ∀ x b, b ∈ bs → ∀ H1, Same H H1 → F H1 x b → ∀ R : Bool → Hp → Prop, (∀ H2, Same H1 H2 → R (p b) H2) → tt ((wipe σ vs).set j (some x)) H1 R)
    (q : ∀ L ws H', H L = none → Same H H' → H' L = some (.lst ws) → Paired (F H') ws (bs.filter p) → Q (.ref L) H') : tLc (iTup K tl) (gName j) tt (tVar j) vs σ H Q := by
  refine hl _ ⟨a, rfl, ⟨us, hs⟩, fun L nL => ?_⟩
  have hlen := prd_len hp
  refine lc_tup (K := K) (a := a) (xs := us) (fun i H' => Same H H' ∧ ∃ ws, H' L = some (.lst ws) ∧ Paired (F H) ws ((bs.take i).filter p)) ⟨same_upd nL, [], upd_same, .nil⟩ (fun i H' _ z => sameT z.1 hs) (fun i x H' hi z => ⟨hj x, ?_⟩) fun H' z => ?_
  · obtain ⟨e2, ws, hw, hpw⟩ := z
    obtain ⟨b, hb, hf⟩ := prd_getL hp hi
    have hwl := prd_len hpw
    have hfl := List.length_filter_le p (bs.take i)
    have hbl := (List.getElem?_eq_some_iff.mp hb).1
    rw [List.length_take] at hfl
    refine ht x b (List.mem_of_getElem? hb) H' e2 (mono _ _ _ _ e2 hf) _ fun H2 e3 => ?_
    rw [take_snoc hb, List.filter_append]
    by_cases h : p b = true
    · rw [if_pos h]
      refine ⟨x, hv x, ws, e3 _ _ hw, big (by omega), same_mut (e2.trans e3) nL, ws ++ [x], upd_same, ?_⟩
      rw [List.filter_cons_of_pos h]
      exact prd_app hpw (.cons hf .nil)
    · rw [if_neg h]
      refine ⟨e2.trans e3, ws, e3 _ _ hw, ?_⟩
      rw [List.filter_cons_of_neg h]
      simpa using hpw
  · obtain ⟨e2, ws, hw, hpw⟩ := z
    rw [hlen, List.take_length] at hpw
    exact q L ws H' nL e2 hw (prd_mono (fun _ _ z => mono _ _ _ _ e2 z) hpw)
end
end Cb
namespace K50
open PySem PySem.Spec PyProof.Rows L2 PySem.W Cb Evl
section
variable {P : Program} {w : World} {K : Frag} {mg : Str → Option Value} {base : Heap}
/-! ### contains -/
abbrev s_contains : Stmt := top 13
abbrev N_contains : List Str := ["larger", "smaller", "person"]
theorem sc_contains : FnScope N_contains ["larger", "smaller"] (defScope s_contains) := ⟨rfl, rfl, rfl, by decide +kernel, rfl, by decide +kernel, by decide +kernel⟩
def has (c o : List Str) : Bool := o.all fun p => isIn p c
def sp_contains (K : Frag) : Sp := fun vs H Q _ => ∃ (x y : V) (c o : List Str), vs = [x, y] ∧ S1 K H x c ∧ S1 K H y o ∧ o.length ≤ 1000 ∧ ∀ H', Same H H' → Q (.bl (has c o)) H'
theorem ok_contains {f : Addr} {fd : FuncData} {k : Nat} (F : Fun K "contains" "contains" s_contains f fd) (B : Blt mg) : FnOk P w K mg base CX0 (k + 1) f fd ["larger", "smaller"] (sp_contains K) := by
  refine F.ok sc_contains (fun vs H Q E h => ?_) (fun cdv A outer s H vs Q E hr h => ?_)
  · obtain ⟨_, _, _, _, rfl, _⟩ := h
    rfl
  · obtain ⟨x, y, c, o, rfl, ⟨b, rfl, hc⟩, ⟨a, rfl, ho⟩, hl, q⟩ := h
    refine ⟨_, (pss_one (ps_ret (pe_callB (c_all K) (by rfl) B.all (by decide +kernel) (pa_cons (pe_lc (own := [("person", 2)]) (g := gName 2) (tt := tYes) rfl sc_contains.nd (p_tup K (pv 1)) (blkOk_by (own := [("person", 2)]) (N := N_contains) (sc := defScope s_contains) (by decide +kernel)) (fun _ _ _ _ _ => (pg_name (i := 2) sc_contains.nd rfl (Or.inl rfl))) (fun _ _ _ _ _ => pts_nil) (fun _ _ _ _ _ => (pe_cmpR (o_in K) (pv 2) (pv 0) rfl))) pa_nil)))), ?_⟩
    unfold tRet tCB tCons tNil
    refine lcT_filter (xs := o.map V.str) (fun _ => true) (fun v => match v with | .str m => .bl (isIn m c) | _ => .non) (fun R hR => ⟨_, rfl, hR a H (Same.refl H) ho⟩) (by rw [List.length_map]; omega) (fun _ => rfl) (fun v hv H1 e1 R hR => hR) (fun v hv _ H1 e1 R hR => ?_) fun D H' hD e hH => ?_
    · obtain ⟨m, hm, rfl⟩ := List.mem_map.mp hv
      refine ⟨_, rfl, _, rfl, b, _, rfl, .inr (sameT e1 hc), rfl, flat_strs c, ?_⟩
      rw [inV_strs]
      exact hR _ (Same.refl _)
    · have e2 : ((o.map V.str).filter (fun _ => true)).map (fun v => match v with | .str m => V.bl (isIn m c) | _ => .non) = (o.map fun m => isIn m c).map V.bl := by
        rw [List.filter_eq_self.mpr (fun _ _ => rfl), List.map_map, List.map_map]
        rfl
      rw [e2] at hH
      refine ⟨D, _, rfl, sl_ hH, ?_⟩
      have e3 : (o.map fun m => isIn m c).all id = has c o := by
        rw [List.all_map]
        rfl
      rw [e3]
      exact q H' e
/-! ### the people of the crews -/
abbrev s_people : Stmt := top 14
abbrev N_people : List Str := ["crews", "crew", "person"]
theorem sc_people : FnScope N_people ["crews"] (defScope s_people) := ⟨rfl, rfl, rfl, by decide +kernel, rfl, by decide +kernel, by decide +kernel⟩
def folk (ts : List (List Str)) : List Str := once ts.flatten
def sp_people (K : Frag) : Sp := fun vs H Q _ => ∃ (x : V) (ts : List (List Str)), vs = [x] ∧ S2 K H x ts ∧ Gt ts ∧ ∀ v H', Same H H' → S1 K H' v (folk ts) → Q v H'
theorem ok_people {f : Addr} {fd : FuncData} {k : Nat} (F : Fun K "people_of" "people_of" s_people f fd) (B : Blt mg) : FnOk P w K mg base CX0 (k + 1) f fd ["crews"] (sp_people K) := by
  refine F.ok sc_people (fun vs H Q E h => ?_) (fun cdv A outer s H vs Q E hr h => ?_)
  · obtain ⟨_, _, rfl, _⟩ := h
    rfl
  · obtain ⟨x, ts, rfl, ht, gt, q⟩ := h
    refine ⟨_, (pss_one (ps_ret (pe_callTy (c_tuple K) (by rfl) B.tuple (by decide +kernel) (pa_cons (pe_callB (cr_srtS rfl hr.units) (by rfl) B.sorted (by decide +kernel) (pa_cons
      (scN_ok (own := [("crew", 1), ("person", 2)]) (g := gName 1) (tt := tYes) (vI := [2]) rfl sc_people.nd (p_tup K (pv 0)) (blkOk_by (own := [("crew", 1), ("person", 2)]) (N := N_people) (sc := defScope s_people) (by decide +kernel)) (by intro _; rfl)
        (fun it D env => turnS2_0 _ _ _ _ _ _ _ _ _ _ _ _) (fun _ _ _ _ _ => pg_name (i := 1) sc_people.nd rfl (Or.inl rfl)) (fun _ _ _ _ _ => pts_nil)
        (fun _ _ _ _ _ D => bdC_clause (vs := [2]) (g := gName 2) (tt := tYes) rfl rfl (fun it => turnS2_1 _ _ _ _ _ _ _ _ _ _ _ _) rfl (by intro _; rfl) (p_tup K (pv 1)) (pg_name (i := 2) sc_people.nd rfl (Or.inl rfl)) pts_nil
          (bd_lastS P w rfl (pv 2)) (by simp)) (by simp)) pa_nil)) pa_nil)))), ?_⟩
    unfold tRet tCB tCons tNil
    refine set_flat ht (fun t h => (gt.each t h).2.1) gt.many fun D l H1 nD e1 hD nd hm => ?_
    refine ⟨D, l, rfl, hD, fun p ks np pk => ?_⟩
    refine ⟨p, _, rfl, .inl ⟨sl_ upd_same, fun t nt => ?_⟩⟩
    have e2 : srt ks = folk ts := once_eq (pk.nodup_iff.mpr nd) fun x => by rw [pk.mem_iff, hm]
    rw [e2] at nt ⊢
    exact q _ _ ((e1.trans (same_upd np)).trans (same_upd nt)) ⟨t, rfl, st_ upd_same⟩
/-! ### the crews within a set -/
abbrev s_cwithin : Stmt := top 15
abbrev N_cwithin : List Str := ["crews", "people", "crew"]
theorem sc_cwithin : FnScope N_cwithin ["crews", "people"] (defScope s_cwithin) := ⟨rfl, rfl, rfl, by decide +kernel, rfl, by decide +kernel, by decide +kernel⟩
def left (ts : List (List Str)) (ps : List Str) : List (List Str) := ts.filter fun t => has ps t
def sp_cwithin (K : Frag) : Sp := fun vs H Q _ => ∃ (x y : V) (ts : List (List Str)) (ps : List Str), vs = [x, y] ∧ S2 K H x ts ∧ S1 K H y ps ∧ Gt ts ∧ ∀ v H', Same H H' → S2 K H' v (left ts ps) → Q v H'
theorem ok_cwithin {f : Addr} {fd : FuncData} {k : Nat} (F : Fun K "crews_within" "crews_within" s_cwithin f fd) (B : Blt mg) (D_contains : Own P w K mg base 1 "contains" ["larger", "smaller"] (sp_contains K)) : FnOk P w K mg base CX0 (k + 2) f fd ["crews", "people"] (sp_cwithin K) := by
  refine F.ok sc_cwithin (fun vs H Q E h => ?_) (fun cdv A outer s H vs Q E hr h => ?_)
  · obtain ⟨_, _, _, _, rfl, _⟩ := h
    rfl
  · obtain ⟨x, y, ts, ps, rfl, ⟨a, us, rfl, ha, hp⟩, hy, gt, q⟩ := h
    have hr1 : Room 1 _ := hr.mono (by omega)
    refine ⟨_, (pss_one (ps_ret (pe_callTy (c_tuple K) (by rfl) B.tuple (by decide +kernel) (pa_cons (pe_lc (own := [("crew", 2)]) (g := gName 2) rfl sc_cwithin.nd (p_tup K (pv 0)) (blkOk_by (own := [("crew", 2)]) (N := N_cwithin) (sc := defScope s_cwithin) (by decide +kernel)) (fun _ _ _ _ _ => (pg_name (i := 2) sc_cwithin.nd rfl (Or.inl rfl))) (fun _ _ _ _ _ => (pts_one (pt_val (pe_call D_contains.G hr1 rfl D_contains.m D_contains.kp D_contains.b .nil pass0 (pa_cons (pv 1) (pa_cons (pv 2) pa_nil)))))) (fun _ _ _ _ _ => (pv 2))) pa_nil)))), ?_⟩
    unfold tRet tCB tCons tNil
    refine lcT_pair (F := S1 K) (fun _ _ _ _ e z => z.same e) (fun t => has ps t) (fun R hR => ⟨_, rfl, hR⟩) ha hp (by have := gt.many; omega) (fun _ => rfl) (fun _ => rfl) (fun v t ht H1 e1 hv R hR => ?_) fun L ws H1 nL e1 hL hw => ?_
    · exact ⟨_, rfl, _, rfl, y, v, ps, t, rfl, hy.same e1, hv, by have := (gt.each t ht).2.1; omega, fun H2 e2 => ⟨_, rfl, hR H2 e2⟩⟩
    · exact ⟨L, _, rfl, .inl ⟨sl_ hL, fun t nt => q _ _ (e1.trans (same_upd nt)) ⟨t, ws, rfl, st_ upd_same, prd_mono (fun _ _ z => z.same (same_upd nt)) hw⟩⟩⟩
end
end K50

namespace Cb
open PySem PySem.Spec PyProof.Rows L2 PySem.W
/-! ### xs.count(True) of a list of bools -/
theorem bools_of_vals : ∀ {bs : List Bool} {us : List Value}, Vals (bs.map V.bl) us → us = bs.map Value.bool
  | [], _, r => by cases r; rfl
  | b :: bs, _, r => by
    cases r with
    | cons r t =>
      rw [bools_of_vals t, show _ = Value.bool b from r]
      rfl
def rCntB (K : Frag) : V → List V → Hp → VK → Prop := fun x xs H Q => ∃ (p : Addr) (bs : List Bool) (b : Bool), x = .ref p ∧ xs = [.bl b] ∧ SqL K H p (bs.map V.bl) ∧ Q (.int (bs.count b : Nat)) H
def eqb (b : Bool) (v : Value) : Bool := match v with
  | .bool c => c == b
  | _ => false
theorem mt_countB {X : Cx} {K : Frag} (e : X.K = K := by rfl) : MtR X "list.count" (rCntB K) := by
  subst e
  intro pins s σ H x xs v us Q I rx rxs h
  obtain ⟨p, bs, b, rfl, rfl, hs, q⟩ := h
  cases rx
  obtain ⟨u, rfl, ru⟩ := rxs.one
  cases (show u = Value.bool b from ru)
  obtain ⟨its, rv, ⟨⟨cls, dd, data, sl⟩, n, ho, hc, hdn, hd⟩, hlen⟩ := I.list hs
  simp only at hc hd
  subst hc hd
  have hi := bools_of_vals rv
  subst hi
  refine call_meets PySem.F.slot_list_count ⟨_, ho, rfl⟩ PySem.F.entry_list_count (PySem.F.args_list_count_2 _ _)
    (SeqAt.list_countAt p (bs.map Value.bool).toArray n dd sl (.bool b) (eqb b)) ⟨ho, fun y hy => ?_, ?_⟩
  · have hy' : y ∈ bs.map Value.bool := List.mem_toArray.mp hy
    obtain ⟨c, _, rfl⟩ := List.mem_map.mp hy'
    exact SeqAt.EqAt.bool_bool c b
  · have ec : (bs.map Value.bool).toArray.toList.countP (eqb b) = bs.count b := by
      show (bs.map Value.bool).countP (eqb b) = _
      rw [List.countP_map]
      rfl
    refine ⟨.int (bs.count b : Nat), H, I.tok _, ⟨s.toks, ?_⟩, q⟩
    show Value.int (((bs.map Value.bool).toArray.toList.countP (eqb b) : Nat) : Int) s.toks = Value.int ((bs.count b : Nat) : Int) s.toks
    rw [ec]
end Cb
namespace K50
open PySem PySem.Spec PyProof.Rows L2 PySem.W Cb Evl
/-- what the written part says of the errors' classes -/
structure ErrF (K : Frag) (mg : Str → Option Value) where
  isi : mg "isinstance" = none
  IP : Addr
  mIP : mg "InvalidPaper" = some (.ref IP)
  UP : Addr
  mUP : mg "UnknownPerson" = some (.ref UP)
  IE : Addr
  mIE : mg "InvalidEvent" = some (.ref IE)
  IR : Addr
  mIR : mg "InvalidRow" = some (.ref IR)
  IT : Addr
  mIT : mg "InvalidText" = some (.ref IT)
  IW : Addr
  mIW : mg "InvalidWidth" = some (.ref IW)
  NU : Addr
  mNU : mg "NothingToUndo" = some (.ref NU)
  PE : Addr
  mPE : mg "PaperError" = some (.ref PE)
  TE : Addr
  mTE : mg "TeamError" = some (.ref TE)
  TX : Addr
  mTX : mg "TextError" = some (.ref TX)
  CC : Addr
  mCC : mg "CrewError" = some (.ref CC)
  exm : PySem.W.exmOne K (.ref UP) (.ref CC) = some true
  ex : ExcC K UP
  xf : XfC K UP
  np : PySem.W.findIn K (.ref UP) "person" = some none
  kIP : PySem.W.kitOne K (.ref UP) (.ref IP) = some false
  kUP : PySem.W.kitOne K (.ref UP) (.ref UP) = some true
  kAny : PySem.W.kitAny K (.ref UP) [.ref IE, .ref IR, .ref IT, .ref IW, .ref NU] = some false
  kPE : PySem.W.kitOne K (.ref UP) (.ref PE) = some false
  kTE : PySem.W.kitOne K (.ref UP) (.ref TE) = some true
  kTX : PySem.W.kitOne K (.ref UP) (.ref TX) = some false
section
variable {P : Program} {w : World} {K : Frag} {mg : Str → Option Value} {base : Heap}
/-! ### an error's key -/
abbrev s_l_error : Stmt := top 30
abbrev N_l_error : List Str := ["_law_e", "_law_sorts", "_law_foreign", "_law_families"]
theorem sc_l_error : FnScope N_l_error ["_law_e"] (defScope s_l_error) := ⟨rfl, rfl, rfl, by decide +kernel, rfl, by decide +kernel, by decide +kernel⟩
def sp_error (K : Frag) (mg : Str → Option Value) (E : ErrF K mg) : Sp := fun vs H Q _ => ∃ (a : Addr) (p : Str), vs = [.ref a] ∧ Exh H a E.UP [("person", .str p)] ∧ ∀ t H', Same H H' → H' t = some (.tup [.str "person", .str p]) → Q (.ref t) H'
theorem exh_same {H H' : Hp} {a D : Addr} {fs : List (Str × V)} (e : Same H H') (h : Exh H a D fs) : Exh H' a D fs := by
  obtain ⟨dd, e1, e2⟩ := h
  exact ⟨dd, e _ _ e1, e _ _ e2⟩
theorem ok_error {f : Addr} {fd : FuncData} {k : Nat} (F : Fun K "_law_error" "_law_error" s_l_error f fd) (E : ErrF K mg) : FnOk P w K mg base CX0 (k + 1) f fd ["_law_e"] (sp_error K mg E) := by
  refine F.ok sc_l_error (fun vs H Q E h => ?_) (fun cdv A outer s H vs Q _ hr h => ?_)
  · obtain ⟨_, _, rfl, _⟩ := h
    rfl
  · obtain ⟨a, p, rfl, hx, q⟩ := h
    refine ⟨_, (pss_cons (ps_set (i := 1) sc_l_error.nd rfl (Or.inl rfl) (pe_lst (pa_cons (pe_callB (c_isX (K := K)) (by rfl) E.isi (by decide +kernel) (pa_cons (pv 0) (pa_cons (pe_glob (v := .ref E.IP) (by rfl) E.mIP rfl) pa_nil))) (pa_cons (pe_callB (c_isX (K := K)) (by rfl) E.isi (by decide +kernel) (pa_cons (pv 0) (pa_cons (pe_glob (v := .ref E.UP) (by rfl) E.mUP rfl) pa_nil))) pa_nil))))
      (pss_cons (ps_set (i := 2) sc_l_error.nd rfl (Or.inl rfl) (pe_callB (c_isXT (K := K)) (by rfl) E.isi (by decide +kernel) (pa_cons (pv 0) (pa_cons (pe_tup (pa_cons (pe_glob (v := .ref E.IE) (by rfl) E.mIE rfl) (pa_cons (pe_glob (v := .ref E.IR) (by rfl) E.mIR rfl) (pa_cons (pe_glob (v := .ref E.IT) (by rfl) E.mIT rfl) (pa_cons (pe_glob (v := .ref E.IW) (by rfl) E.mIW rfl) (pa_cons (pe_glob (v := .ref E.NU) (by rfl) E.mNU rfl) pa_nil)))))) pa_nil))))
      (pss_cons (ps_set (i := 3) sc_l_error.nd rfl (Or.inl rfl) (pe_lst (pa_cons (pe_callB (c_isX (K := K)) (by rfl) E.isi (by decide +kernel) (pa_cons (pv 0) (pa_cons (pe_glob (v := .ref E.PE) (by rfl) E.mPE rfl) pa_nil))) (pa_cons (pe_callB (c_isX (K := K)) (by rfl) E.isi (by decide +kernel) (pa_cons (pv 0) (pa_cons (pe_glob (v := .ref E.TE) (by rfl) E.mTE rfl) pa_nil))) (pa_cons (pe_callB (c_isX (K := K)) (by rfl) E.isi (by decide +kernel) (pa_cons (pv 0) (pa_cons (pe_glob (v := .ref E.TX) (by rfl) E.mTX rfl) pa_nil))) pa_nil)))))
      (pss_cons (ps_if (PW.pt (pw_or (pt_truth (pv 2) (by intro _; rfl)) (pw_or (pt_cmpR op_ne (pe_bm PySem.F.plainAttrs_list PySem.F.slot_list_count PySem.F.type_list_count mt_countB (pv 1) (pa_cons pe_bl pa_nil)) pe_int (nomark _)) (pw_or1 (pt_cmpR (o_neD K hr.units) (pv 3) (pe_op op_cat (pv 1) (pe_lst (pa_cons pe_bl pa_nil))) (nomark _)))))) (pss_one (ps_ret (pe_tup (pa_cons pe_str pa_nil)))) pss_nil)
      (pss_one (ps_ret (pe_ifExp (pt_truth (pe_ix (i_list K) (pv 1) pe_int (fun _ _ => rfl)) (by intro _; rfl)) (pe_tup (pa_cons pe_str (pa_cons (pe_xh (K := K) (pv 0)) (pa_cons (pe_xh (K := K) (pv 0)) pa_nil)))) (pe_tup (pa_cons pe_str (pa_cons (pe_xh (K := K) (pv 0)) pa_nil)))))))))), ?_⟩
    unfold tCB tCons tNil tC
    refine ⟨_, rfl, a, E.UP, _, _, _, false, rfl, .own _, hx, E.ex, E.kIP, ?_⟩
    refine ⟨_, rfl, a, E.UP, _, _, _, true, rfl, .own _, hx, E.ex, E.kUP, ?_⟩
    refine ⟨by show 2 ≤ sizeLine; decide, fun l1 n1 => ?_⟩
    have e1 : Same H (upd H l1 (.lst [.bl false, .bl true])) := same_upd n1
    refine ⟨_, rfl, by show 5 ≤ sizeLine; decide, fun t1 n2 => ?_⟩
    have e2 := e1.trans (same_upd (o := .tup [.ref E.IE, .ref E.IR, .ref E.IT, .ref E.IW, .ref E.NU]) n2)
    refine ⟨a, E.UP, _, t1, _, _, false, rfl, upd_same, .cons (.own _) (.cons (.own _) (.cons (.own _) (.cons (.own _) (.cons (.own _) .nil)))), exh_same e2 hx, E.ex, E.kAny, ?_⟩
    refine ⟨_, rfl, a, E.UP, _, _, _, false, rfl, .own _, exh_same e2 hx, E.ex, E.kPE, ?_⟩
    refine ⟨_, rfl, a, E.UP, _, _, _, true, rfl, .own _, exh_same e2 hx, E.ex, E.kTE, ?_⟩
    refine ⟨_, rfl, a, E.UP, _, _, _, false, rfl, .own _, exh_same e2 hx, E.ex, E.kTX, ?_⟩
    refine ⟨by show 3 ≤ sizeLine; decide, fun l2 n3 => ?_⟩
    have e3 := e2.trans (same_upd (o := .lst [.bl false, .bl true, .bl false]) n3)
    have hl1 : SqL K (upd (upd (upd H l1 (.lst [.bl false, .bl true])) t1 (.tup [.ref E.IE, .ref E.IR, .ref E.IT, .ref E.IW, .ref E.NU])) l2 (.lst [.bl false, .bl true, .bl false])) l1 [.bl false, .bl true] := sl_ ((same_upd (o := .lst [.bl false, .bl true, .bl false]) n3) _ _ ((same_upd (o := .tup [.ref E.IE, .ref E.IR, .ref E.IT, .ref E.IW, .ref E.NU]) n2) _ _ upd_same))
    refine ⟨_, rfl, false, rfl, ?_⟩
    refine ite2 (fun z => absurd z (by decide)) fun _ => ?_
    refine ⟨_, rfl, .inl ⟨rfl, _, hl1⟩, l1, [false, true], true, rfl, rfl, hl1, ?_⟩
    refine ⟨rfl, _, rfl, ite2 (fun z => absurd z (by decide)) fun _ => ?_⟩
    refine ⟨_, rfl, _, rfl, by show 1 ≤ sizeLine; decide, fun l3 n4 => ?_⟩
    have e4 := e3.trans (same_upd (o := .lst [.bl false]) n4)
    have s4 := same_upd (o := .lst [.bl false]) n4
    have g1 := (same_upd (o := .lst [.bl false, .bl true, .bl false]) n3) _ _ ((same_upd (o := .tup [.ref E.IE, .ref E.IR, .ref E.IT, .ref E.IW, .ref E.NU]) n2) _ _ (upd_same (H := H) (a := l1) (o := .lst [.bl false, .bl true])))
    refine ⟨l1, l3, [.bl false, .bl true], [.bl false], rfl, rfl, s4 _ _ g1, upd_same, by show 3 ≤ sizeLine; decide, fun l4 n5 => ?_⟩
    have s5 := same_upd (o := .lst ([.bl false, .bl true] ++ [.bl false])) n5
    have e5 := e4.trans s5
    refine ⟨.list [.bool false, .bool true, .bool false], .list [.bool false, .bool true, .bool false], .lst (sl_ (s5 _ _ (s4 _ _ upd_same))) (.cons (.bl _) (.cons (.bl _) (.cons (.bl _) .nil))), .lst (sl_ upd_same) (.cons (.bl _) (.cons (.bl _) (.cons (.bl _) .nil))), rfl, rfl, _, rfl, ite2 (fun z => absurd z (by decide)) fun _ => ?_⟩
    refine ⟨_, rfl, l1, _, 0, _, rfl, rfl, sl_ (s5 _ _ (s4 _ _ g1)), rfl, _, rfl, ite2 (fun z => absurd z (by decide)) fun _ => ?_⟩
    refine ⟨_, rfl, a, E.UP, _, _, rfl, exh_same e5 hx, E.xf, E.np, rfl, by show 2 ≤ sizeLine; decide, fun t n6 => q t _ (e5.trans (same_upd n6)) upd_same⟩
end
end K50

namespace K50
open PySem PySem.Spec PyProof.Rows L2 PySem.W Cb Evl LamX
/-! ### a call's result, or its error's key -/
abbrev s_call : Stmt := top 31
abbrev N_call : List Str := ["_law_ask_here", "_law_found", "_law_e"]
theorem sc_call : FnScope N_call ["_law_ask_here"] (defScope s_call) := ⟨rfl, rfl, rfl, by decide +kernel, rfl, by decide +kernel, by decide +kernel⟩
/-- what the call of a lambda makes of its reading -/
def TTc (K : Frag) (UP : Addr) : (XK → Hp → VK → Prop) → Hp → VK → Prop := fun tl H Q =>
  tl (fun cls d H' => cls = .ref UP ∧ ∃ (dd : Addr) (p : Str), d = some dd ∧ H' dd = some (.xd [("person", .str p)]) ∧ ∀ t H'', Same H' H'' → H'' t = some (.tup [.str "person", .str p]) → Q (.ref t) H'') H
    (fun v H1 => 2 ≤ sizeLine ∧ ∀ t, H1 t = none → Q (.ref t) (upd H1 t (.tup [.str "got", v])))
section
variable {X : Cx} {K : Frag} {mg : Str → Option Value} {base : Heap} {k : Nat}
theorem gives_call {g : Addr} {cdg : Value} {q : Str} (E : ErrF X.K X.mg) (hr : Room (k + 3) X.A) (D_error : Own X.prog X.w X.K X.mg X.base 1 "_law_error" ["_law_e"] (sp_error X.K X.mg E)) :
    GivesTo X N_call "_law_call" (defScope s_call) g cdg (defBody s_call) "_law_ask_here" q (TTc X.K E.UP) := by
  intro f c' s H Q tl act hc h
  have hr2 : Room 2 (cxOf C8.CX0 X.prog X.w X.K X.mg X.base N_call "_law_call" (defScope s_call) g cdg X.A X.stack s H C8.E0).nox.A := (hr.deeper _).mono (by omega)
  refine ⟨_, pss_cons (ps_set (i := 1) sc_call.nd rfl (Or.inl rfl) pe_non)
    (pss_cons (ps_try_keep (X := (cxOf C8.CX0 X.prog X.w X.K X.mg X.base N_call "_law_call" (defScope s_call) g cdg X.A X.stack s H C8.E0).nox) (i := 2) (c := .ref E.CC)
      (tb := fun W D σ H => ∃ Ech : XK, (∀ cls d σ' H', Ech cls d H' → W cls d σ' H') ∧ σ[0]? = some (some (.ref f)) ∧ H c' = some (CodeO c' q) ∧ tl Ech H fun v H1 => 2 ≤ sizeLine ∧ ∀ p, H1 p = none → D.rt (.ref p) (upd H1 p (.tup [.str "got", v])))
      (ts := fun a cls d => tAsg (tVar 2) (gName 1))
      rfl rfl rfl sc_call.nd rfl rfl ⟨rfl, by decide, .inl E.mCC⟩ (fun W pn xe tk => ?_) (fun a oe cls d pn _ _ => pss_one (ps_set (i := 1) sc_call.nd rfl (Or.inl rfl) (pv 2))))
    (pss_one (ps_ret (pe_call D_error.G (hr2.mono (by omega)) rfl D_error.m D_error.kp D_error.b .nil pass0 (pa_cons (pv 1) pa_nil))))), ?_⟩
  · refine ⟨fun pins s' σ H' D I h' => ?_⟩
    obtain ⟨Ech, hW, h1, h2, h3⟩ := h'
    refine' PSs.run ?hh pins s' σ H' D I ?hq
    case hh => exact pss_one (ps_ret (pe_tup (pa_cons pe_str (pa_cons (act W pn xe Ech _ _ tk hW) pa_nil))))
    exact ⟨h1, h2, h3⟩
  · refine ⟨fun cls d H' => cls = .ref E.UP ∧ ∃ (dd : Addr) (p : Str), d = some dd ∧ H' dd = some (.xd [("person", .str p)]) ∧ ∀ t H'', Same H' H'' → H'' t = some (.tup [.str "person", .str p]) → Q (.ref t) H'', ?_, rfl, hc, h⟩
    rintro cls d σ' H' ⟨rfl, dd, p, rfl, hd, hq⟩
    refine ⟨E.exm, fun hl a na => ?_⟩
    obtain ⟨x, y, z, rfl⟩ : ∃ x y z, σ' = [x, y, z] := by
      match σ', hl with
      | [x, y, z], _ => exact ⟨x, y, z, rfl⟩
    refine ⟨_, rfl, fun n1 => ?_⟩
    refine ⟨_, rfl, ?_⟩
    have na' : dd ≠ a := fun z => by rw [z, na] at hd; cases hd
    refine ⟨a, p, rfl, ⟨dd, upd_same, by rw [upd_ne na']; exact hd⟩, fun t H'' s2 ht => hq t H'' ((same_upd na).trans s2) ht⟩
end
end K50

namespace Cb
open PySem PySem.Spec PyProof.Rows L2 PySem.W
section
variable {P : Program} {w : World} {K : Frag} {mg : Str → Option Value} {base : Heap}
/-- def f(a, .., *v) by its body, its exceptions told -/
theorem fun_starX {x qual : Str} {st : Stmt} {f : Addr} {fd : FuncData} {N ps : List Str} {pv : Str} {k : Nat} {sp : Sp} (F : Fun K x qual st f fd) (S : FnScope N (ps ++ [pv]) (defScope st))
    (hb : ∀ (kV doc pm : Value) (an : Option Addr) (cdv ct : Value) (us rest : List Value), us.length = ps.length → bindArgs (PySem.W.fnOf x qual (defArgs st) (defBody st) (defScope st) .none kV doc pm an cdv ct) ⟨us ++ rest, []⟩ = (newTuple rest >>= fun t => pure (ps.zip us ++ [(pv, t)])))
    (hbody : ∀ (cdv : Value) (A : Around) (outer : List Env) (s : Shared) (H : Hp) (vs : List V) (Q : VK) (E : XK), Room k (A.deeper (envOfC qual (defScope st) s.heap.objs.size f cdv)) → sp vs H Q E →
      ∃ t, PSs (cxOf (L2.CX P w) P w K mg base N qual (defScope st) f cdv A outer s H E) (defBody st) t ∧ t { nx := fun _ H' => Q .non H', rt := Q } (start N vs) H) :
    FnR P w K mg base (L2.CX P w) (k + 1) f (fun vs H Q E => ∃ ws rest, vs = ws ++ rest ∧ ws.length = ps.length ∧ rest.length ≤ sizeLine ∧ ∀ p, H p = Option.none → sp (ws ++ [V.ref p]) (upd H p (.tup rest)) Q E) := by
  obtain ⟨oc, od, kV, doc, pm, an, cdv, ct, osl, rfl, lk, hcd⟩ := F.ex
  exact StX.fn_star lk hcd S StX.cxUp (hb kV doc pm an cdv ct) fun A outer s H vs Q E hr hsp => hbody cdv A outer s H vs Q E hr hsp
theorem passF {X : Cx} : Passes (L2.CX X.prog X.w) X (fun _ _ _ => False) := fun _ _ _ _ _ _ _ c => by
  obtain ⟨_, _, _, _, _, _, _, _, _, _, _, _, z⟩ := c
  exact z.elim
/-- a def with a star that may raise -/
structure OwnX (P : Program) (w : World) (K : Frag) (mg : Str → Option Value) (base : Heap) (k : Nat) (x : Str) (sp : Sp) where
  f : Addr
  G : FnR P w K mg base (L2.CX P w) k f sp
  m : mg x = some (.ref f)
  kp : keepIn K (.ref f) = true
end
end Cb
namespace K50
open PySem PySem.Spec PyProof.Rows L2 PySem.W Cb Evl LamX
theorem isIn_of {n : Str} {ns : List Str} (h : n ∈ ns) : Cb.isIn n ns = true := by
  unfold Cb.isIn
  rw [List.any_eq_true]
  exact ⟨n, h, by simp⟩
theorem isIn_no {n : Str} {ns : List Str} (h : n ∉ ns) : Cb.isIn n ns = false := by
  cases e : Cb.isIn n ns with
  | false => rfl
  | true =>
    unfold Cb.isIn at e
    rw [List.any_eq_true] at e
    obtain ⟨m, hm, z⟩ := e
    have : m = n := by simpa using z
    exact absurd (this ▸ hm) h
section
variable {P : Program} {w : World} {K : Frag} {mg : Str → Option Value} {base : Heap}
/-! ### UnknownPerson -/
abbrev s_uinit : Stmt := inClass (top 6) 0
abbrev N_uinit : List Str := ["self", "person"]
theorem sc_uinit : FnScope N_uinit ["self", "person"] (defScope s_uinit) := ⟨rfl, rfl, rfl, by decide +kernel, rfl, by decide +kernel, by decide +kernel⟩
def sp_uinit (K : Frag) (UP : Addr) : Sp := fun vs H Q _ => ∃ (a : Addr) (p : V), vs = [.ref a, p] ∧ H a = some (exo a UP none) ∧ ∀ dx, H dx = none → dx ≠ a → Q .non (upd (upd H dx (exd dx [("person", p)])) a (exo a UP (some dx)))
theorem ok_uinit {f : Addr} {fd : FuncData} {k : Nat} {UP : Addr} (F : Fun K "__init__" "UnknownPerson.__init__" s_uinit f fd) (T : OexC K UP) (np : PySem.W.findIn K (.ref UP) "person" = some none) : FnOk P w K mg base CX0 (k + 1) f fd ["self", "person"] (sp_uinit K UP) := by
  refine F.ok sc_uinit (fun vs H Q E h => ?_) (fun cdv A outer s H vs Q _ hr h => ?_)
  · obtain ⟨_, _, rfl, _⟩ := h
    rfl
  · obtain ⟨a, p, rfl, ha, q⟩ := h
    refine ⟨_, (pss_one (ps_ost (pv 0) (pv 1))), ?_⟩
    exact ⟨_, rfl, _, rfl, a, UP, rfl, T, np, .inl ⟨ha, fun dx n1 n2 => q dx n1 n2⟩⟩
/-- what the written part says of UnknownPerson being made -/
structure MkU (P : Program) (w : World) (K : Frag) (mg : Str → Option Value) (base : Heap) (UP : Addr) where
  T : OexC K UP
  np : PySem.W.findIn K (.ref UP) "person" = some none
  fI : Addr
  fd : FuncData
  iC : PySem.W.findIn K (.ref UP) "__init__" = some (some (.ref fI))
  tI : PySem.W.typeIn K (.ref fI) = some (.type "function")
  F1 : FnOk P w K mg base CX0 1 fI fd ["self", "person"] (sp_uinit K UP)
  b : Binds K fd ["self", "person"] []
  m : mg "UnknownPerson" = some (.ref UP)
/-! ### the names are known, or the first that is not is told -/
abbrev s_check : Stmt := top 16
abbrev N_check : List Str := ["crews", "groups", "known", "group", "person"]
theorem sc_check : FnScope N_check ((["crews"] : List Str) ++ (["groups"] : List Str)) (defScope s_check) := ⟨rfl, rfl, rfl, by decide +kernel, rfl, by decide +kernel, by decide +kernel⟩
/-- n is the first of ns that is not in the crews -/
def Bad (ts : List (List Str)) (ns : List Str) (n : Str) : Prop := ∃ pre post, ns = pre ++ n :: post ∧ (∀ m ∈ pre, m ∈ ts.flatten) ∧ n ∉ ts.flatten
/-- the way out -/
def Out (UP : Addr) (H : Hp) (E : XK) (n : Str) : Prop := ∀ d H', Same H H' → H' d = some (.xd [("person", .str n)]) → E (.ref UP) (some d) H'
def spB_check (K : Frag) (UP : Addr) : Sp := fun vs H Q E => ∃ (x : V) (g : Addr) (ts gs : List (List Str)), vs = [x, .ref g] ∧ S2 K H (.ref g) gs ∧ S2 K H x ts ∧ Gt ts ∧ (∀ n, Bad ts gs.flatten n → Out UP H E n) ∧ ((∀ n ∈ gs.flatten, n ∈ ts.flatten) → ∀ H', Same H H' → Q .non H')
theorem bad_of {ts gs : List (List Str)} {i : Nat} {t : List Str} {j : Nat} {n : Str} (hi : gs[i]? = some t) (hj : t[j]? = some n) (h1 : ∀ m ∈ (gs.take i).flatten, m ∈ ts.flatten) (h2 : ∀ m ∈ t.take j, m ∈ ts.flatten) (hn : n ∉ ts.flatten) : Bad ts gs.flatten n := by
  refine ⟨(gs.take i).flatten ++ t.take j, t.drop (j + 1) ++ (gs.drop (i + 1)).flatten, ?_, fun m hm => ?_, hn⟩
  · have e1 : gs = gs.take i ++ t :: gs.drop (i + 1) := by
      obtain ⟨hlt, e⟩ := List.getElem?_eq_some_iff.mp hi
      rw [← e, ← List.drop_eq_getElem_cons hlt, List.take_append_drop]
    have e2 : t = t.take j ++ n :: t.drop (j + 1) := by
      obtain ⟨hlt, e⟩ := List.getElem?_eq_some_iff.mp hj
      rw [← e, ← List.drop_eq_getElem_cons hlt, List.take_append_drop]
    have e3 : gs.flatten = (gs.take i).flatten ++ (t ++ (gs.drop (i + 1)).flatten) := by
      conv => lhs; rw [e1]
      rw [List.flatten_append, List.flatten_cons]
    rw [e3]
    conv => lhs; rw [e2]
    simp
  · rcases List.mem_append.mp hm with z | z
    · exact h1 m z
    · exact h2 m z
theorem body_check {f : Addr} {k : Nat} {UP : Addr} (B : Blt mg) (U : MkU P w K mg base UP) (D_people_of : Own P w K mg base 1 "people_of" ["crews"] (sp_people K)) (cdv : Value) (A : Around) (outer : List Env) (s : Shared) (H : Hp) (vs : List V) (Q : VK) (E : XK) (hr : Room (k + 2) (A.deeper (envOfC "check_people" (defScope s_check) s.heap.objs.size f cdv))) (h : spB_check K UP vs H Q E) :
      ∃ t, PSs (cxOf (L2.CX P w) P w K mg base N_check "check_people" (defScope s_check) f cdv A outer s H E) (defBody s_check) t ∧ t { nx := fun _ H' => Q .non H', rt := Q } (L2.start N_check vs) H := by
  obtain ⟨x, g, ts, gs, rfl, ⟨_, us, eg, hg, hp⟩, hx, gt, out, q⟩ := h
  cases eg
  have hr1 : Room 1 _ := hr.mono (by omega)
  have hr2 : Room 2 _ := hr.mono (by omega)
  refine ⟨_, (pss_cons (ps_set (i := 2) sc_check.nd rfl (Or.inl rfl) (pe_call D_people_of.G hr1 rfl D_people_of.m D_people_of.kp D_people_of.b .nil pass0 (pa_cons (pv 0) pa_nil)))
      (pss_one (ps_for (passes_of rfl) rfl (p_tup K (pv 1)) (pg_name (i := 3) sc_check.nd rfl (Or.inl rfl))
      (pss_one (ps_for (passes_of rfl) rfl (p_tup K (pv 3)) (pg_name (i := 4) sc_check.nd rfl (Or.inl rfl))
      (pss_one (ps_if (pt_cmpR (o_nin K) (pv 4) (pv 2) rfl) (pss_one (ps_raise (W := fun cls d _ H => E cls d H) rfl (takes_of rfl rfl rfl rfl) (pmk_oex (dvs := []) U.T U.iC U.tI U.F1 hr2 U.b .nil pass0 rfl U.m (pa_cons (pv 4) pa_nil)))) pss_nil))))))), ?_⟩
  refine sq_set ⟨_, rfl, x, ts, rfl, hx, gt, fun v H1 e1 hv => ?_⟩
  obtain ⟨va, rfl, hv⟩ := hv
  refine ⟨_, rfl, g, rfl, ⟨_, sameT e1 hg⟩, for_tup (xs := us) (fun i σ' H' => (∀ m ∈ (gs.take i).flatten, m ∈ ts.flatten) ∧ H' = H1 ∧ ∃ v3 v4, σ' = [some x, some (.ref g), some (.ref va), v3, v4]) ⟨fun m hm => absurd hm (by simp), rfl, none, none, rfl⟩ (fun i σ' H' _ z => ?_) (fun i u σ' H' hi z => ?_) fun σ' H' z => ?_⟩
  · obtain ⟨_, rfl, _⟩ := z
    exact sameT e1 hg
  · obtain ⟨hk, eH, v3, v4, rfl⟩ := z
    rw [eH]
    obtain ⟨t, ht, a, rfl, ha⟩ := prd_getL hp hi
    refine ⟨_, rfl, a, rfl, ⟨_, sameT e1 ha⟩, for_tup (xs := t.map V.str) (fun j σ' H' => (∀ m ∈ t.take j, m ∈ ts.flatten) ∧ H' = H1 ∧ ∃ v4, σ' = [some x, some (.ref g), some (.ref va), some (.ref a), v4]) ⟨fun m hm => absurd hm (by simp), rfl, v4, rfl⟩ (fun j σ' H' _ z => ?_) (fun j u σ' H' hj z => ?_) fun σ' H' z => ?_⟩
    · obtain ⟨_, rfl, _⟩ := z
      exact sameT e1 ha
    · obtain ⟨hk2, eH2, v4, rfl⟩ := z
      rw [eH2]
      rw [List.getElem?_map] at hj
      obtain ⟨n, hn, rfl⟩ := Option.map_eq_some_iff.mp hj
      refine ⟨_, rfl, _, rfl, va, _, rfl, .inr hv, rfl, flat_strs _, _, rfl, ?_⟩
      rw [inV_strs]
      by_cases hin : n ∈ ts.flatten
      · rw [isIn_of (ns := folk ts) (once_mem.mpr hin)]
        refine ite2 (fun h => absurd h (by decide)) fun _ => ⟨fun m hm => ?_, rfl, _, rfl⟩
        rw [List.take_succ, hn] at hm
        rcases List.mem_append.mp hm with z | z
        · exact hk2 m z
        · have e : m = n := by simpa using z
          rw [e]
          exact hin
      · rw [isIn_no (ns := folk ts) fun z => hin (once_mem.mp z)]
        refine ite2 (fun _ => ?_) fun h => absurd rfl h
        refine ⟨_, rfl, by show 1 ≤ 1000; omega, fun b nb => ⟨b, .str n, rfl, upd_same, fun dx n1 n2 => ⟨rfl, dx, [("person", .str n)], upd_same, by rw [upd_ne n2]; exact upd_same, ?_, ?_⟩⟩⟩
        · rw [upd_ne n2] at n1
          exact n1
        · have n1' : H1 dx = none := by rw [upd_ne n2] at n1; exact n1
          refine out n (bad_of ht hn hk hk2 hin) dx _ (fun c o e => ?_) upd_same
          have ec := e1 _ _ e
          have c1 : c ≠ dx := ne_of_none ec n1'
          have c2 : c ≠ b := ne_of_none ec nb
          rw [upd_ne c1, del_ne c2, upd_ne c2, upd_ne c1, upd_ne c2]
          exact ec
    · obtain ⟨hk2, eH2, v4, rfl⟩ := z
      rw [eH2]
      rw [List.length_map, List.take_length] at hk2
      refine ⟨fun m hm => ?_, rfl, _, v4, rfl⟩
      rw [List.take_succ, ht] at hm
      rw [Option.toList_some, List.flatten_append] at hm
      rcases List.mem_append.mp hm with z | z
      · exact hk m z
      · exact hk2 m (by simpa using z)
  · obtain ⟨hk, rfl, v3, v4, rfl⟩ := z
    rw [prd_len hp, List.take_length] at hk
    exact q hk _ e1
def sp_check (K : Frag) (UP : Addr) : Sp := fun vs H Q E => ∃ (x : V) (ws : List V) (ts gs : List (List Str)), vs = x :: ws ∧ ws.length ≤ 8 ∧ Paired (S1 K H) ws gs ∧ S2 K H x ts ∧ Gt ts ∧ (∀ n, Bad ts gs.flatten n → Out UP H E n) ∧ ((∀ n ∈ gs.flatten, n ∈ ts.flatten) → ∀ H', Same H H' → Q .non H')
theorem ok_check {f : Addr} {fd : FuncData} {k : Nat} {UP : Addr} (F : Fun K "check_people" "check_people" s_check f fd) (B : Blt mg) (U : MkU P w K mg base UP) (D_people_of : Own P w K mg base 1 "people_of" ["crews"] (sp_people K)) : FnR P w K mg base (L2.CX P w) (k + 3) f (sp_check K UP) := by
  have M := fun_starX (k := k + 2) (P := P) (w := w) (mg := mg) (base := base) (ps := ["crews"]) (pv := "groups") (sp := spB_check K UP) F sc_check (fun kV doc pm an cdv ct => StX.bind_star1 (B := fun us => bindArgs (PySem.W.fnOf "check_people" "check_people" (defArgs s_check) (defBody s_check) (defScope s_check) .none kV doc pm an cdv ct) ⟨us, []⟩) (fun _ => rfl) (fun _ _ _ => rfl)) (body_check (k := k) B U D_people_of)
  exact fun A outer s H us vs Q E hr e0 r ⟨x, ws, ts, gs, e, l8, hw, hx, gt, out, q⟩ => M A outer s H us vs Q E hr e0 r ⟨[x], ws, e, rfl, Nat.le_of_lt (big (by omega)), fun p np => ⟨x, p, ts, gs, rfl, ⟨p, ws, rfl, st_ upd_same, prd_mono (fun _ _ z => z.same (same_upd np)) hw⟩, hx.same (same_upd np), gt, fun n hn d H' e' hd => out n hn d H' ((same_upd np).trans e') hd, fun hin H' e' => q hin H' ((same_upd np).trans e')⟩⟩
end
end K50

namespace Cb
open PySem PySem.Spec PyProof.Rows L2 PySem.W
section
variable {K : Frag} {tl : TE} {j : Nat} {vs : List Nat} {σ : Stt} {H : Hp} {tt : TT} {Q : VK} {β : Type} {F : Hp → V → β → Prop} {us : List V} {bs : List β} {a : Addr}
/-- [x for x in t if ..], t a list, the items told by what they stand for -/
theorem lcL_pair (mono : ∀ H1 H2 v b, Same H1 H2 → F H1 v b → F H2 v b) (p : β → Bool) (hl : ∀ R : VK, R (.ref a) H → tl σ H R) (hs : SqL K H a us) (hp : Paired (F H) us bs) (hn : bs.length ≤ 100000)
    (hj : ∀ x, wipe ((wipe σ vs).set j (some x)) vs = wipe σ vs) (hv : ∀ x, ((wipe σ vs).set j (some x))[j]? = some (some x))
    (ht : ∀ x b, b ∈ bs → ∀ H1, Same H H1 → F H1 x b → ∀ R : Bool → Hp → Prop, (∀ H2, Same H1 H2 → R (p b) H2) → tt ((wipe σ vs).set j (some x)) H1 R)
    (q : ∀ L ws H', H L = none → Same H H' → H' L = some (.lst ws) → Paired (F H') ws (bs.filter p) → Q (.ref L) H') : tLc (iList K tl) (gName j) tt (tVar j) vs σ H Q := by
  refine hl _ ⟨a, rfl, ⟨us, hs⟩, fun L nL => ?_⟩
  have hlen := prd_len hp
  refine lc_list (K := K) (a := a) (xs := us) (fun i H' => Same H H' ∧ ∃ ws, H' L = some (.lst ws) ∧ Paired (F H) ws ((bs.take i).filter p)) ⟨same_upd nL, [], upd_same, .nil⟩ (fun i H' _ z => z.1.seq hs) (fun i x H' hi z => ⟨hj x, ?_⟩) fun H' z => ?_
  · obtain ⟨e2, ws, hw, hpw⟩ := z
    obtain ⟨b, hb, hf⟩ := prd_getL hp hi
    have hwl := prd_len hpw
    have hfl := List.length_filter_le p (bs.take i)
    have hbl := (List.getElem?_eq_some_iff.mp hb).1
    rw [List.length_take] at hfl
    refine ht x b (List.mem_of_getElem? hb) H' e2 (mono _ _ _ _ e2 hf) _ fun H2 e3 => ?_
    rw [take_snoc hb, List.filter_append]
    by_cases h : p b = true
    · rw [if_pos h]
      refine ⟨x, hv x, ws, e3 _ _ hw, big (by omega), same_mut (e2.trans e3) nL, ws ++ [x], upd_same, ?_⟩
      rw [List.filter_cons_of_pos h]
      exact prd_app hpw (.cons hf .nil)
    · rw [if_neg h]
      refine ⟨e2.trans e3, ws, e3 _ _ hw, ?_⟩
      rw [List.filter_cons_of_neg h]
      simpa using hpw
  · obtain ⟨e2, ws, hw, hpw⟩ := z
    rw [hlen, List.take_length] at hpw
    exact q L ws H' nL e2 hw (prd_mono (fun _ _ z => mono _ _ _ _ e2 z) hpw)
end
section
variable {X : Cx}
/-- either way to go through -/
theorem p_either {tg e : Expr} {w1 w2 : TI} (h1 : PI X tg e w1) (h2 : PI X tg e w2) : PI X tg e (fun σ H R => w1 σ H R ∨ w2 σ H R) := ⟨fun pins s σ H R I h => h.elim (h1.run pins s σ H R I) (h2.run pins s σ H R I)⟩
end
/-- a list of sets of people -/
def S2L (K : Frag) (H : Hp) (v : V) (ts : List (List Str)) : Prop := ∃ a xs, v = .ref a ∧ SqL K H a xs ∧ Paired (S1 K H) xs ts
theorem S2L.same {K : Frag} {H H' : Hp} {v : V} {ts : List (List Str)} (h : S2L K H v ts) (e : Same H H') : S2L K H' v ts := by
  obtain ⟨a, xs, rfl, hs, hp⟩ := h
  exact ⟨a, xs, rfl, e.seq hs, prd_mono (fun _ _ z => z.same e) hp⟩
/-- a tuple or a list of them -/
def SE (K : Frag) (H : Hp) (v : V) (ts : List (List Str)) : Prop := S2L K H v ts ∨ S2 K H v ts
theorem SE.same {K : Frag} {H H' : Hp} {v : V} {ts : List (List Str)} (h : SE K H v ts) (e : Same H H') : SE K H' v ts := h.elim (fun z => .inl (z.same e)) fun z => .inr (z.same e)
section
variable {K : Frag} {tl : TE} {j : Nat} {vs : List Nat} {σ : Stt} {H : Hp} {tt : TT} {Q : VK} {L : List (List Str)} {rem : V}
theorem lcE_pair (p : List Str → Bool) (hE : SE K H rem L) (hl : ∀ R : VK, R rem H → tl σ H R) (hn : L.length ≤ 100000)
    (hj : ∀ x, wipe ((wipe σ vs).set j (some x)) vs = wipe σ vs) (hv : ∀ x, ((wipe σ vs).set j (some x))[j]? = some (some x))
    (ht : ∀ x b, b ∈ L → ∀ H1, Same H H1 → S1 K H1 x b → ∀ R : Bool → Hp → Prop, (∀ H2, Same H1 H2 → R (p b) H2) → tt ((wipe σ vs).set j (some x)) H1 R)
    (q : ∀ D ws H', H D = none → Same H H' → H' D = some (.lst ws) → Paired (S1 K H') ws (L.filter p) → Q (.ref D) H') : tLc (fun σ H R => iList K tl σ H R ∨ iTup K tl σ H R) (gName j) tt (tVar j) vs σ H Q := by
  rcases hE with ⟨a, xs, rfl, hs, hp⟩ | ⟨a, xs, rfl, hs, hp⟩
  · exact Or.inl (lcL_pair (F := S1 K) (fun _ _ _ _ e z => z.same e) p hl hs hp hn hj hv ht q)
  · exact Or.inr (lcT_pair (F := S1 K) (fun _ _ _ _ e z => z.same e) p hl hs hp hn hj hv ht q)
theorem nx_set {i : Nat} {te : TE} {rest : TS} {D : Ends} {rt : VK} {bk ct : Stt → Hp → Prop} {σ : Stt} {H : Hp} (h : te σ H fun x H1 => rest D (σ.set i (some x)) H1) : (Ends.mk (tSeq (tAsg te (gName i)) rest D) rt bk ct).nx σ H := h
end
end Cb
namespace K50
open PySem PySem.Spec PyProof.Rows L2 PySem.W Cb Evl LamX
/-- those that have n, if there are any -/
def stepF (L : List (List Str)) (n : Str) : List (List Str) := if (L.filter fun t => Cb.isIn n t).isEmpty then L else L.filter fun t => Cb.isIn n t
def pick (os : List Str) (L : List (List Str)) : List (List Str) := os.foldl stepF L
theorem stepF_mem {L : List (List Str)} {n : Str} {t : List Str} (h : t ∈ stepF L n) : t ∈ L := by
  unfold stepF at h
  split at h
  · exact h
  · exact (List.mem_filter.mp h).1
theorem pick_mem {os : List Str} : ∀ {L : List (List Str)} {t : List Str}, t ∈ pick os L → t ∈ L := by
  induction os with
  | nil => exact fun h => h
  | cons n os ih => exact fun h => stepF_mem (ih h)
theorem stepF_le {L : List (List Str)} {n : Str} : (stepF L n).length ≤ L.length := by
  unfold stepF
  split
  · exact Nat.le_refl _
  · exact List.length_filter_le _ _
theorem pick_le {os : List Str} : ∀ {L : List (List Str)}, (pick os L).length ≤ L.length := by
  induction os with
  | nil => exact fun {L} => Nat.le_refl _
  | cons n os ih => exact fun {L} => Nat.le_trans ih stepF_le
theorem pick_snoc (os : List Str) (n : Str) (L : List (List Str)) : pick (os ++ [n]) L = stepF (pick os L) n := by
  unfold pick
  rw [List.foldl_append]
  rfl
/-- the first of them, or None -/
def FstV (K : Frag) (H : Hp) (v : V) (L : List (List Str)) : Prop := match L with
  | [] => v = .non
  | t :: _ => S1 K H v t
section
variable {P : Program} {w : World} {K : Frag} {mg : Str → Option Value} {base : Heap}
theorem at0 {v : V} {l : List V} : atI (v :: l) 0 = some v := by
  simp [atI, ixN]
theorem tru_SE {H : Hp} {v : V} {L : List (List Str)} (h : SE K H v L) : TruV K v H (!L.isEmpty) := by
  rcases h with ⟨a, xs, rfl, hs, hp⟩ | ⟨a, xs, rfl, hs, hp⟩
  · exact .inl ⟨xs, hs, by cases hp <;> rfl⟩
  · exact .inr (.inl ⟨xs, hs, by cases hp <;> rfl⟩)
theorem ix_SE {H : Hp} {v : V} {t : List Str} {L : List (List Str)} {Q : VK} (h : SE K H v (t :: L)) (q : ∀ u, S1 K H u t → Q u H) : rIxL K v (.int 0) H Q ∨ rIxT K v (.int 0) H Q := by
  rcases h with ⟨a, xs, rfl, hs, hp⟩ | ⟨a, xs, rfl, hs, hp⟩
  · cases hp with
    | cons hu _ => exact .inl ⟨a, _, 0, _, rfl, rfl, hs, at0, q _ hu⟩
  · cases hp with
    | cons hu _ => exact .inr ⟨a, _, 0, _, rfl, rfl, hs, at0, q _ hu⟩
/-! ### the first crew -/
abbrev s_first : Stmt := top 18
abbrev N_first : List Str := ["crews", "present", "order", "remaining", "person", "having", "crew"]
theorem sc_first : FnScope N_first ((["crews", "present"] : List Str) ++ (["order"] : List Str)) (defScope s_first) := ⟨rfl, rfl, rfl, by decide +kernel, rfl, by decide +kernel, by decide +kernel⟩
def spB_first (K : Frag) (UP : Addr) : Sp := fun vs H Q E => ∃ (x y : V) (p : Addr) (ts : List (List Str)) (ps os : List Str), vs = [x, y, .ref p] ∧ H p = some (.tup (os.map V.str)) ∧ S2 K H x ts ∧ Gt ts ∧ S1 K H y ps ∧ (∀ n, Bad ts (ps ++ os) n → Out UP H E n) ∧
  ((∀ n ∈ ps ++ os, n ∈ ts.flatten) → ∀ v H', Same H H' → FstV K H' v (pick os (left ts ps)) → Q v H')
theorem body_first {f : Addr} {k : Nat} {UP : Addr} (D_check : OwnX P w K mg base 3 "check_people" (sp_check K UP)) (D_crews_within : Own P w K mg base 2 "crews_within" ["crews", "people"] (sp_cwithin K)) (cdv : Value) (A : Around) (outer : List Env) (s : Shared) (H : Hp) (vs : List V) (Q : VK) (E : XK) (hr : Room (k + 3) (A.deeper (envOfC "first_crew" (defScope s_first) s.heap.objs.size f cdv))) (h : spB_first K UP vs H Q E) :
      ∃ t, PSs (cxOf (L2.CX P w) P w K mg base N_first "first_crew" (defScope s_first) f cdv A outer s H E) (defBody s_first) t ∧ t { nx := fun _ H' => Q .non H', rt := Q } (L2.start N_first vs) H := by
  obtain ⟨x, y, p, ts, ps, os, rfl, hp, hx, gt, hy, out, q⟩ := h
  have hr2 : Room 2 _ := hr.mono (by omega)
  have hr3 : Room 3 _ := hr.mono (by omega)
  refine ⟨_, (pss_cons (ps_expr (pe_callP (E := E) D_check.G hr3 rfl D_check.m D_check.kp (passes_call (takes_of rfl rfl rfl rfl) (fun _ _ _ _ h => h)) (pa_cons (pv 0) (pa_cons (pv 1) (pa_cons (pv 2) pa_nil)))))
      (pss_cons (ps_set (i := 3) sc_first.nd rfl (Or.inl rfl) (pe_call D_crews_within.G hr2 rfl D_crews_within.m D_crews_within.kp D_crews_within.b .nil pass0 (pa_cons (pv 0) (pa_cons (pv 1) pa_nil))))
      (pss_cons (ps_for (passes_of rfl) rfl (p_tup K (pv 2)) (pg_name (i := 4) sc_first.nd rfl (Or.inr rfl))
      (pss_cons (ps_setLc (i := 5) (own := [("crew", 6)]) (g := gName 6) rfl sc_first.nd rfl rfl (sw_true rfl rfl rfl (by decide +kernel)) (p_either (p_list K (pv 3)) (p_tup K (pv 3))) (blkOk_by (own := [("crew", 6)]) (N := N_first) (sc := defScope s_first) (by decide +kernel)) (fun _ _ _ _ _ => (pg_name (i := 6) sc_first.nd rfl (Or.inl rfl))) (fun _ _ _ _ _ => (pts_one (pt_cmpR (o_in K) (pv 4) (pv 6) rfl))) (fun _ _ _ _ _ => (pv 6)))
      (pss_one (ps_if (pt_truth (pv 5) (by intro _; rfl)) (pss_one (ps_set (i := 3) sc_first.nd rfl (Or.inl rfl) (pv 5))) pss_nil))))
      (pss_one (ps_ret (pe_ifExp (pt_truth (pv 3) (by intro _; rfl)) (pe_ix ((i_list K).or (i_tup K)) (pv 3) pe_int (fun _ _ => rfl)) pe_non)))))), ?_⟩
  have hl : S1 K H (.ref p) os := ⟨p, rfl, st_ hp⟩
  have ef : [ps, os].flatten = ps ++ os := by simp
  refine ⟨_, rfl, _, rfl, _, rfl, x, [y, .ref p], ts, [ps, os], rfl, by show 2 ≤ 8; omega, .cons hy (.cons hl .nil), hx, gt, fun n hb => ?_, fun hin H1 e1 => ?_⟩
  · rw [ef] at hb
    exact out n hb
  · rw [ef] at hin
    have q := q hin
    refine Cb.nx_set ⟨_, rfl, _, rfl, x, y, ts, ps, rfl, hx.same e1, hy.same e1, gt, fun v3 H2 e2 h3 => ?_⟩
    have e12 := e1.trans e2
    have hl6 : (left ts ps).length ≤ 64 := Nat.le_trans (List.length_filter_le _ _) gt.many
    refine ⟨_, rfl, p, rfl, ⟨_, st_ (e12 _ _ hp)⟩, for_tup (xs := os.map V.str) (fun i σ' H' => Same H H' ∧ ∃ rem v4 v5, SE K H' rem (pick (os.take i) (left ts ps)) ∧ σ' = [some x, some y, some (.ref p), some rem, v4, v5, none]) ⟨e12, v3, none, none, .inr h3, rfl⟩ (fun i σ' H' _ z => st_ (z.1 _ _ hp)) (fun i u σ' H' hi z => ?_) fun σ' H' z => ?_⟩
    · obtain ⟨e3, rem, v4, v5, hrem, rfl⟩ := z
      rw [List.getElem?_map] at hi
      obtain ⟨n, hn, rfl⟩ := Option.map_eq_some_iff.mp hi
      have hle : (pick (os.take i) (left ts ps)).length ≤ 64 := Nat.le_trans pick_le hl6
      refine sq_set (σ := [some x, some y, some (.ref p), some rem, some (.str n), v5, none]) ?_
      refine lcE_pair (fun t => Cb.isIn n t) hrem (fun R hR => ⟨_, rfl, hR⟩) (by omega) (fun _ => rfl) (fun _ => rfl) (fun v t ht H4 e4 hv R hR => ?_) fun D ws H4 nD e4 hD hw => ?_
      · obtain ⟨a, rfl, ha⟩ := hv
        refine ⟨_, rfl, _, rfl, a, _, rfl, .inr ha, rfl, flat_strs _, _, rfl, ?_⟩
        rw [inV_strs]
        exact hR H4 (Same.refl _)
      · have hs : pick (os.take (i + 1)) (left ts ps) = stepF (pick (os.take i) (left ts ps)) n := by
          rw [take_snoc hn, pick_snoc]
        have ee : ws.isEmpty = ((pick (os.take i) (left ts ps)).filter fun t => Cb.isIn n t).isEmpty := by
          generalize (pick (os.take i) (left ts ps)).filter (fun t => Cb.isIn n t) = M at hw
          cases hw <;> rfl
        refine ⟨_, rfl, !ws.isEmpty, .inl ⟨ws, sl_ hD, rfl⟩, ite2 (fun hne => ?_) fun hem => ?_⟩
        · refine ⟨_, rfl, e3.trans e4, .ref D, _, _, .inl ⟨D, ws, rfl, sl_ hD, ?_⟩, rfl⟩
          rw [hs]
          unfold stepF
          rw [if_neg (by rw [← ee]; simpa using hne)]
          exact hw
        · refine ⟨e3.trans e4, rem, _, _, ?_, rfl⟩
          rw [hs]
          unfold stepF
          rw [if_pos (by rw [← ee]; simpa using hem)]
          exact hrem.same e4
    · obtain ⟨e3, rem, v4, v5, hrem, rfl⟩ := z
      rw [List.length_map, List.take_length] at hrem
      cases hL : pick os (left ts ps) with
      | nil =>
        rw [hL] at hrem
        exact ⟨_, rfl, _, tru_SE hrem, ite2 (fun z => absurd z (by simp)) fun _ => q _ H' e3 (by rw [hL]; rfl)⟩
      | cons t M =>
        rw [hL] at hrem
        exact ⟨_, rfl, _, tru_SE hrem, ite2 (fun _ => ⟨_, rfl, ix_SE hrem fun u hu => q _ H' e3 (by rw [hL]; exact hu)⟩) fun z => absurd rfl z⟩
end
end K50

namespace Cb
open PySem PySem.Spec PyProof.Rows L2 PySem.W
/-! ### min of a list of sets of people that ascend -/
theorem dataLe_lt {a b : List Str} (h : dataLe false sD a b = true) : dataLt (sD b) (sD a) = false := by
  rw [dataLe_eq] at h
  simpa using h
theorem minD_first {x : PyData} : ∀ {ys : List PyData}, (∀ y ∈ ys, dataLt y x = false) → minD x ys = x
  | [], _ => rfl
  | y :: ys, h => by
    unfold minD
    rw [List.foldl_cons, h y List.mem_cons_self, if_neg Bool.false_ne_true]
    exact minD_first (x := x) fun z hz => h z (List.mem_cons_of_mem _ hz)
theorem sD_inj {a b : List Str} (h : sD a = sD b) : a = b := by
  have z : a.map PyData.str = b.map PyData.str := PyData.tuple.inj h
  have inj : ∀ {a b : List Str}, a.map PyData.str = b.map PyData.str → a = b := by
    intro a
    induction a with
    | nil =>
      intro b h
      cases b with
      | nil => rfl
      | cons _ _ => exact absurd h (by simp)
    | cons x r ih =>
      intro b h
      cases b with
      | nil => exact absurd h (by simp)
      | cons y t =>
        rw [List.map_cons, List.map_cons] at h
        obtain ⟨h1, h2⟩ := List.cons.inj h
        rw [PyData.str.inj h1, ih h2]
  exact inj z
def rMinT (K : Frag) : List V → Hp → VK → Prop := fun vs H Q => ∃ (a : Addr) (xs : List V) (t : List Str) (L : List (List Str)), vs = [.ref a] ∧ SqL K H a xs ∧ Paired (S1 K H) xs (t :: L) ∧ (t :: L).Pairwise (fun a b => dataLe false sD a b = true) ∧
  ∀ v, S1 K H v t → Q v H
theorem cr_minT {X : Cx} (hc : X.calm = true) (hu : X.A.units + 64 < cLine) : CallR X (.builtin "min") (rMinT X.K) := by
  intro pins s σ H vs us Q I r h
  obtain ⟨a, xs, t, L, rfl, hs, hp, ho, q⟩ := h
  rw [Vals.ref1 r]
  obtain ⟨zs, rfl, ez, hz⟩ := prd_fst hp
  obtain ⟨its, rv, hl, _⟩ := I.list hs
  have e0 := each_in (fun z : V × List Str => z.1) rv
  obtain ⟨as, ra⟩ := each_readsAll (h := s.heap) (fun z : V × List Str => sD z.2) (each_and e0 fun u z hm r => Dp.reads I (sD z.2) z.1 u (hz z hm).dp r)
  have em : zs.map (fun z : V × List Str => sD z.2) = sD t :: L.map sD := by
    rw [← List.map_cons (f := sD), ← ez, List.map_map]
    rfl
  rw [em] at ra
  have hmin : minD (sD t) (L.map sD) = sD t := minD_first fun y hy => by
    obtain ⟨u, hu, rfl⟩ := List.mem_map.mp hy
    exact dataLe_lt ((List.pairwise_cons.mp ho).1 u hu)
  refine min_list_data (I.ok.hd hc) hl.isList ra ?_ ?_ fun i v h' tk bs hv rd hk => ?_
  · have mem : ∀ {x : PyData}, x ∈ sD t :: L.map sD → ∃ u ∈ t :: L, x = sD u := fun {x} hx => by
      rw [← List.map_cons (f := sD)] at hx
      obtain ⟨u, hu, rfl⟩ := List.mem_map.mp hx
      exact ⟨u, hu, rfl⟩
    refine ⟨fun x hx y hy => ?_, fun x hx => ?_⟩
    · obtain ⟨u, _, rfl⟩ := mem hx
      obtain ⟨u', _, rfl⟩ := mem hy
      exact alike_strs _ _
    · obtain ⟨u, _, rfl⟩ := mem hx
      exact fun z => nomatch z
  · have := depth_teams (t :: L)
    rw [List.map_cons] at this
    omega
  · rw [hmin] at rd
    obtain ⟨x, hx, r⟩ := prd_get rv (show its[i]? = some v by simpa using hv)
    rw [List.getElem?_map] at hx
    obtain ⟨z, hzi, rfl⟩ := Option.map_eq_some_iff.mp hx
    have hzm := List.mem_of_getElem? hzi
    have J : Inv X pins σ H { s with heap := h', toks := tk } := I.kept hk
    obtain ⟨as', r1⟩ := Dp.reads J (sD z.2) z.1 v (hz z hzm).dp r
    have hm2 : z.2 ∈ t :: L := by
      rw [← ez]
      exact List.mem_map.mpr ⟨z, hzm, rfl⟩
    have e := sD_inj (Reads.unique r1 _ _ rd).1
    exact ⟨z.1, H, J, r, q _ (by rw [← e]; exact hz z hzm)⟩
theorem c_minT {X : Cx} {K : Frag} (hc : X.calm = true) (hu : X.A.units + 64 < cLine) (e : X.K = K := by rfl) : CallR X (.builtin "min") (rMinT K) := by subst e; exact cr_minT hc hu
end Cb

namespace Cb
open PySem PySem.Spec PyProof.Rows L2 PySem.W
/-! ### set(xs) of a list of texts -/
def adds (ns : List Str) : List Str := ns.foldl put1 []
theorem adds_snoc (ns : List Str) (n : Str) : adds (ns ++ [n]) = put1 (adds ns) n := by
  unfold adds
  rw [List.foldl_append]
  rfl
theorem adds_nd (ns : List Str) : (adds ns).Nodup := by
  have key : ∀ (ns l : List Str), l.Nodup → (ns.foldl put1 l).Nodup := by
    intro ns
    induction ns with
    | nil => exact fun l h => h
    | cons n ns ih => exact fun l h => ih _ (put1_nd h n)
  exact key ns [] .nil
theorem adds_mem {ns : List Str} {x : Str} : x ∈ adds ns ↔ x ∈ ns := by
  have key : ∀ (ns l : List Str), x ∈ ns.foldl put1 l ↔ x ∈ l ∨ x ∈ ns := by
    intro ns
    induction ns with
    | nil => intro l; simp
    | cons n ns ih =>
      intro l
      rw [List.foldl_cons, ih, put1_mem, List.mem_cons]
      constructor
      · rintro ((h | h) | h)
        · exact .inl h
        · exact .inr (.inl h)
        · exact .inr (.inr h)
      · rintro (h | h | h)
        · exact .inl (.inl h)
        · exact .inl (.inr h)
        · exact .inr h
  rw [adds, key]
  simp
theorem adds_le (ns : List Str) : (adds ns).length ≤ ns.length := by
  have key : ∀ (ns l : List Str), (ns.foldl put1 l).length ≤ l.length + ns.length := by
    intro ns
    induction ns with
    | nil => intro l; simp
    | cons n ns ih =>
      intro l
      have h1 := ih (put1 l n)
      have h2 := put1_len l n
      rw [List.foldl_cons, List.length_cons]
      omega
  have := key ns []
  simpa [adds] using this
def rSetL (K : Frag) (P : Program) (w : World) : List V → Hp → VK → Prop := fun vs H Q => ∃ (l : Addr) (ns : List Str), vs = [.ref l] ∧ SqL K H l (ns.map V.str) ∧ ns.length + 1 < scanBound ∧ ∀ a, H a = none → Q (.ref a) (upd H a (SetSO P w a (adds ns)))
theorem cr_setL {X : Cx} (hc : X.calm = true) : CallR X (.type "set") (rSetL X.K X.prog X.w) := by
  intro pins s σ H vs us Q I r h
  obtain ⟨l, ns, rfl, hl, few, q⟩ := h
  rw [Vals.ref1 r]
  obtain ⟨its, rv, pl, hz⟩ := I.list hl
  have hn : H s.heap.objs.size = none := I.hok.fresh (Nat.le_refl _)
  have small : ∀ {b : Addr} {o : Obj}, s.heap.get? b = some o → b ≠ s.heap.objs.size ∧ b ≠ s.heap.objs.size + 1 := fun {b o} e => ⟨Nat.ne_of_lt (Heap.lt_size e), Nat.ne_of_lt (Nat.lt_succ_of_lt (Heap.lt_size e))⟩
  have hlen : its.length = ns.length := by
    have := Paired.length rv
    rw [List.length_map] at this
    exact this.symm
  refine call_set_of (P := X.prog) (w := X.w) (items := its.toArray) (I.ok.hd hc) pl.isList
    (fun i h => (∀ b o, s.heap.get? b = some o → h.get? b = some o) ∧ SetS X.prog X.w h s.heap.objs.size (adds (ns.take i)))
    (fun h kp e => ⟨kp, ?_⟩) (fun i h h' z kp => ?_) (fun B i v st Q E bu hv z k => ?_) fun h' tk z kp => ?_
  · exact (setS_new X.prog X.w s.heap).at fun o ho => by
      rw [Heap.get?_push_size _ rfl] at ho
      cases ho
      exact e
  · exact ⟨fun b o e => kp b o (small e).2 (z.1 b o e), z.2.at fun o ho => kp _ o (Nat.ne_of_lt (Nat.lt_succ_self _)) ho⟩
  · obtain ⟨z1, D, T⟩ := z
    obtain ⟨x, hx, rx⟩ := prd_get rv (show its[i]? = some v by simpa using hv)
    rw [List.getElem?_map] at hx
    obtain ⟨n, hni, rfl⟩ := Option.map_eq_some_iff.mp hx
    obtain ⟨u, rfl⟩ := (show ∃ t, v = Value.str n t from rx)
    have il := (List.getElem?_eq_some_iff.mp hni).1
    have room : (adds (ns.take i)).length + 1 < scanBound := by
      have h1 := adds_le (ns.take i)
      rw [List.length_take] at h1
      omega
    unfold setAdd
    refine wpAny_holding (wpAny_bind ((strKind X.prog X.w).pyHash (Froz.is_str n u) ?_))
    refine addS_hashed (s := { st with toks := st.toks + 1 }) ⟨T.ob, T.ok, T.nd, T.few, T.up, T.led⟩ room fun h' b sb x => ?_
    refine k b h' _ (Nat.le_add_right _ _) sb ⟨fun c o e => (sb.2 c (small e).1).trans (z1 c o e), ?_⟩
    rw [take_snoc hni, adds_snoc]
    exact x
  · obtain ⟨_, S⟩ := z
    rw [show its.toArray.size = ns.length by simpa using hlen, List.take_length] at S
    have J : Inv X pins σ (upd H s.heap.objs.size (SetSO X.prog X.w s.heap.objs.size (adds ns))) { s with heap := h', toks := tk } := I.laid (t' := tk) kp (Nat.le_refl _) (setSO_ok S)
    exact ⟨.ref _, _, J, rfl, q _ hn⟩
theorem c_setL {X : Cx} (K : Frag) (P : Program) (w : World) (hc : X.calm = true) (eK : X.K = K := by rfl) (eP : X.prog = P := by rfl) (ew : X.w = w := by rfl) : CallR X (.type "set") (rSetL K P w) := by
  subst eK eP ew
  exact cr_setL hc
theorem c_srtSL {X : Cx} (P : Program) (w : World) (hc : X.calm = true) (hu : X.A.units + 64 < cLine) (eP : X.prog = P := by rfl) (ew : X.w = w := by rfl) : CallR X (.builtin "sorted") (rSrtS P w) := by
  subst eP ew
  exact cr_srtS hc hu
end Cb

namespace Cb
open PySem PySem.Spec PyProof.Rows L2 PySem.W
/-! ### xs.extend(t), t a tuple -/
def rExtT (K : Frag) : V → List V → Hp → VK → Prop := fun x vs H Q => ∃ l b xs zs, x = .ref l ∧ vs = [.ref b] ∧ H l = some (.lst xs) ∧ SqT K H b zs ∧ xs.length + zs.length ≤ sizeLine ∧ Q .non (upd H l (.lst (xs ++ zs)))
theorem mt_extT {X : Cx} {K : Frag} (e : X.K = K := by rfl) : MtM X "list.extend" (rExtT K) := by
  subst e
  intro pins s σ H x vs v us Q I rx rv h
  obtain ⟨l, b, xs, zs, rfl, rfl, hH, hB, hz, q⟩ := h
  cases rx
  obtain ⟨u, rfl, ru⟩ := rv.one
  cases (show u = Value.ref b from ru)
  obtain ⟨z, its, n, r, hl, e⟩ := I.lstM hH
  obtain ⟨its2, r2, ⟨⟨c2, d2, t2, s2⟩, e2, ec, n2, ed⟩, hl2⟩ := I.tuple hB
  simp only at ec ed
  subst ec ed
  have l1 : its.length = xs.length := (Paired.length r).symm
  have l2 : its2.length = zs.length := (Paired.length r2).symm
  have fits : its.toArray.size + its2.toArray.size ≤ sizeLine := by rw [List.size_toArray, List.size_toArray]; omega
  refine wpAny_call_entry F.slot_list_extend (show s.TypeIs (.ref l) "list" from ⟨_, e, rfl⟩) F.entry_list_extend ?_ (F.args_list_extend_2 _ _)
  show wpAny _ _ (Builtin.List.listExtendWith (.ref l) (.ref b) .none) _ _ s
  unfold Builtin.List.listExtendWith
  refine wpAny_bind (wpAny_typeOf (T := "tuple") ⟨_, e2, rfl⟩ ?_)
  have door : (Builtin.List.listSameRef (.ref l) (.ref b) || Value.type "tuple" == Value.type "list" || Value.type "tuple" == Value.type "tuple") = true := by simp
  rw [if_pos door]
  unfold Builtin.List.listItems
  refine wpAny_bind (wpAny_bind (wpAny_seqItems e2 rfl (wpAny_pure ?_)))
  refine wpAny_bind (wpAny_bind (wpAny_seqItems e rfl (wpAny_pure ?_)))
  have long : ¬ ((!its.toArray.isEmpty && Builtin.List.listTooLong (its.toArray.size + its2.toArray.size)) = true) := by
    rw [notLongL fits, Bool.and_false]
    exact Bool.false_ne_true
  rw [if_neg long]
  have fin : wpAny (model X.prog X.w) X.A.in1 (Builtin.List.listUpdate (.ref l) (· ++ its2.toArray) >>= fun _ => (ret Value.none : Sem Fin)) (fun fin s' => ∃ v, fin = Fin.done (Flow.ret v) ∧ EP X pins σ Q v s') X.xe s := by
    refine wpAny_bind (wpAny_updateSeq e rfl (wpAny_pure ⟨_, rfl, .non, _, I.lset (its' := its ++ its2) (t' := s.toks) hH e (by simp) (r.append r2) ?_, rfl, q⟩) (by rw [List.size_toArray]; omega) ?_)
    · rw [List.length_append]
      omega
    · rw [Array.size_append]
      omega
  first
    | exact fin
    | exact wpAny_bind (wpAny_pure fin)
    | exact wpAny_pure fin
end Cb

namespace Cb
open PySem PySem.Spec PyProof.Rows L2 PySem.W
theorem eqv_lst_nil (xs : List PyData) : PyData.eqv (.list xs) (.list []) = xs.isEmpty := by
  cases xs <;> simp [PyData.eqv, PyData.eqvAll]
theorem S2L.dp {K : Frag} {H : Hp} {v : V} {ts : List (List Str)} (h : S2L K H v ts) : Dp K H v (.list (ts.map sD)) := by
  obtain ⟨a, xs, rfl, hs, hp⟩ := h
  refine .lst hs ?_
  have key : ∀ {xs : List V} {ts : List (List Str)}, Paired (S1 K H) xs ts → DpAll K H xs (ts.map sD) := by
    intro xs ts hp
    induction hp with
    | nil => exact .nil
    | cons r _ ih => exact .cons r.dp ih
  exact key hp
end Cb
namespace K50
open PySem PySem.Spec PyProof.Rows L2 PySem.W Cb Evl LamX
theorem nc_has (c : List Str) : ∀ o : List Str, (nc c o).isEmpty = has c o
  | [] => rfl
  | x :: o => by
    have ih := nc_has c o
    unfold nc has at ih ⊢
    rw [List.filter_cons, List.all_cons, ← ih]
    cases Cb.isIn x c <;> simp
section
variable {P : Program} {w : World} {K : Frag} {mg : Str → Option Value} {base : Heap}
/-! ### is one set within another, told -/
def sp_withinX (K : Frag) : Sp := fun vs H Q _ => ∃ (x y : V) (a b : List Str), vs = [x, y] ∧ S1 K H x a ∧ S1 K H y b ∧ a.length ≤ 1000 ∧ (∀ n ∈ a, okS n) ∧ ∀ H', Same H H' → Q (.bl (has b a)) H'
theorem ok_withinX {f : Addr} {fd : FuncData} {k : Nat} (F : Fun K "_law_is_within" "_law_is_within" s_within f fd) : FnOk P w K mg base CX0 (k + 1) f fd ["_law_some", "_law_more"] (sp_withinX K) := by
  refine F.ok sc_within (fun vs H Q E h => ?_) (fun cdv A outer s H vs Q E hr h => ?_)
  · obtain ⟨_, _, _, _, rfl, _⟩ := h
    rfl
  · obtain ⟨x, y, c, o, rfl, ⟨a, rfl, hc⟩, ⟨b, rfl, ho⟩, hl, okc, q⟩ := h
    refine ⟨_, (pss_one (ps_ret (pe_cmpR (o_eqD K hr.units) (pe_lc (own := [("_law_name", 2)]) (g := gName 2) rfl sc_within.nd (p_tup K (pv 0)) (blkOk_by (own := [("_law_name", 2)]) (N := N_within) (sc := defScope s_within) (by decide +kernel)) (fun _ _ _ _ _ => (pg_name (i := 2) sc_within.nd rfl (Or.inl rfl)))
      (fun _ _ _ _ _ => (pts_one (pt_cmpR (o_nin K) (pv 2) (pv 1) rfl))) (fun _ _ _ _ _ => (pv 2))) (pe_lst pa_nil) (nomark _)))), ?_⟩
    unfold tRet tOp
    refine lcT_filter (xs := c.map V.str) (fun v => match v with | .str p => !isIn p o | _ => false) id (fun R hR => ⟨_, rfl, hR a H (Same.refl H) hc⟩) (by rw [List.length_map]; omega) (fun _ => rfl) (fun v hv H1 e1 R hR => ?_) (fun v hv _ H1 e1 R hR => ⟨v, rfl, hR H1 (Same.refl H1)⟩) fun D H' hD e hH => ?_
    · obtain ⟨p, _, rfl⟩ := List.mem_map.mp hv
      exact ⟨_, rfl, _, rfl, b, _, rfl, .inr (sameT e1 ho), rfl, flat_strs o, _, rfl, by rw [inV_strs]; exact hR⟩
    · have e2 : ((c.map V.str).filter (fun v => match v with | .str p => !isIn p o | _ => false)).map id = (nc o c).map V.str := by
        rw [List.map_id, List.filter_map]
        rfl
      rw [e2] at hH
      refine ⟨Nat.zero_le _, fun l nl => ⟨.list ((nc o c).map .str), .list [], .lst (sl_ (same_upd nl _ _ hH)) (dpStrs _), .lst (sl_ upd_same) .nil, shaped_strs (fun n hn => (ok_nc okc n hn).cb), shaped_nil, ?_⟩⟩
      have ev : PyData.eqv (.list ((nc o c).map .str)) (.list []) = has o c := by
        rw [eqv_lst_nil, ← nc_has]
        cases nc o c <;> rfl
      rw [ev]
      exact q _ (e.trans (same_upd nl))
/-! ### the crews that are left -/
abbrev s_lfit : Stmt := top 28
abbrev N_lfit : List Str := ["_law_teams", "_law_here", "_law_team"]
theorem sc_lfit : FnScope N_lfit ["_law_teams", "_law_here"] (defScope s_lfit) := ⟨rfl, rfl, rfl, by decide +kernel, rfl, by decide +kernel, by decide +kernel⟩
def sp_lfit (K : Frag) : Sp := fun vs H Q _ => ∃ (x y : V) (ts : List (List Str)) (ps : List Str), vs = [x, y] ∧ S2 K H x ts ∧ S1 K H y ps ∧ Gt ts ∧ ∀ v H', Same H H' → S2L K H' v (left ts ps) → Q v H'
theorem ok_lfit {f : Addr} {fd : FuncData} {k : Nat} (F : Fun K "_law_fit" "_law_fit" s_lfit f fd) (D_within : Own P w K mg base 1 "_law_is_within" ["_law_some", "_law_more"] (sp_withinX K)) : FnOk P w K mg base CX0 (k + 2) f fd ["_law_teams", "_law_here"] (sp_lfit K) := by
  refine F.ok sc_lfit (fun vs H Q E h => ?_) (fun cdv A outer s H vs Q E hr h => ?_)
  · obtain ⟨_, _, _, _, rfl, _⟩ := h
    rfl
  · obtain ⟨x, y, ts, ps, rfl, ⟨a, us, rfl, ha, hp⟩, hy, gt, q⟩ := h
    have hr1 : Room 1 _ := hr.mono (by omega)
    refine ⟨_, (pss_one (ps_ret (pe_lc (own := [("_law_team", 2)]) (g := gName 2) rfl sc_lfit.nd (p_tup K (pv 0)) (blkOk_by (own := [("_law_team", 2)]) (N := N_lfit) (sc := defScope s_lfit) (by decide +kernel)) (fun _ _ _ _ _ => (pg_name (i := 2) sc_lfit.nd rfl (Or.inl rfl))) (fun _ _ _ _ _ => (pts_one (pt_val (pe_call D_within.G hr1 rfl D_within.m D_within.kp D_within.b .nil pass0 (pa_cons (pv 2) (pa_cons (pv 1) pa_nil)))))) (fun _ _ _ _ _ => (pv 2))))), ?_⟩
    refine lcT_pair (F := S1 K) (fun _ _ _ _ e z => z.same e) (fun t => has ps t) (fun R hR => ⟨_, rfl, hR⟩) ha hp (by have := gt.many; omega) (fun _ => rfl) (fun _ => rfl) (fun v t ht H1 e1 hv R hR => ?_) fun L ws H1 nL e1 hL hw => ?_
    · exact ⟨_, rfl, _, rfl, v, y, t, ps, rfl, hv, hy.same e1, by have := (gt.each t ht).2.1; omega, (gt.each t ht).2.2, fun H2 e2 => ⟨_, rfl, hR H2 e2⟩⟩
    · exact q _ _ e1 ⟨L, ws, rfl, sl_ hL, hw⟩
/-! ### the people -/
abbrev s_lfolk : Stmt := top 27
abbrev N_lfolk : List Str := ["_law_teams", "_law_found", "_law_team"]
theorem sc_lfolk : FnScope N_lfolk ["_law_teams"] (defScope s_lfolk) := ⟨rfl, rfl, rfl, by decide +kernel, rfl, by decide +kernel, by decide +kernel⟩
def sp_lfolk (K : Frag) : Sp := fun vs H Q _ => ∃ (x : V) (ts : List (List Str)), vs = [x] ∧ S2 K H x ts ∧ Gt ts ∧ ∀ l H', H l = none → Same H H' → H' l = some (.lst ((folk ts).map V.str)) → Q (.ref l) H'
theorem ok_lfolk {f : Addr} {fd : FuncData} {k : Nat} (F : Fun K "_law_folk" "_law_folk" s_lfolk f fd) (B : Blt mg) (hset : mg "set" = none) : FnOk P w K mg base CX0 (k + 1) f fd ["_law_teams"] (sp_lfolk K) := by
  refine F.ok sc_lfolk (fun vs H Q E h => ?_) (fun cdv A outer s H vs Q E hr h => ?_)
  · obtain ⟨_, _, rfl, _⟩ := h
    rfl
  · obtain ⟨x, ts, rfl, ⟨a, us, rfl, ha, hp⟩, gt, q⟩ := h
    refine ⟨_, (pss_cons (ps_set (i := 1) sc_lfolk.nd rfl (Or.inl rfl) (pe_lst pa_nil))
      (pss_cons (ps_for PassesOwn.never rfl (p_tup K (pv 0)) (pg_name (i := 2) sc_lfolk.nd rfl (Or.inl rfl))
      (pss_one (ps_expr (pe_bm PySem.F.plainAttrs_list PySem.F.slot_list_extend PySem.F.type_list_extend (mt_extT (K := K)) (pv 1) (pa_cons (pv 2) pa_nil)))))
      (pss_one (ps_ret (pe_callB (c_srtSL P w rfl hr.units) (by rfl) B.sorted (by decide +kernel) (pa_cons (pe_callTy (c_setL K P w rfl) (by rfl) hset (by decide +kernel) (pa_cons (pv 1) pa_nil)) pa_nil))))))
      , ?_⟩
    have fl : ∀ i, (ts.take i).flatten.length ≤ 512 := fun i => by
      have h1 := flat_le 8 (id : List Str → List Str) (ts.take i) fun t ht => (gt.each t (List.mem_of_mem_take ht)).2.1
      rw [List.flatMap_id] at h1
      have h2 := gt.many
      rw [List.length_take] at h1
      have h3 : min i ts.length * 8 ≤ 64 * 8 := Nat.mul_le_mul_right 8 (by omega)
      omega
    refine sq_set ⟨Nat.zero_le _, fun F nF => ?_⟩
    refine ⟨_, rfl, a, rfl, ⟨_, sameT (same_upd nF) ha⟩, for_tup (xs := us) (fun i σ' H' => Same H H' ∧ H' F = some (.lst ((ts.take i).flatten.map V.str)) ∧ ∃ v2, σ' = [some (.ref a), some (.ref F), v2]) ⟨same_upd nF, upd_same, none, rfl⟩ (fun i σ' H' _ z => sameT z.1 ha) (fun i u σ' H' hi z => ?_) fun σ' H' z => ?_⟩
    · obtain ⟨e1, hF, v2, rfl⟩ := z
      obtain ⟨t, ht, b, rfl, hb⟩ := prd_getL hp hi
      have l1 := fl i
      have l2 := (gt.each t (List.mem_of_getElem? ht)).2.1
      refine ⟨_, rfl, .inl ⟨rfl, _, sl_ hF⟩, _, rfl, F, b, _, t.map V.str, rfl, rfl, hF, sameT e1 hb, Nat.le_of_lt (big (by rw [List.length_map, List.length_map]; omega)), same_mut e1 nF, ?_, _, rfl⟩
      rw [take_snoc ht, List.flatten_append, List.map_append, List.flatten_cons, List.flatten_nil, List.append_nil]
      exact upd_same
    · obtain ⟨e1, hF, v2, rfl⟩ := z
      have l1 := fl ts.length
      rw [prd_len hp, List.take_length] at hF
      rw [List.take_length] at l1
      unfold tRet tCB tCons tNil
      refine ⟨_, rfl, F, ts.flatten, rfl, sl_ hF, by unfold scanBound; omega, fun p np => ⟨p, _, rfl, upd_same, fun l ks nl pk => ?_⟩⟩
      have e2 : srt ks = folk ts := once_eq (pk.nodup_iff.mpr (adds_nd _)) fun x => by rw [pk.mem_iff, adds_mem]
      rw [e2]
      have e3 := e1.trans (same_upd (o := SetSO P w p (adds ts.flatten)) np)
      exact q l _ (e3.free nl) (e3.trans (same_upd nl)) upd_same
end
end K50

namespace K50
open PySem PySem.Spec PyProof.Rows L2 PySem.W Cb Evl LamX
theorem mem_left {ts : List (List Str)} {ps os t : List Str} (h : t ∈ pick os (left ts ps)) : t ∈ ts := (List.mem_filter.mp (pick_mem h)).1
theorem stepF_pw {R : List Str → List Str → Prop} {L : List (List Str)} {n : Str} (h : L.Pairwise R) : (stepF L n).Pairwise R := by
  unfold stepF
  split
  · exact h
  · exact h.filter _
theorem pick_pw {R : List Str → List Str → Prop} {os : List Str} : ∀ {L : List (List Str)}, L.Pairwise R → (pick os L).Pairwise R := by
  induction os with
  | nil => exact fun h => h
  | cons n os ih => exact fun h => ih (stepF_pw h)
section
variable {P : Program} {w : World} {K : Frag} {mg : Str → Option Value} {base : Heap}
/-! ### the least crew, as the law finds it -/
abbrev s_lfirst : Stmt := top 32
abbrev N_lfirst : List Str := ["_law_teams", "_law_here", "_law_ranks", "_law_left_now", "_law_name", "_law_some", "_law_team"]
theorem sc_lfirst : FnScope N_lfirst ["_law_teams", "_law_here", "_law_ranks"] (defScope s_lfirst) := ⟨rfl, rfl, rfl, by decide +kernel, rfl, by decide +kernel, by decide +kernel⟩
def sp_lfirst (K : Frag) : Sp := fun vs H Q _ => ∃ (x y : V) (r : Addr) (ts : List (List Str)) (ps os : List Str), vs = [x, y, .ref r] ∧ S2 K H x ts ∧ S1 K H y ps ∧ SqL K H r (os.map V.str) ∧ Gt ts ∧ ∀ v H', Same H H' → FstV K H' v (pick os (left ts ps)) → Q v H'
theorem ok_lfirst {f : Addr} {fd : FuncData} {k : Nat} (F : Fun K "_law_first" "_law_first" s_lfirst f fd) (B : Blt mg) (D_fit : Own P w K mg base 2 "_law_fit" ["_law_teams", "_law_here"] (sp_lfit K)) : FnOk P w K mg base CX0 (k + 3) f fd ["_law_teams", "_law_here", "_law_ranks"] (sp_lfirst K) := by
  refine F.ok sc_lfirst (fun vs H Q E h => ?_) (fun cdv A outer s H vs Q E hr h => ?_)
  · obtain ⟨_, _, _, _, _, _, rfl, _⟩ := h
    rfl
  · obtain ⟨x, y, r, ts, ps, os, rfl, hx, hy, hR, gt, q⟩ := h
    have hr2 : Room 2 _ := hr.mono (by omega)
    refine ⟨_, (pss_cons (ps_set (i := 3) sc_lfirst.nd rfl (Or.inl rfl) (pe_call D_fit.G hr2 rfl D_fit.m D_fit.kp D_fit.b .nil pass0 (pa_cons (pv 0) (pa_cons (pv 1) pa_nil))))
      (pss_cons (ps_for PassesOwn.never rfl (p_list K (pv 2)) (pg_name (i := 4) sc_lfirst.nd rfl (Or.inr rfl))
      (pss_cons (ps_setLc (i := 5) (own := [("_law_team", 6)]) (g := gName 6) rfl sc_lfirst.nd rfl rfl (sw_true rfl rfl rfl (by decide +kernel)) (p_list K (pv 3)) (blkOk_by (own := [("_law_team", 6)]) (N := N_lfirst) (sc := defScope s_lfirst) (by decide +kernel)) (fun _ _ _ _ _ => (pg_name (i := 6) sc_lfirst.nd rfl (Or.inl rfl))) (fun _ _ _ _ _ => (pts_one (pt_cmpR (o_in K) (pv 4) (pv 6) rfl))) (fun _ _ _ _ _ => (pv 6)))
      (pss_one (ps_set (i := 3) sc_lfirst.nd rfl (Or.inl rfl) (pe_ifExp (pt_cmpR (o_neD K hr.units) (pv 5) (pe_lst pa_nil) (nomark _)) (pv 5) (pv 3))))))
      (pss_one (ps_ret (pe_ifExp (pt_cmpR (o_neD K hr.units) (pv 3) (pe_lst pa_nil) (nomark _)) (pe_callB (c_minT rfl hr.units) (by rfl) B.min (by decide +kernel) (pa_cons (pv 3) pa_nil)) pe_non))))), ?_⟩
    refine sq_set ⟨_, rfl, _, rfl, x, y, ts, ps, rfl, hx, hy, gt, fun v3 H2 e2 h3 => ?_⟩
    have hl6 : (left ts ps).length ≤ 64 := Nat.le_trans (List.length_filter_le _ _) gt.many
    have names : ∀ {M : List (List Str)}, (∀ t ∈ M, t ∈ ts) → SeqAt.shaped (.list (M.map sD)) = true := fun {M} hM => shaped_teams fun t ht n hn => ((gt.each t (hM t ht)).2.2 n hn).cb
    have evl : ∀ M : List (List Str), PyData.eqv (.list (M.map sD)) (.list []) = M.isEmpty := fun M => by
      rw [eqv_lst_nil]
      cases M <;> rfl
    refine ⟨_, rfl, r, rfl, ⟨_, e2.seq hR⟩, for_list (xs := os.map V.str) (fun i σ' H' => Same H H' ∧ ∃ lv v4 v5, S2L K H' lv (pick (os.take i) (left ts ps)) ∧ σ' = [some x, some y, some (.ref r), some lv, v4, v5, none]) ⟨e2, v3, none, none, h3, rfl⟩ (fun i σ' H' _ z => z.1.seq hR) (fun i u σ' H' hi z => ?_) fun σ' H' z => ?_⟩
    · obtain ⟨e3, lv, v4, v5, hlv, rfl⟩ := z
      rw [List.getElem?_map] at hi
      obtain ⟨n, hn, rfl⟩ := Option.map_eq_some_iff.mp hi
      have hle : (pick (os.take i) (left ts ps)).length ≤ 64 := Nat.le_trans pick_le hl6
      refine sq_set (σ := [some x, some y, some (.ref r), some lv, some (.str n), v5, none]) ?_
      obtain ⟨la, us, rfl, hla, hlp⟩ := hlv
      refine lcL_pair (F := S1 K) (fun _ _ _ _ e z => z.same e) (fun t => Cb.isIn n t) (fun R hR => ⟨_, rfl, hR⟩) hla hlp (by omega) (fun _ => rfl) (fun _ => rfl) (fun v t ht H4 e4 hv R hR => ?_) fun D ws H4 nD e4 hD hw => ?_
      · obtain ⟨a, rfl, ha⟩ := hv
        refine ⟨_, rfl, _, rfl, a, _, rfl, .inr ha, rfl, flat_strs _, _, rfl, ?_⟩
        rw [inV_strs]
        exact hR H4 (Same.refl _)
      · have hs : pick (os.take (i + 1)) (left ts ps) = stepF (pick (os.take i) (left ts ps)) n := by
          rw [take_snoc hn, pick_snoc]
        have hD2 : S2L K H4 (.ref D) ((pick (os.take i) (left ts ps)).filter fun t => Cb.isIn n t) := ⟨D, ws, rfl, sl_ hD, hw⟩
        refine ⟨_, rfl, Nat.zero_le _, fun p5 np5 => ?_⟩
        have s5 := same_upd (o := .lst []) np5
        refine ⟨_, _, (hD2.same s5).dp, .lst (sl_ upd_same) .nil, names fun t ht => mem_left (List.mem_filter.mp ht).1, shaped_nil, _, rfl, ?_⟩
        rw [evl]
        refine ite2 (fun hne => ?_) fun hem => ?_
        · refine ⟨_, rfl, (e3.trans e4).trans s5, .ref D, _, _, ?_, rfl⟩
          rw [hs]
          unfold stepF
          rw [if_neg (by simpa using hne)]
          exact hD2.same s5
        · refine ⟨_, rfl, (e3.trans e4).trans s5, .ref la, _, _, ?_, rfl⟩
          rw [hs]
          unfold stepF
          rw [if_pos (by simpa using hem)]
          exact (S2L.same ⟨la, us, rfl, hla, hlp⟩ e4).same s5
    · obtain ⟨e3, lv, v4, v5, hlv, rfl⟩ := z
      rw [List.length_map, List.take_length] at hlv
      refine ⟨_, rfl, Nat.zero_le _, fun p5 np5 => ?_⟩
      have s5 := same_upd (o := .lst []) np5
      refine ⟨_, _, (hlv.same s5).dp, .lst (sl_ upd_same) .nil, names fun t ht => mem_left ht, shaped_nil, _, rfl, ?_⟩
      rw [evl]
      cases hL : pick os (left ts ps) with
      | nil => exact ite2 (fun z => absurd z (by simp)) fun _ => q _ _ (e3.trans s5) (by rw [hL]; rfl)
      | cons t M =>
        refine ite2 (fun _ => ?_) fun z => absurd rfl z
        have h5 := hlv.same s5
        rw [hL] at h5
        obtain ⟨la, us, rfl, hla, hlp⟩ := h5
        have pw : (t :: M).Pairwise fun a b => dataLe false sD a b = true := by
          rw [← hL]
          exact pick_pw (gt.ord.filter _)
        exact ⟨_, rfl, la, us, t, M, rfl, hla, hlp, pw, fun v hv => q _ _ (e3.trans s5) (by rw [hL]; exact hv)⟩
end
end K50

namespace Cb
open PySem PySem.Spec PyProof.Rows L2 PySem.W
section
variable {P : Program} {w : World} {K : Frag} {mg : Str → Option Value} {base : Heap}
/-- def f(a, b, *v), called by its two names, the second first; its exceptions told -/
theorem fun_starKX {x qual : Str} {st : Stmt} {f : Addr} {fd : FuncData} {N : List Str} {p1 p2 pv : Str} {k : Nat} {sp : Sp} (F : Fun K x qual st f fd) (S : FnScope N [p1, p2, pv] (defScope st))
    (hb : ∀ (kV doc pm : Value) (an : Option Addr) (cdv ct u1 u2 : Value), bindArgs (PySem.W.fnOf x qual (defArgs st) (defBody st) (defScope st) .none kV doc pm an cdv ct) ⟨[], [(p2, u2), (p1, u1)]⟩ = (newTuple [] >>= fun t => pure [(p1, u1), (p2, u2), (pv, t)]))
    (hbody : ∀ (cdv : Value) (A : Around) (outer : List Env) (s : Shared) (H : Hp) (vs : List V) (Q : VK) (E : XK), Room k (A.deeper (envOfC qual (defScope st) s.heap.objs.size f cdv)) → sp vs H Q E →
      ∃ t, PSs (cxOf (L2.CX P w) P w K mg base N qual (defScope st) f cdv A outer s H E) (defBody st) t ∧ t { nx := fun _ H' => Q .non H', rt := Q } (start N vs) H) :
    FnKW P w K mg base (L2.CX P w) (k + 1) f [p2, p1] (fun vs H Q E => ∃ v1 v2, vs = [v2, v1] ∧ ∀ p, H p = Option.none → sp [v1, v2, V.ref p] (upd H p (.tup [])) Q E) := by
  obtain ⟨oc, od, kV, doc, pm, an, cdv, ct, osl, rfl, lk, hcd⟩ := F.ex
  intro A outer s H us vs Q E hr e0 r hsp
  obtain ⟨v1, v2, rfl, hq⟩ := hsp
  match us, r with
  | [u2, u1], .cons r2 (.cons r1 .nil) =>
    have hn : H s.heap.objs.size = Option.none := e0.hok.fresh (Nat.le_refl _)
    refine StX.run_bnd lk hcd S hr e0 (G := fun xs H2 => ∃ p, H p = Option.none ∧ xs = [v1, v2, V.ref p] ∧ H2 = upd H p (.tup [])) (fun A' Ex Q' h => ?_) fun s2 H2 xs ⟨p, hp, ex, eH⟩ hr' => ?_
    · show wpAny (model P w) A' (bindArgs _ ⟨[], [(p2, u2), (p1, u1)]⟩) Q' Ex s
      rw [hb kV doc pm an cdv ct u1 u2]
      refine wpAny_bind (wpAny_newTuple (wpAny_pure ?_) (Nat.zero_le _))
      have new : ObjOk P w (upd H s.heap.objs.size (.tup [])) (s.heap.push ({ cls := .type "tuple", data := .seq ([] : List Value).toArray } : Obj)) s.heap.objs.size (.tup []) := ⟨Nat.zero_le _, [], .nil, ⟨_, Heap.get?_push_size _ rfl, rfl, _, rfl⟩⟩
      have un := StX.un_laid (fs := frs outer) (s := s) (o := ({ cls := .type "tuple", data := .seq ([] : List Value).toArray } : Obj)) (u := .tup []) hn
      exact h _ _ [v1, v2, V.ref s.heap.objs.size] [u1, u2, Value.ref s.heap.objs.size] (StX.env0_laid e0 new) un rfl (fun e s' => StX.cxUp outer s H _ _ E e s' un (fun b o q => Heap.get?_push_of_some _ q) rfl) (.cons r1 (.cons r2 (.cons rfl .nil))) rfl ⟨_, hn, rfl, rfl⟩
    · subst ex eH
      exact hbody cdv A outer s2 _ _ Q E hr' (hq p hp)
end
end Cb
namespace K50
open PySem PySem.Spec PyProof.Rows L2 PySem.W Cb Evl LamX
theorem bad_no {ts : List (List Str)} {ns : List Str} {n : Str} (h : ∀ m ∈ ns, m ∈ ts.flatten) (b : Bad ts ns n) : False := by
  obtain ⟨pre, post, rfl, _, no⟩ := b
  exact no (h n (by simp))
section
variable {P : Program} {w : World} {K : Frag} {mg : Str → Option Value} {base : Heap}
def sp_first (K : Frag) (UP : Addr) : Sp := fun vs H Q E => ∃ (x y : V) (ts : List (List Str)) (ps os : List Str), vs = x :: y :: os.map V.str ∧ os.length ≤ 8 ∧ S2 K H x ts ∧ Gt ts ∧ S1 K H y ps ∧ (∀ n, Bad ts (ps ++ os) n → Out UP H E n) ∧
  ((∀ n ∈ ps ++ os, n ∈ ts.flatten) → ∀ v H', Same H H' → FstV K H' v (pick os (left ts ps)) → Q v H')
theorem ok_first {f : Addr} {fd : FuncData} {k : Nat} {UP : Addr} (F : Fun K "first_crew" "first_crew" s_first f fd) (D_check : OwnX P w K mg base 3 "check_people" (sp_check K UP)) (D_crews_within : Own P w K mg base 2 "crews_within" ["crews", "people"] (sp_cwithin K)) : FnR P w K mg base (L2.CX P w) (k + 4) f (sp_first K UP) := by
  have M := fun_starX (k := k + 3) (P := P) (w := w) (mg := mg) (base := base) (ps := ["crews", "present"]) (pv := "order") (sp := spB_first K UP) F sc_first (fun kV doc pm an cdv ct => StX.bind_star2 (B := fun us => bindArgs (PySem.W.fnOf "first_crew" "first_crew" (defArgs s_first) (defBody s_first) (defScope s_first) .none kV doc pm an cdv ct) ⟨us, []⟩) (fun _ _ => rfl) (fun _ _ _ _ => rfl)) (body_first (k := k) D_check D_crews_within)
  exact fun A outer s H us vs Q E hr e0 r ⟨x, y, ts, ps, os, e, l8, hx, gt, hy, out, q⟩ => M A outer s H us vs Q E hr e0 r ⟨[x, y], os.map V.str, e, rfl, Nat.le_of_lt (big (by rw [List.length_map]; omega)), fun p np => ⟨x, y, p, ts, ps, os, rfl, upd_same, hx.same (same_upd np), gt, hy.same (same_upd np), fun n hn d H' e' hd => out n hn d H' ((same_upd np).trans e') hd, fun hin v H' e' hv => q hin v H' ((same_upd np).trans e') hv⟩⟩
def sp_firstK (K : Frag) (UP : Addr) : Sp := fun vs H Q E => ∃ (x y : V) (ts : List (List Str)) (ps : List Str), vs = [y, x] ∧ S2 K H x ts ∧ Gt ts ∧ S1 K H y ps ∧ (∀ n ∈ ps, n ∈ ts.flatten) ∧ ∀ v H', Same H H' → FstV K H' v (left ts ps) → Q v H'
theorem ok_firstK {f : Addr} {fd : FuncData} {k : Nat} {UP : Addr} (F : Fun K "first_crew" "first_crew" s_first f fd) (D_check : OwnX P w K mg base 3 "check_people" (sp_check K UP)) (D_crews_within : Own P w K mg base 2 "crews_within" ["crews", "people"] (sp_cwithin K)) : FnKW P w K mg base (L2.CX P w) (k + 4) f ["present", "crews"] (sp_firstK K UP) := by
  have M := fun_starKX (k := k + 3) (P := P) (w := w) (mg := mg) (base := base) (p1 := "crews") (p2 := "present") (pv := "order") (sp := spB_first K UP) F sc_first (fun kV doc pm an cdv ct u1 u2 => rfl) (body_first (k := k) D_check D_crews_within)
  exact fun A outer s H us vs Q E hr e0 r ⟨x, y, ts, ps, e, hx, gt, hy, hin, q⟩ => M A outer s H us vs Q E hr e0 r ⟨x, y, e, fun p np => ⟨x, y, p, ts, ps, [], rfl, upd_same, hx.same (same_upd np), gt, hy.same (same_upd np), fun n hn => (bad_no (by rw [List.append_nil] at hn ⊢; exact hin) hn).elim, fun _ v H' e' hv => q v H' ((same_upd np).trans e') hv⟩⟩
/-! ### the call with no to four people -/
abbrev s_lask : Stmt := top 33
abbrev N_lask : List Str := ["_law_teams", "_law_here", "_law_ranks"]
theorem sc_lask : FnScope N_lask ["_law_teams", "_law_here", "_law_ranks"] (defScope s_lask) := ⟨rfl, rfl, rfl, by decide +kernel, rfl, by decide +kernel, by decide +kernel⟩
def sp_lask (K : Frag) : Sp := fun vs H Q _ => ∃ (x y : V) (r : Addr) (ts : List (List Str)) (ps os : List Str), vs = [x, y, .ref r] ∧ S2 K H x ts ∧ S1 K H y ps ∧ SqL K H r (os.map V.str) ∧ os.length ≤ 4 ∧ Gt ts ∧ (∀ n ∈ ps ++ os, n ∈ ts.flatten) ∧ ∀ v H', Same H H' → FstV K H' v (pick os (left ts ps)) → Q v H'
theorem ok_lask {f : Addr} {fd : FuncData} {k : Nat} {UP : Addr} (F : Fun K "_law_ask" "_law_ask" s_lask f fd) (B : Blt mg) (D_first : OwnX P w K mg base 4 "first_crew" (sp_first K UP)) : FnOk P w K mg base CX0 (k + 5) f fd ["_law_teams", "_law_here", "_law_ranks"] (sp_lask K) := by
  refine F.ok sc_lask (fun vs H Q E h => ?_) (fun cdv A outer s H vs Q E hr h => ?_)
  · obtain ⟨_, _, _, _, _, _, rfl, _⟩ := h
    rfl
  · obtain ⟨x, y, r, ts, ps, os, rfl, hx, hy, hR, l4, gt, hin, q⟩ := h
    have hr4 : Room 4 _ := hr.mono (by omega)
    refine ⟨_, (pss_cons (ps_if (pt_cmpR op_eq (pe_callB (c_len K) (by rfl) B.len (by decide +kernel) (pa_cons (pv 2) pa_nil)) pe_int (nomark _)) (pss_one (ps_ret (pe_callP (E := fun _ _ _ => False) D_first.G hr4 rfl D_first.m D_first.kp passF (pa_cons (pv 0) (pa_cons (pv 1) pa_nil))))) pss_nil)
      (pss_cons (ps_if (pt_cmpR op_eq (pe_callB (c_len K) (by rfl) B.len (by decide +kernel) (pa_cons (pv 2) pa_nil)) pe_int (nomark _)) (pss_one (ps_ret (pe_callP (E := fun _ _ _ => False) D_first.G hr4 rfl D_first.m D_first.kp passF (pa_cons (pv 0) (pa_cons (pv 1) (pa_cons (pe_ix (i_list K) (pv 2) pe_int (fun _ _ => rfl)) pa_nil)))))) pss_nil)
      (pss_cons (ps_if (pt_cmpR op_eq (pe_callB (c_len K) (by rfl) B.len (by decide +kernel) (pa_cons (pv 2) pa_nil)) pe_int (nomark _)) (pss_one (ps_ret (pe_callP (E := fun _ _ _ => False) D_first.G hr4 rfl D_first.m D_first.kp passF (pa_cons (pv 0) (pa_cons (pv 1) (pa_cons (pe_ix (i_list K) (pv 2) pe_int (fun _ _ => rfl)) (pa_cons (pe_ix (i_list K) (pv 2) pe_int (fun _ _ => rfl)) pa_nil))))))) pss_nil)
      (pss_cons (ps_if (pt_cmpR op_eq (pe_callB (c_len K) (by rfl) B.len (by decide +kernel) (pa_cons (pv 2) pa_nil)) pe_int (nomark _)) (pss_one (ps_ret (pe_callP (E := fun _ _ _ => False) D_first.G hr4 rfl D_first.m D_first.kp passF (pa_cons (pv 0) (pa_cons (pv 1) (pa_cons (pe_ix (i_list K) (pv 2) pe_int (fun _ _ => rfl)) (pa_cons (pe_ix (i_list K) (pv 2) pe_int (fun _ _ => rfl)) (pa_cons (pe_ix (i_list K) (pv 2) pe_int (fun _ _ => rfl)) pa_nil)))))))) pss_nil)
      (pss_one (ps_ret (pe_callP (E := fun _ _ _ => False) D_first.G hr4 rfl D_first.m D_first.kp passF (pa_cons (pv 0) (pa_cons (pv 1) (pa_cons (pe_ix (i_list K) (pv 2) pe_int (fun _ _ => rfl)) (pa_cons (pe_ix (i_list K) (pv 2) pe_int (fun _ _ => rfl)) (pa_cons (pe_ix (i_list K) (pv 2) pe_int (fun _ _ => rfl)) (pa_cons (pe_ix (i_list K) (pv 2) pe_int (fun _ _ => rfl)) pa_nil))))))))))))), ?_⟩
    have call : ∀ (Q' : VK), (∀ v H', Same H H' → FstV K H' v (pick os (left ts ps)) → Q' v H') → sp_first K UP (x :: y :: os.map V.str) H Q' (fun _ _ _ => False) := fun Q' q' => ⟨x, y, ts, ps, os, rfl, by omega, hx, gt, hy, fun n hn => (bad_no hin hn).elim, fun _ => q'⟩
    have c0 := call _ q
    have hl : ∀ {n : Nat}, os.length = n → (os.map V.str).length = n := fun e => by rw [List.length_map]; exact e
    have len : ∀ (i : Int) (Q' : Bool → Hp → Prop), Q' (decide ((os.length : Int) = i)) H → (tTest (tOp rEq (tCB (rLenOf K) (tCons (tVar 2) tNil)) (tC (.int i)))) [some x, some y, some (.ref r)] H Q' := fun i Q' q' => by
      refine ⟨_, rfl, r, _, rfl, .inl hR, rfl, _, rfl, ?_⟩
      rw [List.length_map]
      have e : decide (V.int (os.length : Int) = V.int i) = decide ((os.length : Int) = i) := by
        by_cases h : (os.length : Int) = i <;> simp [h]
      rw [e]
      exact q'
    match os, hR, l4, c0, len with
    | [], hR, _, c0, len =>
      refine len _ _ (ite2 (fun _ => ?_) fun z => absurd rfl z)
      exact ⟨_, rfl, _, rfl, c0⟩
    | [a], hR, _, c0, len =>
      refine len _ _ (ite2 (fun z => absurd z (by simp)) fun _ => len _ _ (ite2 (fun _ => ?_) fun z => absurd rfl z))
      exact ⟨_, rfl, _, rfl, ⟨_, rfl, r, _, 0, _, rfl, rfl, hR, rfl, c0⟩⟩
    | [a, b], hR, _, c0, len =>
      refine len _ _ (ite2 (fun z => absurd z (by simp)) fun _ => len _ _ (ite2 (fun z => absurd z (by simp)) fun _ => len _ _ (ite2 (fun _ => ?_) fun z => absurd rfl z)))
      exact ⟨_, rfl, _, rfl, ⟨_, rfl, r, _, 0, _, rfl, rfl, hR, rfl, ⟨_, rfl, r, _, 1, _, rfl, rfl, hR, rfl, c0⟩⟩⟩
    | [a, b, c], hR, _, c0, len =>
      refine len _ _ (ite2 (fun z => absurd z (by simp)) fun _ => len _ _ (ite2 (fun z => absurd z (by simp)) fun _ => len _ _ (ite2 (fun z => absurd z (by simp)) fun _ => len _ _ (ite2 (fun _ => ?_) fun z => absurd rfl z))))
      exact ⟨_, rfl, _, rfl, ⟨_, rfl, r, _, 0, _, rfl, rfl, hR, rfl, ⟨_, rfl, r, _, 1, _, rfl, rfl, hR, rfl, ⟨_, rfl, r, _, 2, _, rfl, rfl, hR, rfl, c0⟩⟩⟩⟩
    | [a, b, c, d], hR, _, c0, len =>
      refine len _ _ (ite2 (fun z => absurd z (by simp)) fun _ => len _ _ (ite2 (fun z => absurd z (by simp)) fun _ => len _ _ (ite2 (fun z => absurd z (by simp)) fun _ => len _ _ (ite2 (fun z => absurd z (by simp)) fun _ => ?_))))
      exact ⟨_, rfl, _, rfl, ⟨_, rfl, r, _, 0, _, rfl, rfl, hR, rfl, ⟨_, rfl, r, _, 1, _, rfl, rfl, hR, rfl, ⟨_, rfl, r, _, 2, _, rfl, rfl, hR, rfl, ⟨_, rfl, r, _, 3, _, rfl, rfl, hR, rfl, c0⟩⟩⟩⟩⟩
    | _ :: _ :: _ :: _ :: _ :: _, _, l, _, _ => exact absurd l (by simp)
end
end K50

namespace Cb
open PySem PySem.Spec PyProof.Rows L2 PySem.W LamX
section
variable {P : Program} {w : World} {K : Frag} {mg : Str → Option Value} {base : Heap}
/-- a def whose code object is known -/
structure FunC (K : Frag) (x qual : Str) (st : Stmt) (f : Addr) (fd : FuncData) (c : Addr) : Prop where
  ex : ∃ (oc : Value) (od : Option Addr) (kV doc pm : Value) (an : Option Addr) (ct : Value) (osl : Array (Option Value)),
    fd = PySem.W.fnOf x qual (defArgs st) (defBody st) (defScope st) .none kV doc pm an (.ref c) ct ∧ K.lookup f = some ⟨oc, od, .func fd, osl⟩ ∧ PySem.W.codeIn K (.ref c) qual = true
/-- .. its body, with that said of what stands around -/
theorem fnG_mkC {x q : Str} {st : Stmt} {f c : Addr} {fd : FuncData} {N ps : List Str} {k : Nat} {sp : Sp} (F : FunC K x q st f fd c) (S : FnScope N ps (defScope st)) (ln : ∀ vs H Q E, sp vs H Q E → vs.length = ps.length)
    (hb : ∀ (A : Around) (out : List Env) (s : Shared) (H : Hp) (vs : List V) (Q : VK) (E : XK), Gu A → Room k (A.deeper (envOfC q (defScope st) s.heap.objs.size f (.ref c))) → sp vs H Q E →
      ∃ t, PSs (cxOf CX0 P w K mg base N q (defScope st) f (.ref c) A out s H E).nox (defBody st) t ∧ t { nx := fun _ H' => Q .non H', rt := Q } (start N vs) H) : FnG P w K mg base (k + 1) f fd ps sp := by
  obtain ⟨oc, od, kV, doc, pm, an, ct, osl, rfl, lk, hcd⟩ := F.ex
  refine ⟨ln, fun A out s H ar us vs Q E g hr e0 hbi r hsp => ?_⟩
  have one : ∃ t, PSs (cxOf CX0 P w K mg base N q (defScope st) f (.ref c) A out s H E) (defBody st) t ∧ t { nx := fun _ H' => Q .non H', rt := Q } (start N vs) H := by
    obtain ⟨t, h, z⟩ := hb A out s H vs Q E g (hr.deeper _) hsp
    exact ⟨t, h.nox, z⟩
  have hl := ln _ _ _ _ hsp
  have KX : K.In s.heap := e0.mod.kin.keeps fun b o e => (e0.bs b o e).1
  have lim : s.heap.NoLimit := e0.mod.nolimit.keeps fun b o e => (e0.bs b o e).1
  refine codeAny_call_function hr.depth (KX _ _ lk) rfl S.co S.gen rfl (codeRec_of KX hcd) (hbi _ _ _ _ ?_)
  refine wpAny_newFunctionEnv_cells S.kind (fun ⟨n, v⟩ hy => ?_) fun env he s1 x => ?_
  · rcases S.par n (List.of_mem_zip hy).1 with z | z
    · exact .inl z
    · exact .inr ⟨z, cellsFrom_some _ _ _ (.inl z)⟩
  · subst he
    refine ⟨lim.keeps x.toInCall.keep, codeAny_func ?_⟩
    obtain ⟨t, ht, hq⟩ := one
    refine wpAny_mono (ht.run [] s1 (start N vs) H _ (inv_start S hr.hd e0 hl r x) hq) (fun fl s' hs => ?_) fun e s' hs => hs
    cases fl with
    | ret u => exact let ⟨v, _, H', J, rv, z⟩ := hs; ⟨v, H', J.os, J.bare, J.base, J.hok, rv, z⟩
    | next => exact let ⟨_, H', J, z⟩ := hs; ⟨V.non, H', J.os, J.bare, J.base, J.hok, rfl, z⟩
    | brk => exact let ⟨_, _, _, z⟩ := hs; False.elim z
    | cont => exact let ⟨_, _, _, z⟩ := hs; False.elim z
end
/-! ### all but the tables stays -/
section
variable {K : Frag} {H H' : Hp}
theorem xSqT (e : ExtN H H') {a : Addr} {xs : List V} (h : SqT K H a xs) : SqT K H' a xs := by
  rcases h with (h | ⟨o, h⟩) | h
  · exact .inl (.inl (e _ _ h fun _ z => by cases z))
  · exact .inl (.inr ⟨o, e _ _ h fun _ z => by cases z⟩)
  · exact .inr h
theorem xS1 (e : ExtN H H') {v : V} {ns : List Str} (h : S1 K H v ns) : S1 K H' v ns := by
  obtain ⟨a, rfl, h⟩ := h
  exact ⟨a, rfl, xSqT e h⟩
theorem xS2 (e : ExtN H H') {v : V} {ts : List (List Str)} (h : S2 K H v ts) : S2 K H' v ts := by
  obtain ⟨a, xs, rfl, h, hp⟩ := h
  exact ⟨a, xs, rfl, xSqT e h, prd_mono (fun _ _ z => xS1 e z) hp⟩
theorem xLst (e : ExtN H H') {b : Addr} {xs : List V} (h : H b = some (.lst xs)) : H' b = some (.lst xs) := e _ _ h fun _ z => by cases z
theorem xTup (e : ExtN H H') {b : Addr} {xs : List V} (h : H b = some (.tup xs)) : H' b = some (.tup xs) := e _ _ h fun _ z => by cases z
theorem xSame (e : Same H H') : ExtN H H' := fun b o h _ => e b o h
theorem tabs_same {T : List (Addr × Str)} (t : Tabs T H) (e : Same H H') : Tabs T H' := t.ext e
theorem tabs_ch {T : List (Addr × Str)} {r : Addr} (t : Tabs T H) (e : Ch r H H') : Tabs T H' := fun p hp => by
  obtain ⟨ps, h1, h2, h3⟩ := t p hp
  refine ⟨ps, e.at h1 (fun _ z => by cases z), h2, fun pos cv hc => ?_⟩
  obtain ⟨c, e1, e2⟩ := h3 pos cv hc
  exact ⟨c, e1, e.at e2 fun _ z => by unfold CodeO at z; cases z⟩
end
end Cb
namespace K50
open PySem PySem.Spec PyProof.Rows L2 PySem.W Cb Evl LamX
theorem Rng.ext {H H' : Hp} {r c : Addr} {d : Int} (e : ExtN H H') (h : Rng H r c d) : Rng H' r c d := by
  obtain ⟨ns, nx, rest, dr, h1, h2, h3⟩ := h
  exact ⟨ns, nx, rest, dr, e _ _ h1 (fun _ z => by cases z), e _ _ h2 (fun _ z => by cases z), h3⟩
/-- what stands for the first crew -/
def fD (L : List (List Str)) : PD := match L with
  | [] => .none
  | t :: _ => sD t
section
variable {P : Program} {w : World} {K : Frag} {mg : Str → Option Value} {base : Heap}
theorem repr_first {H : Hp} {v : V} {L : List (List Str)} {Q : VK} (h : FstV K H v L) (ok : ∀ t ∈ L, t.length ≤ 8 ∧ ∀ n ∈ t, okS n) (q : Q (.str (fD L).shown) H) : rReprD K [v] H Q := by
  cases L with
  | nil =>
    have h' : v = .non := h
    subst h'
    exact repr_okd (n := 1) (m := 0) (Sc.okd (.inl rfl) 0) .non q
  | cons t L =>
    have h' : S1 K H v t := h
    obtain ⟨h1, h2⟩ := ok t List.mem_cons_self
    exact repr_niceD (nice_sD8 (fun n hn => (h2 n hn).cb) h1) h'.dp q
/-- [x for x in xs if the test draws], xs a list of texts -/
theorem lcL_drawX {F r c : Addr} {ns : List Str} {d : Int} {tl : TE} {j : Nat} {vs : List Nat} {σ : Stt} {H : Hp} {tt : TT} {Q : VK} (hl : ∀ R : VK, R (.ref F) H → tl σ H R) (hF : H F = some (.lst (ns.map V.str))) (hR : Rng H r c d) (hn : ns.length ≤ 1000)
    (hj : ∀ x, wipe ((wipe σ vs).set j (some x)) vs = wipe σ vs) (hv : ∀ x, ((wipe σ vs).set j (some x))[j]? = some (some x))
    (ht : ∀ x (e : Int) H1, Ch r H H1 → Rng H1 r c e → e ≤ d + 1000 → ∀ R : Bool → Hp → Prop, (∀ b H2, Ch r H1 H2 → Rng H2 r c (e + 1) → R b H2) → tt ((wipe σ vs).set j (some x)) H1 R)
    (q : ∀ (D : Addr) (out : List Str) (H' : Hp), H D = none → Ch r H H' → Rng H' r c (d + ns.length) → H' D = some (.lst (out.map V.str)) → (∀ n ∈ out, n ∈ ns) → out.length ≤ ns.length → Q (.ref D) H') : tLc (iList K tl) (gName j) tt (tVar j) vs σ H Q := by
  refine hl _ ⟨F, rfl, ⟨_, sl_ hF⟩, fun D nD => ?_⟩
  refine lc_list (K := K) (a := F) (xs := ns.map V.str) (fun i H' => Ch r H H' ∧ Rng H' r c (d + i) ∧ ∃ out : List Str, H' D = some (.lst (out.map V.str)) ∧ (∀ n ∈ out, n ∈ ns) ∧ out.length ≤ i) ⟨Ch.new nD, (hR.mut nD hR).le (by omega), [], upd_same, fun n hn => absurd hn (by simp), Nat.le_refl _⟩ (fun i H' _ z => sl_ (z.1.lst hF)) (fun i x H' hi z => ⟨hj x, ?_⟩) fun H' z => ?_
  · obtain ⟨c1, g1, out, ho, hm, hi2⟩ := z
    rw [List.getElem?_map] at hi
    obtain ⟨n, hni, rfl⟩ := Option.map_eq_some_iff.mp hi
    have il := (List.getElem?_eq_some_iff.mp hni).1
    refine ht _ (d + i) H' c1 g1 (by omega) _ fun b H2 c2 g2 => ?_
    cases b with
    | true =>
      rw [if_pos rfl]
      refine ⟨_, hv _, out.map V.str, c2.lst ho, big (by rw [List.length_map]; omega), (c1.trans c2).upd nD, (g2.mut nD hR).le (by omega), out ++ [n], ?_, fun m hm2 => ?_, by rw [List.length_append]; show out.length + 1 ≤ i + 1; omega⟩
      · rw [List.map_append]
        exact upd_same
      · rcases List.mem_append.mp hm2 with z | z
        · exact hm m z
        · rw [List.mem_singleton.mp z]
          exact List.mem_of_getElem? hni
    | false =>
      rw [if_neg Bool.false_ne_true]
      exact ⟨c1.trans c2, g2.le (by omega), out, c2.lst ho, hm, by omega⟩
  · obtain ⟨c1, g1, out, ho, hm, hi2⟩ := z
    rw [List.length_map] at g1 hi2
    exact q D out H' nD c1 g1 ho hm hi2
theorem gives_callX {X : Cx} {k : Nat} {g : Addr} {cdg : Value} {q : Str} (E : ErrF K mg) (hr : Room (k + 3) X.A) (D_error : Own P w K mg base 1 "_law_error" ["_law_e"] (sp_error K mg E)) (eP : X.prog = P := by rfl) (ew : X.w = w := by rfl) (eK : X.K = K := by rfl) (em : X.mg = mg := by rfl) (eb : X.base = base := by rfl) :
    GivesTo X N_call "_law_call" (defScope s_call) g cdg (defBody s_call) "_law_ask_here" q (TTc K E.UP) := by
  subst eP ew eK em eb
  exact gives_call E hr D_error
end
end K50

namespace K50
open PySem PySem.Spec PyProof.Rows L2 PySem.W Cb Evl LamX
theorem last_of {l pre post : List Str} {z n : Str} (h : l ++ [z] = pre ++ n :: post) : (pre = l ∧ n = z) ∨ n ∈ l := by
  rcases List.eq_nil_or_concat post with rfl | ⟨p, y, rfl⟩
  · obtain ⟨h1, h2⟩ := List.append_inj' h rfl
    exact .inl ⟨h1.symm, (List.cons.inj h2).1.symm⟩
  · rw [List.concat_eq_append, ← List.cons_append, ← List.append_assoc] at h
    obtain ⟨h1, _⟩ := List.append_inj' h rfl
    exact .inr (by rw [h1]; simp)
theorem sq_for {ti : TI} {g : TG} {tb rest : TS} {D : Ends} {σ : Stt} {H : Hp} (h : tFor ti g tb { D with nx := rest D } σ H) : tSeq (tFor ti g tb) rest D σ H := h
theorem nx_for {ti : TI} {g : TG} {tb rest : TS} {D : Ends} {rt : VK} {bk ct : Stt → Hp → Prop} {σ : Stt} {H : Hp} (h : tFor ti g tb { D with nx := rest D } σ H) : (Ends.mk (tSeq (tFor ti g tb) rest D) rt bk ct).nx σ H := h
theorem tnil_go {σ : Stt} {H : Hp} {Q : List V → Hp → Prop} (h : Q [] H) : tNil σ H Q := h
def zL : List Str := ["zzzzzzzy"]
def cT : List (List Str) := [["a", "b"], ["a", "c"], ["b", "c"]]
theorem cT_ok : Gt cT := by
  refine ⟨by decide, fun t ht => ?_, by decide +kernel⟩
  simp only [cT, List.mem_cons, List.not_mem_nil, or_false] at ht
  rcases ht with rfl | rfl | rfl <;> exact ⟨by simp, by decide, by show ∀ n ∈ _, n ∈ pool; decide +kernel⟩
theorem cT_pick : pick ([("c" : Str)] : List Str) (left cT (["a", "b", "c"] : List Str)) = ([["a", "c"], ["b", "c"]] : List (List Str)) := by decide +kernel
theorem tcb1 {r : List V → Hp → VK → Prop} {te : TE} {σ : Stt} {H : Hp} {Q : VK} (h : te σ H fun v H1 => r [v] H1 Q) : tCB r (tCons te tNil) σ H Q := h
theorem nx_if1 {tt : TT} {t u : TS} {D : Ends} {rt : VK} {bk ct : Stt → Hp → Prop} {σ : Stt} {H : Hp} (h : tIfS tt t u D σ H) : (Ends.mk (tIfS tt t u D) rt bk ct).nx σ H := h
theorem nx_if {tt : TT} {t u rest : TS} {D : Ends} {rt : VK} {bk ct : Stt → Hp → Prop} {σ : Stt} {H : Hp} (h : tIfS tt t u { D with nx := rest D } σ H) : (Ends.mk (tSeq (tIfS tt t u) rest D) rt bk ct).nx σ H := h
theorem tabs_put {T : List (Addr × Str)} {H : Hp} {G : Addr} {xs ys : List V} (t : Tabs T H) (h : H G = some (.lst xs)) : Tabs T (upd H G (.lst ys)) := fun p hp => by
  obtain ⟨ps, h1, h2, h3⟩ := t p hp
  refine ⟨ps, by rw [upd_ne (fun z => by rw [z, h] at h1; cases h1)]; exact h1, h2, fun pos cv hc => ?_⟩
  obtain ⟨c, e1, e2⟩ := h3 pos cv hc
  exact ⟨c, e1, by rw [upd_ne (fun z => by rw [z, h] at e2; unfold CodeO at e2; cases e2)]; exact e2⟩
section
variable {P : Program} {w : World} {K : Frag} {mg : Str → Option Value} {base : Heap}
/-! ### the law -/
abbrev s_law : Stmt := top 34
abbrev N_law : List Str := ["_law_script", "_law_rng", "_law_lap", "_law_teams", "_law_folk_here", "_law_before", "_law_turn", "_law_here", "_law_ranks", "_law_got", "_law_name"]
theorem sc_law : FnScope N_law ["_law_script"] (defScope s_law) := ⟨rfl, rfl, rfl, by decide +kernel, rfl, by decide +kernel, by decide +kernel⟩
def qL : Str := (envOfC ("law" : Str) (defScope s_law) 0 0 .none).qual ++ "<lambda>"
def sp_law (K : Frag) (Pt : Addr) : Sp := fun vs H Q _ => ∃ (a : Addr) (ns : List Int), vs = [.ref a] ∧ SqL K H a (ns.map V.int) ∧ Tabs [(Pt, qL)] H ∧ ∀ H', Q (.bl true) H'
theorem ok_law {f c Pt fc : Addr} {fd fdc : FuncData} (F : FunC K "law" "law" s_law f fd c) (B : Blt mg) (TB : TabB base mg c Pt) (E : ErrF K mg) (F_call : Fun K "_law_call" "_law_call" s_call fc fdc) (mc : mg "_law_call" = some (.ref fc)) (bcall : Binds K fdc ["_law_ask_here"] [])
    (D_source : Own P w K mg base 1 "_law_source" ["_law_script"] (sp_source K)) (D_draw : Own P w K mg base 1 "_law_draw" ["_law_rng", "_law_limit"] sp_draw) (D_sample : Own P w K mg base 2 "_law_sample" ["_law_rng", "_law_pool", "_law_amount"] (sp_sample K))
    (D_many : Own P w K mg base 4 "_law_make_any" ["_law_rng", "_law_most"] (sp_many K)) (D_folk : Own P w K mg base 1 "_law_folk" ["_law_teams"] (sp_lfolk K)) (D_lfirst : Own P w K mg base 3 "_law_first" ["_law_teams", "_law_here", "_law_ranks"] (sp_lfirst K))
    (D_ask : Own P w K mg base 5 "_law_ask" ["_law_teams", "_law_here", "_law_ranks"] (sp_lask K)) (D_error : Own P w K mg base 1 "_law_error" ["_law_e"] (sp_error K mg E)) (D_first : OwnX P w K mg base 4 "first_crew" (sp_first K E.UP)) (GK : FnKW P w K mg base (L2.CX P w) 4 D_first.f ["present", "crews"] (sp_firstK K E.UP)) : FnG P w K mg base 7 f fd ["_law_script"] (sp_law K Pt) := by
  obtain ⟨oc, od, kV, doc, pm, an, cdv2, ct, osl, rfl, lk, hcg⟩ := F_call.ex
  refine fnG_mkC F sc_law (fun vs H Q E h => ?_) (fun A outer s H vs Q Ex g hr h => ?_)
  · obtain ⟨_, _, rfl, _⟩ := h
    rfl
  · obtain ⟨a, zs, rfl, ha, tabs, q⟩ := h
    have hr1 : Room 1 _ := hr.mono (by omega)
    have hr2 : Room 2 _ := hr.mono (by omega)
    have hr3 : Room 3 _ := hr.mono (by omega)
    have hr4 : Room 4 _ := hr.mono (by omega)
    have hr5 : Room 5 _ := hr.mono (by omega)
    have g2 : Gu (A.deeper (envOfC "law" (defScope s_law) s.heap.objs.size f (.ref c))) := g
    refine ⟨_, (pss_cons (ps_set (i := 1) sc_law.nd rfl (Or.inr rfl) (pe_call D_source.G hr1 rfl D_source.m D_source.kp D_source.b .nil pass0 (pa_cons (pv 0) pa_nil)))
      (pss_cons (ps_for PassesOwn.never rfl (pi_range1 rfl B.range (pa_cons pe_int pa_nil)) (pg_name (i := 2) sc_law.nd rfl (Or.inl rfl))
      (pss_cons (ps_set (i := 3) sc_law.nd rfl (Or.inr rfl) (pe_call D_many.G hr4 rfl D_many.m D_many.kp D_many.b .nil pass0 (pa_cons (pv 1) (pa_cons pe_int pa_nil))))
      (pss_cons (ps_asg (pe_tup (pa_cons (pe_call D_folk.G hr1 rfl D_folk.m D_folk.kp D_folk.b .nil pass0 (pa_cons (pv 3) pa_nil)) (pa_cons (pe_callB (c_reprD (K := K) hr.units g2) (by rfl) B.repr (by decide +kernel) (pa_cons (pv 3) pa_nil)) pa_nil))) (show PG _ _ (gTup K 2 _) from pg_tup rfl (pgs_cons (pg_name (i := 4) sc_law.nd rfl (Or.inr rfl)) (pgs_cons (pg_name (i := 5) sc_law.nd rfl (Or.inl rfl)) pgs_nil))))
      (pss_cons (ps_for PassesOwn.never rfl (pi_range1 rfl B.range (pa_cons pe_int pa_nil)) (pg_name (i := 6) sc_law.nd rfl (Or.inl rfl))
      (pss_cons (ps_set (i := 7) sc_law.nd rfl (Or.inr rfl) (pe_callTy (c_tuple K) (by rfl) B.tuple (by decide +kernel) (pa_cons (pe_lc (own := [("_law_name", 10)]) (g := gName 10) rfl sc_law.nd (p_list K (pv 4)) (blkOk_by (own := [("_law_name", 10)]) (N := N_law) (sc := defScope s_law) (by decide +kernel)) (fun _ _ _ _ _ => (pg_name (i := 10) sc_law.nd rfl (Or.inl rfl))) (fun _ _ _ _ _ => (pts_one (pt_cmpR op_gt (pe_call D_draw.G hr1 rfl D_draw.m D_draw.kp D_draw.b .nil pass0 (pa_cons (pv 1) (pa_cons pe_int pa_nil))) pe_int (nomark _)))) (fun _ _ _ _ _ => (pv 10))) pa_nil)))
      (pss_cons (ps_set (i := 8) sc_law.nd rfl (Or.inl rfl) (pe_call D_sample.G hr2 rfl D_sample.m D_sample.kp D_sample.b .nil pass0 (pa_cons (pv 1) (pa_cons (pv 4) (pa_cons (pe_callB (call_min2 rfl) (by rfl) B.min (by decide +kernel) (pa_cons (pe_callB (c_len K) (by rfl) B.len (by decide +kernel) (pa_cons (pv 4) pa_nil)) (pa_cons (pe_call D_draw.G hr1 rfl D_draw.m D_draw.kp D_draw.b .nil pass0 (pa_cons (pv 1) (pa_cons pe_int pa_nil))) pa_nil))) pa_nil)))))
      (pss_one (ps_if (pt_cmpR op_ne (pe_callB (c_reprD (K := K) hr.units g2) (by rfl) B.repr (by decide +kernel) (pa_cons (pe_call D_ask.G hr5 rfl D_ask.m D_ask.kp D_ask.b .nil pass0 (pa_cons (pv 3) (pa_cons (pv 7) (pa_cons (pv 8) pa_nil)))) pa_nil)) (pe_callB (c_reprD (K := K) hr.units g2) (by rfl) B.repr (by decide +kernel) (pa_cons (pe_call D_lfirst.G hr3 rfl D_lfirst.m D_lfirst.kp D_lfirst.b .nil pass0 (pa_cons (pv 3) (pa_cons (pv 7) (pa_cons (pv 8) pa_nil)))) pa_nil)) (nomark _)) (pss_one (ps_ret pe_bl)) pss_nil)))))
      (pss_cons (ps_if (pt_cmpR op_ne (pe_callB (c_reprD (K := K) hr.units g2) (by rfl) B.repr (by decide +kernel) (pa_cons (pe_callKW (E := fun _ _ _ => False) GK hr4 rfl D_first.m D_first.kp passF (pk_cons (pv 7) (pk_cons (pv 3) pk_nil))) pa_nil)) (pe_callB (c_reprD (K := K) hr.units g2) (by rfl) B.repr (by decide +kernel) (pa_cons (pe_call D_lfirst.G hr3 rfl D_lfirst.m D_lfirst.kp D_lfirst.b .nil pass0 (pa_cons (pv 3) (pa_cons (pv 7) (pa_cons (pe_lst pa_nil) pa_nil)))) pa_nil)) (nomark _)) (pss_one (ps_ret pe_bl)) pss_nil)
      (pss_cons (ps_set (i := 9) sc_law.nd rfl (Or.inl rfl) (pe_lst (pa_cons (pe_lamcall (T := [(Pt, qL)]) (k := 4) rfl mc F_call.kp lk hcg bcall sc_call rfl (.inl rfl) (gives_callX (k := 3) E hr D_error) TB rfl (List.mem_singleton.mpr rfl) (fun p hp _ => by rw [List.mem_singleton.mp hp]; rfl) hr (lamS_by (by rfl)) rfl (fun _ _ _ _ _ => rfl) (fun A outer s H E f c' hr' => (pe_callP (E := E) D_first.G hr' rfl D_first.m D_first.kp (passes_call (takes_of rfl rfl rfl rfl) (fun _ _ _ _ h => h)) (pa_cons (pv 3) (pa_cons (pe_callTy (c_tuple K) (by rfl) B.tuple (by decide +kernel) (pa_cons (pe_callB (c_srt K hr'.units) (by rfl) B.sorted (by decide +kernel) (pa_cons (pe_op op_cat (pv 4) (pe_lst (pa_cons pe_str pa_nil))) pa_nil)) pa_nil)) (pa_cons pe_str pa_nil)))))) pa_nil)))
      (pss_cons (ps_expr (pe_bm PySem.F.plainAttrs_list PySem.F.slot_list_append PySem.F.type_list_append mt_append (pv 9) (pa_cons (pe_lamcall (T := [(Pt, qL)]) (k := 4) rfl mc F_call.kp lk hcg bcall sc_call rfl (.inl rfl) (gives_callX (k := 3) E hr D_error) TB rfl (List.mem_singleton.mpr rfl) (fun p hp _ => by rw [List.mem_singleton.mp hp]; rfl) hr (lamS_by (by rfl)) rfl (fun _ _ _ _ _ => rfl) (fun A outer s H E f c' hr' => (pe_callP (E := E) D_first.G hr' rfl D_first.m D_first.kp (passes_call (takes_of rfl rfl rfl rfl) (fun _ _ _ _ h => h)) (pa_cons (pv 3) (pa_cons (pv 7) (pa_cons (pe_ix (i_list K) (pv 4) pe_int (fun _ _ => rfl)) (pa_cons pe_str (pa_cons pe_str pa_nil)))))))) pa_nil)))
      (pss_one (ps_if (PW.pt (pw_or (pt_cmpR (o_neD K hr.units) (pv 9) (pe_lst (pa_cons (pe_tup (pa_cons pe_str (pa_cons pe_str pa_nil))) (pa_cons (pe_tup (pa_cons pe_str (pa_cons pe_str pa_nil))) pa_nil))) (nomark _)) (pw_or1 (pt_cmpR op_ne (pe_callB (c_reprD (K := K) hr.units g2) (by rfl) B.repr (by decide +kernel) (pa_cons (pv 3) pa_nil)) (pv 5) (nomark _))))) (pss_one (ps_ret pe_bl)) pss_nil)))))))))
      (pss_one (ps_ret (pe_cmpR (o_eqD K hr.units) (pe_callP (E := fun _ _ _ => False) D_first.G hr4 rfl D_first.m D_first.kp passF (pa_cons (pe_tup (pa_cons (pe_tup (pa_cons pe_str (pa_cons pe_str pa_nil))) (pa_cons (pe_tup (pa_cons pe_str (pa_cons pe_str pa_nil))) (pa_cons (pe_tup (pa_cons pe_str (pa_cons pe_str pa_nil))) pa_nil)))) (pa_cons (pe_tup (pa_cons pe_str (pa_cons pe_str (pa_cons pe_str pa_nil)))) (pa_cons pe_str pa_nil)))) (pe_tup (pa_cons pe_str (pa_cons pe_str pa_nil))) (nomark _)))))), ?_⟩
    refine sq_set ⟨_, rfl, a, zs, rfl, ha, fun r c1 H1 s1 hR => ?_⟩
    refine sq_for ?_
    refine ⟨6, rfl, by decide, by decide, ?_⟩
    refine for_range (lo := 0) (n := (6 : Int).toNat) (fun i σ' H' => ∃ (v2 v3 v4 v5 v6 v7 v8 v9 : Option V), σ' = [some (.ref a), some (.ref r), v2, v3, v4, v5, v6, v7, v8, v9, none] ∧ Rng H' r c1 (3000 * i) ∧ Tabs [(Pt, qL)] H') ⟨none, none, none, none, none, none, none, none, rfl, hR.le (by omega), tabs_same tabs s1⟩ (fun i σ' H2 hi z => ?_) fun σ' H2 z => ?_
    · obtain ⟨v2, v3, v4, v5, v6, v7, v8, v9, rfl, hR2, T2⟩ := z
      have hi6 : i < 6 := by omega
      -- teams
      refine sq_set ⟨_, rfl, r, c1, 3000 * i, rfl, by omega, hR2, fun x ts H3 c3 g3 h3 gt ne => ?_⟩
      have T3 := tabs_ch T2 c3
      have oku : ∀ t ∈ ts, t.length ≤ 8 ∧ ∀ n ∈ t, Cb.okS n := fun t ht => ⟨(gt.each t ht).2.1, fun n hn => ((gt.each t ht).2.2 n hn).cb⟩
      have okp : ∀ (ps os : List Str), ∀ t ∈ pick os (left ts ps), t.length ≤ 8 ∧ ∀ n ∈ t, okS n := fun ps os t ht => ⟨(gt.each t (mem_left ht)).2.1, (gt.each t (mem_left ht)).2.2⟩
      -- the people, the crews as told
      refine ⟨_, rfl, x, ts, rfl, h3, gt, fun F H4 nF e4 hF => ⟨_, rfl, ?_⟩⟩
      refine tnil_go ?_
      show rReprD K [x] H4 _
      have h4 := h3.same e4
      refine repr_niceD (nice_tD oku gt.many) h4.dp ?_
      refine ⟨(by decide : 2 ≤ sizeLine), fun p np => ?_⟩
      have e5 := e4.trans (same_upd (o := .tup [.ref F, .str (tD ts).shown]) np)
      refine ⟨p, _, rfl, st_ upd_same, rfl, _, _, rfl, _, _, rfl, rfl, ?_⟩
      have h5 := h3.same e5
      have hF5 := same_upd (o := .tup [.ref F, .str (tD ts).shown]) np _ _ hF
      have g5 : Rng (upd H4 p (.tup [.ref F, .str (tD ts).shown])) r c1 (3000 * i + 1010) := g3.same e5
      have T5 := tabs_same T3 e5
      generalize upd H4 p (.tup [.ref F, .str (tD ts).shown]) = H5 at h5 hF5 g5 T5 e5
      generalize hbf : (tD ts).shown = bf
      have fm : ∀ n, n ∈ folk ts ↔ n ∈ ts.flatten := fun n => once_mem
      have fp : ∀ n ∈ folk ts, n ∈ pool := fun n hn => by
        obtain ⟨t, ht, hnt⟩ := List.mem_flatten.mp ((fm n).mp hn)
        exact (gt.each t ht).2.2 n hnt
      have fl : (folk ts).length ≤ 6 := by
        refine Classical.byContradiction fun h => ?_
        have e := (perm_of_sub (once_asc ts.flatten).nd fp (show 6 ≤ (folk ts).length by omega)).length_eq
        have e2 : (folk ts).length = 6 := e.symm
        omega
      -- sets of present people
      refine nx_for ?_
      refine ⟨5, rfl, by decide, by decide, ?_⟩
      refine for_range (lo := 0) (n := (5 : Int).toNat) (fun j σ' H' => ∃ (v6 v7 v8 : Option V), σ' = [some (.ref a), some (.ref r), some (.int (0 + i)), some x, some (.ref F), some (.str bf), v6, v7, v8, v9, none] ∧ Ch r H5 H' ∧ Rng H' r c1 (3000 * i + 1010 + 300 * j) ∧ (0 < j → ∃ u ps, v7 = some u ∧ S1 K H' u ps ∧ ∀ n ∈ ps, n ∈ ts.flatten)) ⟨v6, v7, v8, rfl, Ch.refl, g5.le (by omega), fun z => absurd z (by omega)⟩ (fun j σ' H6 hj z => ?_) fun σ' H6 z => ?_
      · obtain ⟨v6, v7, v8, rfl, c6, g6, _⟩ := z
        have hj5 : j < 5 := by omega
        have h6 := c6.s2 h5
        have hF6 := c6.lst hF5
        -- here
        refine sq_set (σ := [some (.ref a), some (.ref r), some (.int (0 + i)), some x, some (.ref F), some (.str bf), some (.int (0 + j)), v7, v8, v9, none]) ?_
        refine tcb1 ?_
        refine lcL_drawX (F := F) (r := r) (c := c1) (ns := folk ts) (d := 3000 * i + 1010 + 300 * j) (fun R hR => ⟨_, rfl, hR⟩) hF6 g6 (by omega) (fun _ => rfl) (fun _ => rfl) (fun xx e Hx cx gx le R hR => ?_) fun D out H7 nD c7 g7 hD hm hl => ?_
        · exact ⟨_, rfl, r, c1, 5, e, rfl, by decide, by decide, by omega, gx, fun z Hy cy gy z0 z1 => ⟨_, _, rfl, rfl, _, rfl, hR _ _ cy gy⟩⟩
        show rTupleOf K [.ref D] H7 _
        refine ⟨D, _, rfl, .inl ⟨sl_ hD, fun t nt => ?_⟩⟩
        have s8 := same_upd (o := .tup (out.map V.str)) nt
        have c68 : Ch r H5 (upd H7 t (.tup (out.map V.str))) := (c6.trans c7).trans (Ch.of s8)
        have g8 : Rng (upd H7 t (.tup (out.map V.str))) r c1 (3000 * i + 1010 + 300 * j + 6) := (g7.same s8).le (by omega)
        have u8 : S1 K (upd H7 t (.tup (out.map V.str))) (.ref t) out := ⟨t, rfl, st_ upd_same⟩
        generalize upd H7 t (.tup (out.map V.str)) = H8 at c68 g8 u8
        have hF8 := c68.lst hF5
        -- ranks
        refine sq_set ⟨_, rfl, _, rfl, _, rfl, F, _, rfl, .inl (sl_ hF8), _, rfl, r, c1, 5, 3000 * i + 1010 + 300 * j + 6, rfl, by decide, by decide, by omega, g8, fun z H9 c9 g9 z0 z1 => ?_⟩
        have hF9 := c9.lst hF8
        obtain ⟨zn, rfl⟩ : ∃ k : Nat, z = (k : Int) := ⟨z.toNat, by omega⟩
        refine ⟨_, _, rfl, ?_⟩
        refine ⟨r, c1, F, 3000 * i + 1010 + 300 * j + 6 + 1, folk ts, (if zn < (folk ts).length then zn else (folk ts).length), ?_, .inl (sl_ hF9), by split <;> omega, by omega, g9, by omega, fun l ou HA nl cA gA hlA ho hm2 => ?_⟩
        · have e : (if (zn : Int) < (((folk ts).map V.str).length : Int) then (zn : Int) else (((folk ts).map V.str).length : Int)) = (((if zn < (folk ts).length then zn else (folk ts).length) : Nat) : Int) := by
            rw [List.length_map]
            by_cases h : zn < (folk ts).length
            · rw [if_pos h, if_pos (by omega)]
            · rw [if_neg h, if_neg (by omega)]
          rw [e]
          rfl
        have o4 : ou.length ≤ 4 := by
          rw [ho]
          split <;> omega
        have c5A : Ch r H5 HA := (c68.trans c9).trans cA
        have hA := c5A.s2 h5
        have uA := cA.s1 (c9.s1 u8)
        have known : ∀ n ∈ out ++ ou, n ∈ ts.flatten := fun n hn => (fm n).mp (by
          rcases List.mem_append.mp hn with h | h
          · exact hm n h
          · exact hm2 n h)
        refine ⟨_, rfl, _, rfl, _, rfl, x, .ref t, l, ts, out, ou, rfl, hA, uA, sl_ hlA, o4, gt, known, fun v1 HB eB hv1 => ?_⟩
        refine tnil_go ?_
        show rReprD K [v1] HB _
        refine repr_first hv1 (okp _ _) ?_
        refine ⟨_, rfl, _, rfl, _, rfl, x, .ref t, l, ts, out, ou, rfl, hA.same eB, uA.same eB, sl_ (eB _ _ hlA), gt, fun v2 HC eC hv2 => ?_⟩
        refine tnil_go ?_
        show rReprD K [v2] HC _
        refine repr_first hv2 (okp _ _) ?_
        refine ⟨rfl, _, rfl, ite2 (fun z => absurd z (by simp)) fun _ => ?_⟩
        have eBC := eB.trans eC
        refine ⟨_, _, _, rfl, c5A.trans (Ch.of eBC), (gA.same eBC).le ?_, fun _ => ⟨.ref t, out, rfl, uA.same eBC, fun n hn => known n (List.mem_append_left _ hn)⟩⟩
        have : (if zn < (folk ts).length then zn else (folk ts).length) ≤ 6 := by split <;> omega
        omega
      · obtain ⟨v6, v7, v8, rfl, c6, g6, hu⟩ := z
        obtain ⟨u, ps, rfl, u6, hps⟩ := hu (by decide)
        have h6 := c6.s2 h5
        have hF6 := c6.lst hF5
        have T6 := tabs_ch T5 c6
        have nob : ∀ n, n ∉ pool → n ∉ ts.flatten := fun n hn z => by
          obtain ⟨t, ht, hnt⟩ := List.mem_flatten.mp z
          exact hn ((gt.each t ht).2.2 n hnt)
        have n1 : ("zzzzzzzy" : Str) ∉ ts.flatten := nob _ (by decide +kernel)
        have n2 : ("nobody" : Str) ∉ ts.flatten := nob _ (by decide +kernel)
        have n3 : ("none" : Str) ∉ ts.flatten := nob _ (by decide +kernel)
        -- by keywords
        refine nx_if ⟨_, rfl, _, rfl, x, u, ts, ps, rfl, h6, gt, u6, hps, fun w1 HB eB hw1 => ?_⟩
        refine tnil_go ?_
        show rReprD K [w1] HB _
        refine repr_first (L := pick [] (left ts ps)) hw1 (okp _ _) ?_
        refine ⟨_, rfl, _, rfl, Nat.zero_le _, fun p0 np0 => ?_⟩
        have sB := eB.trans (same_upd (o := .lst []) np0)
        refine ⟨x, u, p0, ts, ps, [], rfl, h6.same sB, u6.same sB, sl_ upd_same, gt, fun w2 HC eC hw2 => ?_⟩
        refine tnil_go ?_
        show rReprD K [w2] HC _
        refine repr_first hw2 (okp _ _) ?_
        refine ⟨rfl, _, rfl, ite2 (fun z => absurd z (by simp)) fun _ => ?_⟩
        have s6 := sB.trans eC
        have h7 := h6.same s6
        have u7 := u6.same s6
        have hF7 := s6 _ _ hF6
        have g7 := g6.same s6
        have T7 := tabs_same T6 s6
        -- the first error
        refine nx_set ⟨T7, fun H8 x8 T8 => ?_⟩
        have hF8 := xLst x8 hF7
        refine ⟨_, rfl, _, rfl, (by decide : 1 ≤ sizeLine), fun p1 np1 => ?_⟩
        have sp1 := same_upd (o := .lst [.str "zzzzzzzy"]) np1
        refine ⟨F, p1, _, _, rfl, rfl, sp1 _ _ hF8, upd_same, Nat.le_of_lt (big (by rw [List.length_map]; show (folk ts).length + 1 ≤ 100000; omega)), fun p2 np2 => ?_⟩
        have eL : (folk ts).map V.str ++ [V.str "zzzzzzzy"] = (folk ts ++ zL).map V.str := by
          rw [List.map_append]
          rfl
        rw [eL]
        refine tnil_go ?_
        refine srt_any (.inl (sl_ upd_same)) fun p3 np3 => ?_
        refine tnil_go ?_
        refine ⟨p3, _, rfl, .inl ⟨sl_ upd_same, fun p4 np4 => ?_⟩⟩
        have s9 := ((sp1.trans (same_upd (o := .lst ((folk ts ++ zL).map V.str)) np2)).trans (same_upd (o := .lst ((srt (folk ts ++ zL)).map V.str)) np3)).trans (same_upd (o := .tup ((srt (folk ts ++ zL)).map V.str)) np4)
        have m9 : ∀ n, n ∈ srt (folk ts ++ zL) ↔ n ∈ ts.flatten ∨ n = "zzzzzzzy" := fun n => by
          rw [(srt_perm _).mem_iff, List.mem_append, fm n, show (n ∈ zL) = (n ∈ [("zzzzzzzy" : Str)]) from rfl, List.mem_singleton]
        refine ⟨x, .ref p4, ts, srt (folk ts ++ zL), ["nobody"], rfl, by decide, (xS2 x8 h7).same s9, gt, ⟨p4, rfl, st_ upd_same⟩, fun n hb d H' e' hd => ?_, fun hin => (n2 (hin _ (List.mem_append_right _ (List.mem_singleton.mpr rfl)))).elim⟩
        have en : n = "zzzzzzzy" := by
          obtain ⟨pre, post, eq, kn, no⟩ := hb
          rcases last_of eq with ⟨z1, z2⟩ | z1
          · exact (n1 (kn _ (by rw [z1]; exact (m9 _).mpr (.inr rfl)))).elim
          · exact ((m9 n).mp z1).resolve_left no
        subst en
        refine ⟨rfl, d, _, rfl, hd, fun t1 HD eD ht1 => ?_⟩
        refine ⟨(by decide : 1 ≤ sizeLine), fun G nG => ?_⟩
        have x9 : ExtN H6 HD := ((xSame s6).trans x8).trans (xSame ((s9.trans e').trans eD))
        have TD := tabs_same T8 ((s9.trans e').trans eD)
        have xG : ExtN H6 (upd HD G (.lst [.ref t1])) := x9.trans (xSame (same_upd nG))
        -- the second error
        refine ⟨_, rfl, .inl ⟨rfl, _, sl_ upd_same⟩, tabs_same TD (same_upd nG), fun HE xE TE => ?_⟩
        have xE6 : ExtN H6 HE := xG.trans xE
        have hFE := xLst xE6 hF6
        obtain ⟨f0, fr, ef⟩ : ∃ f0 fr, folk ts = f0 :: fr := by
          cases e : folk ts with
          | nil =>
            obtain ⟨t, ts', e2⟩ := List.exists_cons_of_ne_nil ne
            have ht : t ∈ ts := by rw [e2]; exact List.mem_cons_self
            obtain ⟨y, t', e3⟩ := List.exists_cons_of_ne_nil (gt.each t ht).1
            have hy : y ∈ folk ts := (fm y).mpr (List.mem_flatten.mpr ⟨t, ht, by rw [e3]; exact List.mem_cons_self⟩)
            rw [e] at hy
            exact absurd hy (by simp)
          | cons f0 fr => exact ⟨f0, fr, rfl⟩
        have hf0 : f0 ∈ ts.flatten := (fm f0).mp (by rw [ef]; exact List.mem_cons_self)
        refine ⟨_, rfl, _, rfl, _, rfl, F, _, 0, .str f0, rfl, rfl, sl_ hFE, by rw [ef, List.map_cons]; exact at0, ?_⟩
        refine ⟨x, u, ts, ps, [f0, "nobody", "none"], rfl, by show 3 ≤ 8; omega, xS2 xE6 h6, gt, xS1 xE6 u6, fun n hb d2 H' e2' hd2 => ?_, fun hin => (n2 (hin _ (by simp))).elim⟩
        have en : n = "nobody" := by
          obtain ⟨pre, post, eq, kn, no⟩ := hb
          have eq2 : (ps ++ ([f0, "nobody"] : List Str)) ++ ([("none" : Str)] : List Str) = pre ++ n :: post := by rw [← eq]; simp
          rcases last_of eq2 with ⟨z1, z2⟩ | z1
          · exact (n2 (kn _ (by rw [z1]; simp))).elim
          · rcases List.mem_append.mp z1 with z | z
            · exact (no (hps n z)).elim
            · rcases List.mem_cons.mp z with z | z
              · exact (no (by rw [z]; exact hf0)).elim
              · exact List.mem_singleton.mp z
        subst en
        refine ⟨rfl, d2, _, rfl, hd2, fun t2 HI eI ht2 => ?_⟩
        have sEI := e2'.trans eI
        have hGI : HI G = some (.lst [.ref t1]) := sEI _ _ (xLst xE upd_same)
        have ht1I : HI t1 = some (.tup [.str "person", .str "zzzzzzzy"]) := sEI _ _ (xTup xE (same_upd nG _ _ ht1))
        refine ⟨G, _, _, rfl, rfl, hGI, (by decide : 1 < sizeLine), ?_⟩
        have nt1 : t1 ≠ G := fun z => by rw [z, hGI] at ht1I; cases ht1I
        have nt2 : t2 ≠ G := fun z => by rw [z, hGI] at ht2; cases ht2
        have x6I : ExtN H6 HI := xE6.trans (xSame sEI)
        have TI := tabs_same TE sEI
        have x6J : ExtN H6 (upd HI G (.lst ([.ref t1] ++ [.ref t2]))) := fun b o e hn => by
          rw [upd_ne (ne_of_none (x9 b o e hn) nG)]
          exact x6I b o e hn
        have hJ1 : upd HI G (.lst ([.ref t1] ++ [.ref t2])) t1 = some (.tup [.str "person", .str "zzzzzzzy"]) := by rw [upd_ne nt1]; exact ht1I
        have hJ2 : upd HI G (.lst ([.ref t1] ++ [.ref t2])) t2 = some (.tup [.str "person", .str "nobody"]) := by rw [upd_ne nt2]; exact ht2
        have hJG : upd HI G (.lst ([.ref t1] ++ [.ref t2])) G = some (.lst [.ref t1, .ref t2]) := upd_same
        have TJ : Tabs [(Pt, qL)] (upd HI G (.lst ([.ref t1] ++ [.ref t2]))) := tabs_put TI hGI
        generalize upd HI G (.lst ([.ref t1] ++ [.ref t2])) = HJ at x6J hJ1 hJ2 hJG TJ
        -- both are told
        refine nx_if1 ?_
        refine ⟨_, rfl, (by decide : 2 ≤ sizeLine), fun q1 nq1 => ⟨(by decide : 2 ≤ sizeLine), fun q2 nq2 => ⟨(by decide : 2 ≤ sizeLine), fun q3 nq3 => ?_⟩⟩⟩
        have sK := ((same_upd (o := .tup [.str "person", .str "zzzzzzzy"]) nq1).trans (same_upd (o := .tup [.str "person", .str "nobody"]) nq2)).trans (same_upd (o := .lst [.ref q1, .ref q2]) nq3)
        refine ⟨.list [.tuple [.str "person", .str "zzzzzzzy"], .tuple [.str "person", .str "nobody"]], .list [.tuple [.str "person", .str "zzzzzzzy"], .tuple [.str "person", .str "nobody"]], .lst (sl_ (sK _ _ hJG)) (.cons (.tup (st_ (sK _ _ hJ1)) (.cons (.str _) (.cons (.str _) .nil))) (.cons (.tup (st_ (sK _ _ hJ2)) (.cons (.str _) (.cons (.str _) .nil))) .nil)),
          .lst (sl_ upd_same) (.cons (.tup (st_ (same_upd nq3 _ _ (same_upd nq2 _ _ upd_same))) (.cons (.str _) (.cons (.str _) .nil))) (.cons (.tup (st_ (same_upd nq3 _ _ upd_same)) (.cons (.str _) (.cons (.str _) .nil))) .nil)), by decide +kernel, by decide +kernel, _, rfl, ite2 (fun z => absurd z (by decide +kernel)) fun _ => ?_⟩
        have hK := (xS2 x6J h6).same sK
        refine ⟨_, rfl, ?_⟩
        refine tnil_go ?_
        refine repr_niceD (nice_tD oku gt.many) hK.dp ?_
        rw [hbf]
        refine ⟨_, rfl, rfl, _, rfl, ite2 (fun z => absurd z (by simp)) fun _ => ?_⟩
        exact ⟨_, _, _, _, _, _, _, _, rfl, ((Rng.ext x6J g6).same sK).le (by omega), tabs_same TJ sK⟩
    · obtain ⟨v2, v3, v4, v5, v6, v7, v8, v9, rfl, hR2, T2⟩ := z
      refine ⟨(by decide : 2 ≤ sizeLine), fun a1 na1 => ⟨(by decide : 2 ≤ sizeLine), fun a2 na2 => ⟨(by decide : 2 ≤ sizeLine), fun a3 na3 => ⟨(by decide : 3 ≤ sizeLine), fun a4 na4 => ⟨(by decide : 3 ≤ sizeLine), fun a5 na5 => ?_⟩⟩⟩⟩⟩
      have t1 := same_upd (o := .tup [.str "a", .str "b"]) na1
      have t2 := same_upd (o := .tup [.str "a", .str "c"]) na2
      have t3 := same_upd (o := .tup [.str "b", .str "c"]) na3
      have t4 := same_upd (o := .tup [.ref a1, .ref a2, .ref a3]) na4
      have t5 := same_upd (o := .tup [.str "a", .str "b", .str "c"]) na5
      refine ⟨.ref a4, .ref a5, cT, ["a", "b", "c"], ["c"], rfl, by decide, ⟨a4, [.ref a1, .ref a2, .ref a3], rfl, st_ (t5 _ _ upd_same), .cons ⟨a1, rfl, st_ (t5 _ _ (t4 _ _ (t3 _ _ (t2 _ _ upd_same))))⟩ (.cons ⟨a2, rfl, st_ (t5 _ _ (t4 _ _ (t3 _ _ upd_same)))⟩ (.cons ⟨a3, rfl, st_ (t5 _ _ (t4 _ _ upd_same))⟩ .nil))⟩, cT_ok, ⟨a5, rfl, st_ upd_same⟩, fun n hn => (bad_no (by decide +kernel) hn).elim, fun _ v HZ eZ hv => ?_⟩
      rw [cT_pick] at hv
      have hv1 : S1 K HZ v ["a", "c"] := hv
      refine ⟨(by decide : 2 ≤ sizeLine), fun a6 na6 => ?_⟩
      have ev : PyData.eqv (sD ["a", "c"]) (sD ["a", "c"]) = true := by decide +kernel
      refine ⟨sD ["a", "c"], sD ["a", "c"], (hv1.same (same_upd na6)).dp, .tup (st_ upd_same) (.cons (.str _) (.cons (.str _) .nil)), by decide +kernel, by decide +kernel, ?_⟩
      rw [ev]
      exact q _

end
end K50

/-! The end of a law's row where the law holds lambdas and no repr is under way. -/
namespace Cb
open PySem PySem.Spec PyProof.Rows L2 PySem.W LamX
theorem lawGT {P : Program} {w : World} {K : Frag} {mg mb : Str → Option Value} {k : Nat} {fa a c Pt : Addr} {fd : FuncData} {x : Str} {sp : Sp} {s₁ : Shared} {vs : List Value} {ns : List Int}
    (KX : K.In s₁.heap) (hns : s₁.heap.Ns mainGlobals mg) (hb : s₁.heap.Ns builtinsNs mb) (hbb : ∀ x : Str, x ≠ "__name__" → mb x = bootBuiltins x) (hlim : s₁.heap.NoLimit) (hg : s₁.gens = #[])
    (hT : s₁.heap.get? Pt = some (tabObj #[])) (nT : K.lookup Pt = none) (hC : CodeHd s₁.heap c Pt)
    (hbm : ∃ (bm : Addr) (ob : Obj), mg "__builtins__" = some (.ref bm) ∧ bm ≠ builtinsNs ∧ s₁.heap.get? bm = some ob ∧ ob.cls = .type "module" ∧ ob.dict = some builtinsNs ∧ ob.data = .plain)
    (ha : s₁.heap.get? a = some { cls := .type "list", data := .seq vs.toArray }) (hi : IntsAre vs ns) (hl : ns.length ≤ sizeLine) (hr : Room k callerA)
    (F : ∀ base : Heap, K.In base → base.Ns mainGlobals mg → TabB base mg c Pt → FnG P w K mg base k fa fd [x] sp) (hbind : ∀ (s : Shared) (u : Value), BindsTo s fd ⟨[u], []⟩ [(x, u)])
    (hsp : ∀ H : Hp, H Pt = some (.tbl #[]) → SqL K H a (ns.map V.int) → sp [.ref a] H (fun v _ => v = .bl true) fun _ _ _ => False) :
    codeAny (model P w) callerA (.call (.ref fa) ⟨[.ref a], []⟩) (fun r s' => r = .ok (.ret (.bool true)) ∧ OldK s₁.heap s'.heap ∧ s'.os = s₁.os ∧ AllBare s'.gens) s₁ := by
  have aP : a ≠ Pt := fun z => by
    rw [z, hT] at ha
    cases ha
  have main : ∀ H : Hp, H Pt = some (.tbl #[]) → (∀ b, b ≠ Pt → H b = none ∨ (b = a ∧ K.lookup a = none ∧ ∃ o xs, H b = some (.frz o (.lst xs)))) → SqL K H a (ns.map V.int) → HOk P w H s₁.heap →
      codeAny (model P w) callerA (.call (.ref fa) ⟨[.ref a], []⟩) (fun r s' => r = .ok (.ret (.bool true)) ∧ OldK s₁.heap s'.heap ∧ s'.os = s₁.os ∧ AllBare s'.gens) s₁ := by
    intro H hP hO hS hok
    have off : ∀ {b : Addr}, b ≠ a → b ≠ Pt → H b = none := fun {b} n m => (hO b m).resolve_right fun z => n z.1
    -- what is neither the script nor the table stands in the ground
    have stay : ∀ {b : Addr} {o : Obj}, s₁.heap.get? b = some o → o.data ≠ .seq vs.toArray → o.data ≠ .fields #[] → (hidT s₁.heap H).get? b = some o := fun {b o} e d1 d2 =>
      hidT_get e (off (fun z => by rw [z, ha] at e; cases e; exact d1 rfl) fun z => by rw [z, hT] at e; cases e; exact d2 rfl)
    have ns_ : ∀ {b : Addr} {m : Str → Option Value}, s₁.heap.Ns b m → (hidT s₁.heap H).Ns b m := fun {b m} ⟨o, es, ep, e, d, r⟩ => ⟨o, es, ep, stay e (by rw [d]; exact fun z => nomatch z) (by rw [d]; exact fun z => nomatch z), d, r⟩
    have k_ : K.In (hidT s₁.heap H) := fun b o e => hidT_get (KX b o e) (by
      have m : b ≠ Pt := fun z => by rw [z, nT] at e; cases e
      rcases hO b m with z | ⟨z, z2, _⟩
      · exact z
      · rw [z, z2] at e
        cases e)
    have tb : TabB (hidT s₁.heap H) mg c Pt := by
      refine ⟨?_, ?_, fun z => ?_⟩
      · obtain ⟨o, us, file, tf, flags, tg, inF, text, tt, e, cl, dt, v11, rest⟩ := hC
        exact ⟨o, us, file, tf, flags, tg, inF, text, tt, stay e (by rw [dt]; exact fun z => nomatch z) (fun z => by rw [dt] at z; cases z; simp at v11), cl, dt, v11, rest⟩
      · obtain ⟨bm, ob, h1, h2, h3, h4, h5, h6⟩ := hbm
        refine ⟨bm, ob, h1, h2, fun z => ?_, fun z => ?_, stay h3 (by rw [h6]; exact fun z => nomatch z) (by rw [h6]; exact fun z => nomatch z), h4, h5, h6⟩
        · obtain ⟨o, es, ep, e, d, _⟩ := hns
          rw [z, e] at h3
          cases h3
          rw [d] at h6
          cases h6
        · rw [z, hT] at h3
          cases h3
          cases h6
      · obtain ⟨o, es, ep, e, d, _⟩ := hns
        rw [z, hT] at e
        cases e
        cases d
    have e0 : Env0 P w K mg (hidT s₁.heap H) callerA [] s₁ H :=
      ⟨rfl, ⟨k_, ns_ hns, ⟨mb, ns_ hb, hbb⟩, let ⟨mc, h1, h2⟩ := hlim; ⟨mc, ns_ h1, h2⟩⟩, fun b o e => of_hidT e, Nat.le_of_eq (hidT_size _ _), trivial, fun b z => absurd (show b ∈ ([] : List Addr) from z) (by simp), hok, .of_eq hg⟩
    refine codeAny_mono ((F _ k_ (ns_ hns) tb).go callerA [] s₁ H ⟨[.ref a], []⟩ [.ref a] [.ref a] _ _ rfl hr e0 (hbind s₁ (.ref a)) (.cons rfl .nil) (hsp H hP hS)) fun r s' h => ?_
    match r, h with
    | .ok (.ret u), h =>
      obtain ⟨v, H', os, bare, un, hok', r', q⟩ := h
      obtain rfl : v = .bl true := q
      obtain rfl : u = Value.bool true := r'
      have others : ∀ b o, b ≠ Pt → s₁.heap.get? b = some o → s'.heap.get? b = some o := fun b o m e => by
        rcases hO b m with z | ⟨_, _, ob, xs, z⟩
        · exact un.keep b o e z (fun y => absurd (show b ∈ ([] : List Addr) from y) (by simp)) (by simp)
        · have e1 := (hok b _ z).1
          have e2 := (hok' b _ (un.frzs b ob _ z)).1
          rw [e] at e1
          cases e1
          exact e2
      have table : ∃ more : Array Value, s'.heap.get? Pt = some { cls := .none, data := .fields more } := by
        obtain ⟨more, z⟩ := un.tbls Pt #[] hP
        exact ⟨_, hok' Pt _ z⟩
      obtain ⟨more, ht⟩ := table
      refine ⟨rfl, ⟨fun b o e => ?_, fun b o e => ?_⟩, os, bare⟩
      · by_cases m : b = Pt
        · subst m
          rw [hT] at e
          cases e
          exact .inr (.inl ⟨(hC.tab hT).isCodeTable, rfl, #[], more, rfl, by rw [Array.empty_append]; exact ht⟩)
        · exact .inl (others b o m e)
      · by_cases m : b = Pt
        · subst m
          exact ⟨_, ht⟩
        · exact ⟨o, others b o m e⟩
    | .ok .next, h => exact False.elim h
    | .ok .brk, h => exact False.elim h
    | .ok .cont, h => exact False.elim h
    | .error _, h => exact False.elim h
  cases hk : K.lookup a with
  | some o =>
    have e := KX a o hk
    rw [ha] at e
    cases e
    refine main (upd (fun _ => none) Pt (.tbl #[])) upd_same (fun b m => .inl (by rw [upd_ne m])) (.inr ⟨_, vs.toArray, _, hk, rfl, rfl, rfl, by rw [List.size_toArray, hi.length]; exact hl, by simpa using vals_ints hi⟩) fun b u z => ?_
    by_cases m : b = Pt
    · subst m
      rw [upd_same] at z
      cases z
      exact hT
    · rw [upd_ne m] at z
      cases z
  | none =>
    refine main (upd (upd (fun _ => none) Pt (.tbl #[])) a (.frz { cls := .type "list", data := .seq vs.toArray } (.lst (ns.map V.int)))) (by rw [upd_ne (Ne.symm aP)]; exact upd_same) (fun b m => ?_) (.inl (.inr ⟨_, upd_same⟩)) fun b u z => ?_
    · by_cases hb : b = a
      · subst hb
        exact .inr ⟨rfl, hk, _, _, upd_same⟩
      · exact .inl (by rw [upd_ne hb, upd_ne m])
    · by_cases hb : b = a
      · subst hb
        rw [upd_same] at z
        cases z
        exact ⟨ha, by rw [List.length_map]; exact hl, vs, _, vals_ints hi, ha⟩
      · rw [upd_ne hb] at z
        by_cases m : b = Pt
        · subst m
          rw [upd_same] at z
          cases z
          exact hT
        · rw [upd_ne m] at z
          cases z
/-- what is asked of the code object of the law -/
structure CodeK (K : Frag) (c Pt : Addr) : Prop where
  ex : ∃ (dd : Option Addr) (vs : Array Value) (sl : Array (Option Value)) (file : Str) (tf : Tok) (flags : Int) (tg : Tok) (inF : Bool) (text : Int) (tt : Tok), K.lookup c = some ⟨.type "code", dd, .fields vs, sl⟩ ∧ vs[11]? = some (.ref Pt) ∧ vs.getD 11 .none = .ref Pt ∧ vs.getD 18 .none = .str file tf ∧
    vs.getD 7 .none = .int flags tg ∧ vs.getD 9 .none = .bool inF ∧ vs.getD 10 .none = .int text tt
  ne : c ≠ Pt
  off : K.lookup Pt = none
theorem walkGT {l : OpenLaw} {n k : Nat} {q : Program} {loose : List Str} {XP : (Str → Option Value) → Heap → Prop} {YP : World → Heap → Prop} {d : DefRec} {K : Params → Frag} {sp : World → Addr → Sp} {x : Str}
    (hn : l.most = some n) (hn2 : n ≤ sizeLine) (hdf : d.params.defaults = []) (hr : Room k callerA) (hrec : ((recsOf q).any fun e => e.name == d.name) = true) (hY : ∀ (w : World) (h : Heap), YP w h → (K w.params).In h)
    (F : ∀ (w : World) (mg : Str → Option Value) (fa : Addr) (h : Heap), (K w.params).In h → h.Ns mainGlobals mg → mg d.name = some (.ref fa) →
      ∃ (fd : FuncData) (c Pt : Addr) (o : Obj), CodeK (K w.params) c Pt ∧ (K w.params).lookup fa = some o ∧ o.data = .func fd ∧ fd.code = .ref c ∧ (∀ (s : Shared) (u : Value), BindsTo s fd ⟨[u], []⟩ [(x, u)]) ∧ ∀ base : Heap, (K w.params).In base → base.Ns mainGlobals mg → TabB base mg c Pt → FnG l.prog w (K w.params) mg base k fa fd [x] (sp w Pt))
    (hsp : ∀ (w : World) (Pt : Addr) (H : Hp) (a : Addr) (ns : List Int), ns.length ≤ n → H Pt = some (.tbl #[]) → SqL (K w.params) H a (ns.map V.int) → sp w Pt [.ref a] H (fun v _ => v = .bl true) fun _ _ _ => False) :
    WalkO q loose XP YP l.row.toRowW d [] (fun f vs => PySem.call f vs) := by
  refine Att.attach_call hn hdf fun w s₀ s₁ mg mb fa o pm cd doc a vs ns G Y ho hd hcd hmg hobj hints hlen hg => ?_
  have KX := hY w _ Y
  obtain ⟨fd, c, Pt, o1, ⟨⟨dd, us, sl, file, tf, flags, tg, inF, text, tt, lk, v11, g11, g18, g7, g9, g10⟩, ne, off⟩, lf, od, fc, hb, hF⟩ := F w mg fa _ KX G.T.g hmg
  have hc := KX _ _ lk
  have empty : s₁.heap.get? Pt = some (tabObj #[]) := by
    obtain ⟨dL, hm, hnm⟩ := List.any_eq_true.mp hrec
    obtain ⟨a', o', fd', c', P', t1, t2, t3, t4, t5, ⟨oc, vc, e1, _, e3, e4⟩, hP⟩ := G.T.tab dL hm
    rw [beq_iff_eq.mp hnm, hmg] at t1
    cases t1
    have q1 := (KX _ _ lf).symm.trans t2
    cases q1
    rw [od] at t3
    cases t3
    rw [fc] at t4
    cases t4
    rw [hc] at e1
    cases e1
    cases e3
    rw [v11] at e4
    cases e4
    exact hP
  exact lawGT KX G.T.g G.T.b G.T.builtins G.T.nolimit hg empty off ⟨_, us, file, tf, flags, tg, inF, text, tt, hc, rfl, rfl, v11, g11, g18, g7, g9, g10, ne⟩ G.T.bmain hobj hints (Nat.le_trans hlen hn2) hr hF hb fun H hH hS => hsp w Pt H a ns hlen hH hS
end Cb

namespace K50
open PySem PySem.Spec PyProof.Rows L2 PySem.W Cb Evl LamX
theorem kit_ref {K : Frag} {U C : Addr} {b : Bool} (hd : hasDictIn K C = true) (ht : typeIn K (.ref C) = some (.type "type")) (h : subIn K (.ref U) (.ref C) = some b) (hb : U = C → b = true) : kitOne K (.ref U) (.ref C) = some b := by
  unfold kitOne
  by_cases e : U = C
  · subst e
    rw [if_pos (beq_self_eq_true _), hb rfl]
  · rw [if_neg (fun z => e (Value.ref.inj (beq_iff_eq.mp z)))]
    obtain ⟨cd, hc, _⟩ := any_some hd
    have e2 : ((clsIn K C).isSome && typeIn K (.ref C) == some (.type "type")) = true := by rw [hc, ht] <;> rfl
    show (if ((clsIn K C).isSome && typeIn K (.ref C) == some (.type "type")) = true then subIn K (.ref U) (.ref C) else none) = some b
    rw [if_pos e2]
    exact h
theorem kit_self {K : Frag} {U : Addr} : kitOne K (.ref U) (.ref U) = some true := by
  unfold kitOne
  rw [if_pos (beq_self_eq_true _)]
theorem all_mk {P : Program} {w : World} {K : Frag} {h : Heap} {mg : Str → Option Value} {fa : Addr} (X : K.In h) (G : h.Ns mainGlobals mg) (hfa : mg "law" = some (.ref fa))
    {od0 an0 : Option Addr} {sl0 : Array (Option Value)} {oc0 kV0 dc0 pm0 ct0 : Value} {f0 : Addr} {cd0 : Value}
    (a0 : nsIn K mainGlobals "contains" = some (some (.ref f0))) (l0 : K.lookup f0 = some ⟨oc0, od0, .func (fnOf "contains" "contains" (defArgs s_contains) (defBody s_contains) (defScope s_contains) .none kV0 dc0 pm0 an0 (cd0) ct0), sl0⟩) (c0 : codeIn K (cd0) "contains" = true) (k0 : keepIn K (.ref f0) = true)
    {od1 an1 : Option Addr} {sl1 : Array (Option Value)} {oc1 kV1 dc1 pm1 ct1 : Value} {f1 : Addr} {cd1 : Value}
    (a1 : nsIn K mainGlobals "people_of" = some (some (.ref f1))) (l1 : K.lookup f1 = some ⟨oc1, od1, .func (fnOf "people_of" "people_of" (defArgs s_people) (defBody s_people) (defScope s_people) .none kV1 dc1 pm1 an1 (cd1) ct1), sl1⟩) (c1 : codeIn K (cd1) "people_of" = true) (k1 : keepIn K (.ref f1) = true)
    {od2 an2 : Option Addr} {sl2 : Array (Option Value)} {oc2 kV2 dc2 pm2 ct2 : Value} {f2 : Addr} {cd2 : Value}
    (a2 : nsIn K mainGlobals "crews_within" = some (some (.ref f2))) (l2 : K.lookup f2 = some ⟨oc2, od2, .func (fnOf "crews_within" "crews_within" (defArgs s_cwithin) (defBody s_cwithin) (defScope s_cwithin) .none kV2 dc2 pm2 an2 (cd2) ct2), sl2⟩) (c2 : codeIn K (cd2) "crews_within" = true) (k2 : keepIn K (.ref f2) = true)
    {od3 an3 : Option Addr} {sl3 : Array (Option Value)} {oc3 kV3 dc3 pm3 ct3 : Value} {f3 : Addr} {cd3 : Value}
    (a3 : nsIn K mainGlobals "check_people" = some (some (.ref f3))) (l3 : K.lookup f3 = some ⟨oc3, od3, .func (fnOf "check_people" "check_people" (defArgs s_check) (defBody s_check) (defScope s_check) .none kV3 dc3 pm3 an3 (cd3) ct3), sl3⟩) (c3 : codeIn K (cd3) "check_people" = true) (k3 : keepIn K (.ref f3) = true)
    {od4 an4 : Option Addr} {sl4 : Array (Option Value)} {oc4 kV4 dc4 pm4 ct4 : Value} {f4 : Addr} {cd4 : Value}
    (a4 : nsIn K mainGlobals "first_crew" = some (some (.ref f4))) (l4 : K.lookup f4 = some ⟨oc4, od4, .func (fnOf "first_crew" "first_crew" (defArgs s_first) (defBody s_first) (defScope s_first) .none kV4 dc4 pm4 an4 (cd4) ct4), sl4⟩) (c4 : codeIn K (cd4) "first_crew" = true) (k4 : keepIn K (.ref f4) = true)
    {od5 an5 : Option Addr} {sl5 : Array (Option Value)} {oc5 kV5 dc5 pm5 ct5 : Value} {f5 : Addr} {cd5 : Value}
    (a5 : nsIn K mainGlobals "_law_source" = some (some (.ref f5))) (l5 : K.lookup f5 = some ⟨oc5, od5, .func (fnOf "_law_source" "_law_source" (defArgs s_source) (defBody s_source) (defScope s_source) .none kV5 dc5 pm5 an5 (cd5) ct5), sl5⟩) (c5 : codeIn K (cd5) "_law_source" = true) (k5 : keepIn K (.ref f5) = true)
    {od6 an6 : Option Addr} {sl6 : Array (Option Value)} {oc6 kV6 dc6 pm6 ct6 : Value} {f6 : Addr} {cd6 : Value}
    (a6 : nsIn K mainGlobals "_law_draw" = some (some (.ref f6))) (l6 : K.lookup f6 = some ⟨oc6, od6, .func (fnOf "_law_draw" "_law_draw" (defArgs s_draw) (defBody s_draw) (defScope s_draw) .none kV6 dc6 pm6 an6 (cd6) ct6), sl6⟩) (c6 : codeIn K (cd6) "_law_draw" = true) (k6 : keepIn K (.ref f6) = true)
    {od7 an7 : Option Addr} {sl7 : Array (Option Value)} {oc7 kV7 dc7 pm7 ct7 : Value} {f7 : Addr} {cd7 : Value}
    (a7 : nsIn K mainGlobals "_law_sample" = some (some (.ref f7))) (l7 : K.lookup f7 = some ⟨oc7, od7, .func (fnOf "_law_sample" "_law_sample" (defArgs s_sample) (defBody s_sample) (defScope s_sample) .none kV7 dc7 pm7 an7 (cd7) ct7), sl7⟩) (c7 : codeIn K (cd7) "_law_sample" = true) (k7 : keepIn K (.ref f7) = true)
    {od8 an8 : Option Addr} {sl8 : Array (Option Value)} {oc8 kV8 dc8 pm8 ct8 : Value} {f8 : Addr} {cd8 : Value}
    (a8 : nsIn K mainGlobals "_law_make_teams" = some (some (.ref f8))) (l8 : K.lookup f8 = some ⟨oc8, od8, .func (fnOf "_law_make_teams" "_law_make_teams" (defArgs s_teams) (defBody s_teams) (defScope s_teams) .none kV8 dc8 pm8 an8 (cd8) ct8), sl8⟩) (c8 : codeIn K (cd8) "_law_make_teams" = true) (k8 : keepIn K (.ref f8) = true)
    {od9 an9 : Option Addr} {sl9 : Array (Option Value)} {oc9 kV9 dc9 pm9 ct9 : Value} {f9 : Addr} {cd9 : Value}
    (a9 : nsIn K mainGlobals "_law_is_within" = some (some (.ref f9))) (l9 : K.lookup f9 = some ⟨oc9, od9, .func (fnOf "_law_is_within" "_law_is_within" (defArgs s_within) (defBody s_within) (defScope s_within) .none kV9 dc9 pm9 an9 (cd9) ct9), sl9⟩) (c9 : codeIn K (cd9) "_law_is_within" = true) (k9 : keepIn K (.ref f9) = true)
    {od10 an10 : Option Addr} {sl10 : Array (Option Value)} {oc10 kV10 dc10 pm10 ct10 : Value} {f10 : Addr} {cd10 : Value}
    (a10 : nsIn K mainGlobals "_law_make_good" = some (some (.ref f10))) (l10 : K.lookup f10 = some ⟨oc10, od10, .func (fnOf "_law_make_good" "_law_make_good" (defArgs s_mgood) (defBody s_mgood) (defScope s_mgood) .none kV10 dc10 pm10 an10 (cd10) ct10), sl10⟩) (c10 : codeIn K (cd10) "_law_make_good" = true) (k10 : keepIn K (.ref f10) = true)
    {od11 an11 : Option Addr} {sl11 : Array (Option Value)} {oc11 kV11 dc11 pm11 ct11 : Value} {f11 : Addr} {cd11 : Value}
    (a11 : nsIn K mainGlobals "_law_all_sets" = some (some (.ref f11))) (l11 : K.lookup f11 = some ⟨oc11, od11, .func (fnOf "_law_all_sets" "_law_all_sets" (defArgs s_sets) (defBody s_sets) (defScope s_sets) .none kV11 dc11 pm11 an11 (cd11) ct11), sl11⟩) (c11 : codeIn K (cd11) "_law_all_sets" = true) (k11 : keepIn K (.ref f11) = true)
    {od12 an12 : Option Addr} {sl12 : Array (Option Value)} {oc12 kV12 dc12 pm12 ct12 : Value} {f12 : Addr} {cd12 : Value}
    (a12 : nsIn K mainGlobals "_law_folk" = some (some (.ref f12))) (l12 : K.lookup f12 = some ⟨oc12, od12, .func (fnOf "_law_folk" "_law_folk" (defArgs s_lfolk) (defBody s_lfolk) (defScope s_lfolk) .none kV12 dc12 pm12 an12 (cd12) ct12), sl12⟩) (c12 : codeIn K (cd12) "_law_folk" = true) (k12 : keepIn K (.ref f12) = true)
    {od13 an13 : Option Addr} {sl13 : Array (Option Value)} {oc13 kV13 dc13 pm13 ct13 : Value} {f13 : Addr} {cd13 : Value}
    (a13 : nsIn K mainGlobals "_law_fit" = some (some (.ref f13))) (l13 : K.lookup f13 = some ⟨oc13, od13, .func (fnOf "_law_fit" "_law_fit" (defArgs s_lfit) (defBody s_lfit) (defScope s_lfit) .none kV13 dc13 pm13 an13 (cd13) ct13), sl13⟩) (c13 : codeIn K (cd13) "_law_fit" = true) (k13 : keepIn K (.ref f13) = true)
    {od14 an14 : Option Addr} {sl14 : Array (Option Value)} {oc14 kV14 dc14 pm14 ct14 : Value} {f14 : Addr} {cd14 : Value}
    (a14 : nsIn K mainGlobals "_law_make_any" = some (some (.ref f14))) (l14 : K.lookup f14 = some ⟨oc14, od14, .func (fnOf "_law_make_any" "_law_make_any" (defArgs s_many) (defBody s_many) (defScope s_many) .none kV14 dc14 pm14 an14 (cd14) ct14), sl14⟩) (c14 : codeIn K (cd14) "_law_make_any" = true) (k14 : keepIn K (.ref f14) = true)
    {od15 an15 : Option Addr} {sl15 : Array (Option Value)} {oc15 kV15 dc15 pm15 ct15 : Value} {f15 : Addr} {cd15 : Value}
    (a15 : nsIn K mainGlobals "_law_error" = some (some (.ref f15))) (l15 : K.lookup f15 = some ⟨oc15, od15, .func (fnOf "_law_error" "_law_error" (defArgs s_l_error) (defBody s_l_error) (defScope s_l_error) .none kV15 dc15 pm15 an15 (cd15) ct15), sl15⟩) (c15 : codeIn K (cd15) "_law_error" = true) (k15 : keepIn K (.ref f15) = true)
    {od16 an16 : Option Addr} {sl16 : Array (Option Value)} {oc16 kV16 dc16 pm16 ct16 : Value} {f16 : Addr} {cd16 : Value}
    (a16 : nsIn K mainGlobals "_law_call" = some (some (.ref f16))) (l16 : K.lookup f16 = some ⟨oc16, od16, .func (fnOf "_law_call" "_law_call" (defArgs s_call) (defBody s_call) (defScope s_call) .none kV16 dc16 pm16 an16 (cd16) ct16), sl16⟩) (c16 : codeIn K (cd16) "_law_call" = true) (k16 : keepIn K (.ref f16) = true)
    {od17 an17 : Option Addr} {sl17 : Array (Option Value)} {oc17 kV17 dc17 pm17 ct17 : Value} {f17 : Addr} {cd17 : Value}
    (a17 : nsIn K mainGlobals "_law_first" = some (some (.ref f17))) (l17 : K.lookup f17 = some ⟨oc17, od17, .func (fnOf "_law_first" "_law_first" (defArgs s_lfirst) (defBody s_lfirst) (defScope s_lfirst) .none kV17 dc17 pm17 an17 (cd17) ct17), sl17⟩) (c17 : codeIn K (cd17) "_law_first" = true) (k17 : keepIn K (.ref f17) = true)
    {od18 an18 : Option Addr} {sl18 : Array (Option Value)} {oc18 kV18 dc18 pm18 ct18 : Value} {f18 : Addr} {cd18 : Value}
    (a18 : nsIn K mainGlobals "_law_ask" = some (some (.ref f18))) (l18 : K.lookup f18 = some ⟨oc18, od18, .func (fnOf "_law_ask" "_law_ask" (defArgs s_lask) (defBody s_lask) (defScope s_lask) .none kV18 dc18 pm18 an18 (cd18) ct18), sl18⟩) (c18 : codeIn K (cd18) "_law_ask" = true) (k18 : keepIn K (.ref f18) = true)
    {od19 an19 : Option Addr} {sl19 : Array (Option Value)} {oc19 kV19 dc19 pm19 ct19 : Value} {f19 : Addr} {lc : Addr}
    (a19 : nsIn K mainGlobals "law" = some (some (.ref f19))) (l19 : K.lookup f19 = some ⟨oc19, od19, .func (fnOf "law" "law" (defArgs s_law) (defBody s_law) (defScope s_law) .none kV19 dc19 pm19 an19 (.ref lc) ct19), sl19⟩) (c19 : codeIn K (.ref lc) "law" = true) (k19 : keepIn K (.ref f19) = true)
    {IP : Addr} (gIP : nsIn K mainGlobals "InvalidPaper" = some (some (.ref IP))) (hIP : hasDictIn K IP = true) (tIP : typeIn K (.ref IP) = some (.type "type"))
    {PE : Addr} (gPE : nsIn K mainGlobals "PaperError" = some (some (.ref PE))) (hPE : hasDictIn K PE = true) (tPE : typeIn K (.ref PE) = some (.type "type"))
    {TE : Addr} (gTE : nsIn K mainGlobals "TeamError" = some (some (.ref TE))) (hTE : hasDictIn K TE = true) (tTE : typeIn K (.ref TE) = some (.type "type"))
    {TX : Addr} (gTX : nsIn K mainGlobals "TextError" = some (some (.ref TX))) (hTX : hasDictIn K TX = true) (tTX : typeIn K (.ref TX) = some (.type "type"))
    {CC : Addr} (gCC : nsIn K mainGlobals "CrewError" = some (some (.ref CC))) (hCC : hasDictIn K CC = true) (tCC : typeIn K (.ref CC) = some (.type "type"))
    {IE : Addr} (gIE : nsIn K mainGlobals "InvalidEvent" = some (some (.ref IE))) (hIE : hasDictIn K IE = true) (tIE : typeIn K (.ref IE) = some (.type "type"))
    {IR : Addr} (gIR : nsIn K mainGlobals "InvalidRow" = some (some (.ref IR))) (hIR : hasDictIn K IR = true) (tIR : typeIn K (.ref IR) = some (.type "type"))
    {IT : Addr} (gIT : nsIn K mainGlobals "InvalidText" = some (some (.ref IT))) (hIT : hasDictIn K IT = true) (tIT : typeIn K (.ref IT) = some (.type "type"))
    {IW : Addr} (gIW : nsIn K mainGlobals "InvalidWidth" = some (some (.ref IW))) (hIW : hasDictIn K IW = true) (tIW : typeIn K (.ref IW) = some (.type "type"))
    {NU : Addr} (gNU : nsIn K mainGlobals "NothingToUndo" = some (some (.ref NU))) (hNU : hasDictIn K NU = true) (tNU : typeIn K (.ref NU) = some (.type "type"))
    {UP : Addr} (gUP : nsIn K mainGlobals "UnknownPerson" = some (some (.ref UP)))
    {nm q : Str} {N : Addr} {bs bm : List Value} {sn : List Str} {sub : List Value} {ab : Bool} {col : Option Bool} {dd : Option Addr} {m0 m1 m2 m3 m5 : Option Value}
    (xL : K.lookup UP = some (excClassObj nm q UP N bs bm true sn sub ab col dd m0 m1 m2 m3 m5 "ValueError.__new__")) (xM : PySem.HandSPX.refsVE bm = true)
    (sa : findIn K (.ref UP) "__setattr__" = some (some (.builtin "object.__setattr__"))) (ga : findIn K (.ref UP) "__getattribute__" = some (some (.builtin "BaseException.__getattribute__"))) (gg : findIn K (.ref UP) "__getattr__" = some none) (nb : findIn K (.ref UP) "person" = some none)
    {odI anI : Option Addr} {slI : Array (Option Value)} {ocI kVI dcI pmI cdI ctI : Value} {fI : Addr}
    (aI : findIn K (.ref UP) "__init__" = some (some (.ref fI))) (tI : typeIn K (.ref fI) = some (.type "function"))
    (lI : K.lookup fI = some ⟨ocI, odI, .func (fnOf "__init__" "UnknownPerson.__init__" (defArgs s_uinit) (defBody s_uinit) (defScope s_uinit) .none kVI dcI pmI anI cdI ctI), slI⟩) (cI : codeIn K cdI "UnknownPerson.__init__" = true) (kI : keepIn K (.ref fI) = true)
    (kC : keepIn K (.ref UP) = true) (eC : subIn K (.ref UP) (.type "BaseException") = some true) (tC : typeIn K (.ref UP) = some (.type "type")) (hC : hasDictIn K UP = true)
    (haC : findIn K (.ref UP) "__class__" = some (some (.builtin "object.__class__"))) (hnC : specialIn K (.builtin "object.__class__") "__get__" = some (some (.builtin "getset_descriptor.__get__"))) (htC : takesIn K (.builtin "object.__class__") = some true) (hmC : mroIn K UP (.type "object") = some true)
    (eCC : subIn K (.ref CC) (.type "BaseException") = some true)
    (sIP : subIn K (.ref UP) (.ref IP) = some false) (nIP : UP ≠ IP)
    (sPE : subIn K (.ref UP) (.ref PE) = some false) (nPE : UP ≠ PE)
    (sTE : subIn K (.ref UP) (.ref TE) = some true)
    (sTX : subIn K (.ref UP) (.ref TX) = some false) (nTX : UP ≠ TX)
    (sCC : subIn K (.ref UP) (.ref CC) = some true)
    (sIE : subIn K (.ref UP) (.ref IE) = some false) (nIE : UP ≠ IE)
    (sIR : subIn K (.ref UP) (.ref IR) = some false) (nIR : UP ≠ IR)
    (sIT : subIn K (.ref UP) (.ref IT) = some false) (nIT : UP ≠ IT)
    (sIW : subIn K (.ref UP) (.ref IW) = some false) (nIW : UP ≠ IW)
    (sNU : subIn K (.ref UP) (.ref NU) = some false) (nNU : UP ≠ NU)
    (z0 : nsIn K mainGlobals "len" = some none)
    (z1 : nsIn K mainGlobals "list" = some none)
    (z2 : nsIn K mainGlobals "tuple" = some none)
    (z3 : nsIn K mainGlobals "range" = some none)
    (z4 : nsIn K mainGlobals "sorted" = some none)
    (z5 : nsIn K mainGlobals "any" = some none)
    (z6 : nsIn K mainGlobals "all" = some none)
    (z7 : nsIn K mainGlobals "min" = some none)
    (z8 : nsIn K mainGlobals "max" = some none)
    (z9 : nsIn K mainGlobals "repr" = some none)
    (z10 : nsIn K mainGlobals "set" = some none)
    (z11 : nsIn K mainGlobals "isinstance" = some none)
    {Pt : Addr} {ddc : Option Addr} {usc : Array Value} {slc : Array (Option Value)} {file : Str} {tf : Tok} {flags : Int} {tg : Tok} {inF : Bool} {text : Int} {tt : Tok}
    (lc1 : K.lookup lc = some ⟨.type "code", ddc, .fields usc, slc⟩) (v11 : usc[11]? = some (.ref Pt)) (w11 : usc.getD 11 .none = .ref Pt) (w18 : usc.getD 18 .none = .str file tf) (w7 : usc.getD 7 .none = .int flags tg) (w9 : usc.getD 9 .none = .bool inF) (w10 : usc.getD 10 .none = .int text tt)
    (nP : lc ≠ Pt) (off : K.lookup Pt = none) :
    ∃ (fd : FuncData) (c Pt : Addr) (o : Obj), CodeK K c Pt ∧ K.lookup fa = some o ∧ o.data = .func fd ∧ fd.code = .ref c ∧ (∀ (s : Shared) (u : Value), BindsTo s fd ⟨[u], []⟩ [("_law_script", u)]) ∧ ∀ base : Heap, K.In base → base.Ns mainGlobals mg → TabB base mg c Pt → FnG P w K mg base 7 fa fd ["_law_script"] (sp_law K Pt) := by
  have e := hfa.symm.trans (mg_of X G a19)
  cases e
  have F0 := fun_mk (st := s_contains) l0 c0 k0
  have b0 := F0.binds (ps := ["larger", "smaller"]) fun _ _ _ _ _ _ us hl => match us, hl with | [_, _], _ => rfl
  have F1 := fun_mk (st := s_people) l1 c1 k1
  have b1 := F1.binds (ps := ["crews"]) fun _ _ _ _ _ _ us hl => match us, hl with | [_], _ => rfl
  have F2 := fun_mk (st := s_cwithin) l2 c2 k2
  have b2 := F2.binds (ps := ["crews", "people"]) fun _ _ _ _ _ _ us hl => match us, hl with | [_, _], _ => rfl
  have F3 := fun_mk (st := s_check) l3 c3 k3
  have F4 := fun_mk (st := s_first) l4 c4 k4
  have F5 := fun_mk (st := s_source) l5 c5 k5
  have b5 := F5.binds (ps := ["_law_script"]) fun _ _ _ _ _ _ us hl => match us, hl with | [_], _ => rfl
  have F6 := fun_mk (st := s_draw) l6 c6 k6
  have b6 := F6.binds (ps := ["_law_rng", "_law_limit"]) fun _ _ _ _ _ _ us hl => match us, hl with | [_, _], _ => rfl
  have F7 := fun_mk (st := s_sample) l7 c7 k7
  have b7 := F7.binds (ps := ["_law_rng", "_law_pool", "_law_amount"]) fun _ _ _ _ _ _ us hl => match us, hl with | [_, _, _], _ => rfl
  have F8 := fun_mk (st := s_teams) l8 c8 k8
  have b8 := F8.binds (ps := ["_law_rng", "_law_most"]) fun _ _ _ _ _ _ us hl => match us, hl with | [_, _], _ => rfl
  have F9 := fun_mk (st := s_within) l9 c9 k9
  have b9 := F9.binds (ps := ["_law_some", "_law_more"]) fun _ _ _ _ _ _ us hl => match us, hl with | [_, _], _ => rfl
  have F10 := fun_mk (st := s_mgood) l10 c10 k10
  have b10 := F10.binds (ps := ["_law_rng", "_law_most"]) fun _ _ _ _ _ _ us hl => match us, hl with | [_, _], _ => rfl
  have F11 := fun_mk (st := s_sets) l11 c11 k11
  have b11 := F11.binds (ps := ["_law_names_now"]) fun _ _ _ _ _ _ us hl => match us, hl with | [_], _ => rfl
  have F12 := fun_mk (st := s_lfolk) l12 c12 k12
  have b12 := F12.binds (ps := ["_law_teams"]) fun _ _ _ _ _ _ us hl => match us, hl with | [_], _ => rfl
  have F13 := fun_mk (st := s_lfit) l13 c13 k13
  have b13 := F13.binds (ps := ["_law_teams", "_law_here"]) fun _ _ _ _ _ _ us hl => match us, hl with | [_, _], _ => rfl
  have F14 := fun_mk (st := s_many) l14 c14 k14
  have b14 := F14.binds (ps := ["_law_rng", "_law_most"]) fun _ _ _ _ _ _ us hl => match us, hl with | [_, _], _ => rfl
  have F15 := fun_mk (st := s_l_error) l15 c15 k15
  have b15 := F15.binds (ps := ["_law_e"]) fun _ _ _ _ _ _ us hl => match us, hl with | [_], _ => rfl
  have F16 := fun_mk (st := s_call) l16 c16 k16
  have b16 := F16.binds (ps := ["_law_ask_here"]) fun _ _ _ _ _ _ us hl => match us, hl with | [_], _ => rfl
  have F17 := fun_mk (st := s_lfirst) l17 c17 k17
  have b17 := F17.binds (ps := ["_law_teams", "_law_here", "_law_ranks"]) fun _ _ _ _ _ _ us hl => match us, hl with | [_, _, _], _ => rfl
  have F18 := fun_mk (st := s_lask) l18 c18 k18
  have b18 := F18.binds (ps := ["_law_teams", "_law_here", "_law_ranks"]) fun _ _ _ _ _ _ us hl => match us, hl with | [_, _, _], _ => rfl
  have Fi := fun_mk (st := s_uinit) lI cI kI
  have bi := Fi.binds (ps := ["self", "person"]) fun _ _ _ _ _ _ us hl => match us, hl with | [_, _], _ => rfl
  have Bl : Blt mg := ⟨mg_none_of X G z0, mg_none_of X G z1, mg_none_of X G z2, mg_none_of X G z3, mg_none_of X G z4, mg_none_of X G z5, mg_none_of X G z6, mg_none_of X G z7, mg_none_of X G z8, mg_none_of X G z9⟩
  have b_set : mg "set" = none := mg_none_of X G z10
  have T : OexC K UP := ⟨⟨_, _, _, _, _, _, _, _, _, _, _, _, _, _, _, xL, xM⟩, sa, eC, tC, kC⟩
  have kN : ∀ {C : Addr}, hasDictIn K C = true → typeIn K (.ref C) = some (.type "type") → subIn K (.ref UP) (.ref C) = some false → UP ≠ C → kitOne K (.ref UP) (.ref C) = some false := fun h1 h2 h3 h4 => kit_ref h1 h2 h3 fun z => absurd z h4
  let E : ErrF K mg := { isi := mg_none_of X G z11, UP := UP, mUP := mg_of X G gUP, IP := IP, mIP := mg_of X G gIP, PE := PE, mPE := mg_of X G gPE, TE := TE, mTE := mg_of X G gTE, TX := TX, mTX := mg_of X G gTX, CC := CC, mCC := mg_of X G gCC, IE := IE, mIE := mg_of X G gIE, IR := IR, mIR := mg_of X G gIR, IT := IT, mIT := mg_of X G gIT, IW := IW, mIW := mg_of X G gIW, NU := NU, mNU := mg_of X G gNU, exm := exm_ref eCC hCC tCC sCC, ex := ⟨ga, gg, eC, hC, haC, hnC, htC, hmC⟩, xf := ⟨ga, gg, eC, hC⟩, np := nb, kIP := kN hIP tIP sIP nIP, kUP := kit_self, kAny := L2.kitAny_cons (kN hIE tIE sIE nIE) (fun _ => L2.kitAny_cons (kN hIR tIR sIR nIR) (fun _ => L2.kitAny_cons (kN hIT tIT sIT nIT) (fun _ => L2.kitAny_cons (kN hIW tIW sIW nIW) (fun _ => L2.kitAny_cons (kN hNU tNU sNU nNU) (fun _ => rfl) (fun z => nomatch z)) (fun z => nomatch z)) (fun z => nomatch z)) (fun z => nomatch z)) (fun z => nomatch z), kPE := kN hPE tPE sPE nPE, kTE := kit_ref hTE tTE sTE fun _ => rfl, kTX := kN hTX tTX sTX nTX }
  refine ⟨fnOf "law" "law" (defArgs s_law) (defBody s_law) (defScope s_law) .none kV19 dc19 pm19 an19 (.ref lc) ct19, lc, Pt, _, ⟨⟨_, _, _, _, _, _, _, _, _, _, lc1, v11, w11, w18, w7, w9, w10⟩, nP, off⟩, l19, rfl, rfl, fun s v => .of_eq rfl, fun base _ _ TB => ?_⟩
  have FL : FunC K "law" "law" s_law fa _ lc := ⟨⟨_, _, _, _, _, _, _, _, rfl, l19, c19⟩⟩
  let U : MkU P w K mg base UP := { T := T, np := nb, fI := fI, fd := _, iC := aI, tI := tI, F1 := ok_uinit (k := 0) Fi T nb, b := bi, m := mg_of X G gUP }
  let D0 : Own P w K mg base 1 "contains" ["larger", "smaller"] (sp_contains K) := ⟨f0, _, ok_contains F0 Bl, mg_of X G a0, k0, b0⟩
  let D1 : Own P w K mg base 1 "people_of" ["crews"] (sp_people K) := ⟨f1, _, ok_people F1 Bl, mg_of X G a1, k1, b1⟩
  let D2 : Own P w K mg base 2 "crews_within" ["crews", "people"] (sp_cwithin K) := ⟨f2, _, ok_cwithin F2 Bl D0, mg_of X G a2, k2, b2⟩
  let D3 : OwnX P w K mg base 3 "check_people" (sp_check K UP) := ⟨f3, ok_check (k := 0) F3 Bl U D1, mg_of X G a3, k3⟩
  let D4 : OwnX P w K mg base 4 "first_crew" (sp_first K E.UP) := ⟨f4, ok_first (k := 0) F4 D3 D2, mg_of X G a4, k4⟩
  let D5 : Own P w K mg base 1 "_law_source" ["_law_script"] (sp_source K) := ⟨f5, _, ok_source F5 Bl, mg_of X G a5, k5, b5⟩
  let D6 : Own P w K mg base 1 "_law_draw" ["_law_rng", "_law_limit"] sp_draw := ⟨f6, _, ok_draw F6 Bl, mg_of X G a6, k6, b6⟩
  let D7 : Own P w K mg base 2 "_law_sample" ["_law_rng", "_law_pool", "_law_amount"] (sp_sample K) := ⟨f7, _, ok_sample F7 Bl D6, mg_of X G a7, k7, b7⟩
  let D9 : Own P w K mg base 1 "_law_is_within" ["_law_some", "_law_more"] (sp_within K) := ⟨f9, _, ok_within F9, mg_of X G a9, k9, b9⟩
  let D9X : Own P w K mg base 1 "_law_is_within" ["_law_some", "_law_more"] (sp_withinX K) := ⟨f9, _, ok_withinX F9, mg_of X G a9, k9, b9⟩
  let D11 : Own P w K mg base 1 "_law_all_sets" ["_law_names_now"] (sp_sets K) := ⟨f11, _, ok_sets F11 Bl, mg_of X G a11, k11, b11⟩
  let D8 : Own P w K mg base 3 "_law_make_teams" ["_law_rng", "_law_most"] (sp_made 3 5 K) := ⟨f8, _, ok_teams F8 Bl D6 D7 D9, mg_of X G a8, k8, b8⟩
  let D10 : Own P w K mg base 3 "_law_make_good" ["_law_rng", "_law_most"] (sp_made 2 5 K) := ⟨f10, _, ok_mgood F10 Bl D6 D7 D11, mg_of X G a10, k10, b10⟩
  let D14 : Own P w K mg base 4 "_law_make_any" ["_law_rng", "_law_most"] (sp_many K) := ⟨f14, _, ok_many F14 D6 D10 D8, mg_of X G a14, k14, b14⟩
  let D12 : Own P w K mg base 1 "_law_folk" ["_law_teams"] (sp_lfolk K) := ⟨f12, _, ok_lfolk F12 Bl b_set, mg_of X G a12, k12, b12⟩
  let D13 : Own P w K mg base 2 "_law_fit" ["_law_teams", "_law_here"] (sp_lfit K) := ⟨f13, _, ok_lfit F13 D9X, mg_of X G a13, k13, b13⟩
  let D17 : Own P w K mg base 3 "_law_first" ["_law_teams", "_law_here", "_law_ranks"] (sp_lfirst K) := ⟨f17, _, ok_lfirst F17 Bl D13, mg_of X G a17, k17, b17⟩
  let D18 : Own P w K mg base 5 "_law_ask" ["_law_teams", "_law_here", "_law_ranks"] (sp_lask K) := ⟨f18, _, ok_lask (k := 0) F18 Bl D4, mg_of X G a18, k18, b18⟩
  let D15 : Own P w K mg base 1 "_law_error" ["_law_e"] (sp_error K mg E) := ⟨f15, _, ok_error F15 E, mg_of X G a15, k15, b15⟩
  exact ok_law FL Bl TB E F16 (mg_of X G a16) b16 D5 D6 D7 D14 D12 D17 D18 D15 D4 (ok_firstK (k := 0) F4 D3 D2)
end K50

open PySem PySem.W PyProof.Rows
set_option maxHeartbeats 0 in
theorem PySem.Challenge.cw_crewbook_k50_first_crews_found_holds : PySem.Challenge.rw_crewbook_k50_first_crews_found.Holds := by
  w_on; o_law; k_head; (case hw => w_witness2)
  k_fill
  refine Cb.walkGT (l := PySem.Challenge.rw_crewbook_k50_first_crews_found) (n := 63) (k := 7) (x := "_law_script") (sp := fun w Pt => K50.sp_law _ Pt) rfl (by decide) rfl ⟨rfl, by decide, by decide⟩ (by decide +kernel) (fun w h Y => PySem.W.km_in_of Y) ?F (fun _ _ H a ns hl hP hS => ⟨a, ns, rfl, hS, fun p hp => by rw [List.mem_singleton.mp hp]; exact LamX.TabS.nil hP, fun _ => rfl⟩)
  case F =>
    intro w mg fa h KX G hmg
    refine' K50.all_mk KX G hmg ?a0 ?l0 ?c0 ?k0 ?a1 ?l1 ?c1 ?k1 ?a2 ?l2 ?c2 ?k2 ?a3 ?l3 ?c3 ?k3 ?a4 ?l4 ?c4 ?k4 ?a5 ?l5 ?c5 ?k5 ?a6 ?l6 ?c6 ?k6 ?a7 ?l7 ?c7 ?k7 ?a8 ?l8 ?c8 ?k8 ?a9 ?l9 ?c9 ?k9 ?a10 ?l10 ?c10 ?k10 ?a11 ?l11 ?c11 ?k11 ?a12 ?l12 ?c12 ?k12 ?a13 ?l13 ?c13 ?k13 ?a14 ?l14 ?c14 ?k14 ?a15 ?l15 ?c15 ?k15 ?a16 ?l16 ?c16 ?k16 ?a17 ?l17 ?c17 ?k17 ?a18 ?l18 ?c18 ?k18 ?a19 ?l19 ?c19 ?k19 ?gIP ?hIP ?tIP ?gPE ?hPE ?tPE ?gTE ?hTE ?tTE ?gTX ?hTX ?tTX ?gCC ?hCC ?tCC ?gIE ?hIE ?tIE ?gIR ?hIR ?tIR ?gIT ?hIT ?tIT ?gIW ?hIW ?tIW ?gNU ?hNU ?tNU ?gUP ?xL ?xM ?sa ?ga ?gg ?nb ?aI ?tI ?lI ?cI ?kI ?kC ?eC ?tC ?hC ?haC ?hnC ?htC ?hmC ?eCC ?sIP ?nIP ?sPE ?nPE ?sTE ?sTX ?nTX ?sCC ?sIE ?nIE ?sIR ?nIR ?sIT ?nIT ?sIW ?nIW ?sNU ?nNU ?z0 ?z1 ?z2 ?z3 ?z4 ?z5 ?z6 ?z7 ?z8 ?z9 ?z10 ?z11 ?lc1 ?v11 ?w11 ?w18 ?w7 ?w9 ?w10 ?nP ?off
    (case a0 => k_is)
    (case l0 => k_is)
    (case c0 => k_is)
    (case k0 => k_is)
    (case a1 => k_is)
    (case l1 => k_is)
    (case c1 => k_is)
    (case k1 => k_is)
    (case a2 => k_is)
    (case l2 => k_is)
    (case c2 => k_is)
    (case k2 => k_is)
    (case a3 => k_is)
    (case l3 => k_is)
    (case c3 => k_is)
    (case k3 => k_is)
    (case a4 => k_is)
    (case l4 => k_is)
    (case c4 => k_is)
    (case k4 => k_is)
    (case a5 => k_is)
    (case l5 => k_is)
    (case c5 => k_is)
    (case k5 => k_is)
    (case a6 => k_is)
    (case l6 => k_is)
    (case c6 => k_is)
    (case k6 => k_is)
    (case a7 => k_is)
    (case l7 => k_is)
    (case c7 => k_is)
    (case k7 => k_is)
    (case a8 => k_is)
    (case l8 => k_is)
    (case c8 => k_is)
    (case k8 => k_is)
    (case a9 => k_is)
    (case l9 => k_is)
    (case c9 => k_is)
    (case k9 => k_is)
    (case a10 => k_is)
    (case l10 => k_is)
    (case c10 => k_is)
    (case k10 => k_is)
    (case a11 => k_is)
    (case l11 => k_is)
    (case c11 => k_is)
    (case k11 => k_is)
    (case a12 => k_is)
    (case l12 => k_is)
    (case c12 => k_is)
    (case k12 => k_is)
    (case a13 => k_is)
    (case l13 => k_is)
    (case c13 => k_is)
    (case k13 => k_is)
    (case a14 => k_is)
    (case l14 => k_is)
    (case c14 => k_is)
    (case k14 => k_is)
    (case a15 => k_is)
    (case l15 => k_is)
    (case c15 => k_is)
    (case k15 => k_is)
    (case a16 => k_is)
    (case l16 => k_is)
    (case c16 => k_is)
    (case k16 => k_is)
    (case a17 => k_is)
    (case l17 => k_is)
    (case c17 => k_is)
    (case k17 => k_is)
    (case a18 => k_is)
    (case l18 => k_is)
    (case c18 => k_is)
    (case k18 => k_is)
    (case a19 => k_is)
    (case l19 => k_is)
    (case c19 => k_is)
    (case k19 => k_is)
    (case gIP => k_is)
    (case hIP => k_is)
    (case tIP => k_is)
    (case gPE => k_is)
    (case hPE => k_is)
    (case tPE => k_is)
    (case gTE => k_is)
    (case hTE => k_is)
    (case tTE => k_is)
    (case gTX => k_is)
    (case hTX => k_is)
    (case tTX => k_is)
    (case gCC => k_is)
    (case hCC => k_is)
    (case tCC => k_is)
    (case gIE => k_is)
    (case hIE => k_is)
    (case tIE => k_is)
    (case gIR => k_is)
    (case hIR => k_is)
    (case tIR => k_is)
    (case gIT => k_is)
    (case hIT => k_is)
    (case tIT => k_is)
    (case gIW => k_is)
    (case hIW => k_is)
    (case tIW => k_is)
    (case gNU => k_is)
    (case hNU => k_is)
    (case tNU => k_is)
    (case gUP => k_is)
    (case xL => k_is)
    (case xM => first | rfl | decide +kernel)
    (case sa => k_is)
    (case ga => k_is)
    (case gg => k_is)
    (case nb => k_is)
    (case aI => k_is)
    (case tI => k_is)
    (case lI => k_is)
    (case cI => k_is)
    (case kI => k_is)
    (case kC => k_is)
    (case eC => k_is)
    (case tC => k_is)
    (case hC => k_is)
    (case haC => k_is)
    (case hnC => k_is)
    (case htC => k_is)
    (case hmC => k_is)
    (case eCC => k_is)
    (case sIP => k_is)
    (case nIP => first | decide | (intro z; cases z))
    (case sPE => k_is)
    (case nPE => first | decide | (intro z; cases z))
    (case sTE => k_is)
    (case sTX => k_is)
    (case nTX => first | decide | (intro z; cases z))
    (case sCC => k_is)
    (case sIE => k_is)
    (case nIE => first | decide | (intro z; cases z))
    (case sIR => k_is)
    (case nIR => first | decide | (intro z; cases z))
    (case sIT => k_is)
    (case nIT => first | decide | (intro z; cases z))
    (case sIW => k_is)
    (case nIW => first | decide | (intro z; cases z))
    (case sNU => k_is)
    (case nNU => first | decide | (intro z; cases z))
    (case z0 => k_is)
    (case z1 => k_is)
    (case z2 => k_is)
    (case z3 => k_is)
    (case z4 => k_is)
    (case z5 => k_is)
    (case z6 => k_is)
    (case z7 => k_is)
    (case z8 => k_is)
    (case z9 => k_is)
    (case z10 => k_is)
    (case z11 => k_is)
    (case lc1 => k_is)
    (case v11 => first | rfl | k_is)
    (case w11 => first | rfl | k_is)
    (case w18 => first | rfl | k_is)
    (case w7 => first | rfl | k_is)
    (case w9 => first | rfl | k_is)
    (case w10 => first | rfl | k_is)
    (case nP => first | decide | (intro z; cases z))
    (case off => first | rfl | k_is | decide +kernel)
