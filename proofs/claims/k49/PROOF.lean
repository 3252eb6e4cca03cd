import PyProof.Rows.All
import Wide.All
import OpenK.AllK
import Wide.FinOn
import HandS.ForMost
import HandS.TupAny
import HandS.SortKw
import HandS.Deep
import HandS.Wide
import HandS.Defaults
import HandS.Conv
import HandS.Evl
import KE.SortData
import KE.SortKeyHeap
import PyProof.P3In
import HandS.FStrTup
import PySem.Challenge.RW_crewbook_k49_good_crews_told
import KE.KDictKeyed
import HandS.Walk
import HandS.Style
import KE.GoesEnum
import KE.DataAny
import HandS.Words
set_option Elab.async false
set_option linter.all false
set_option maxRecDepth 100000
set_option maxHeartbeats 4000000
/-! Rules that the layer lacks: sorted of data, repr, in over tuples of data. -/
namespace Cb
open PySem PySem.Spec PyProof.Rows L2 PySem.W

/-! ### data that stands in the heap -/
theorem sameT {K : Frag} {H H' : Hp} {a : Addr} {xs : List V} (e : Same H H') (h : SqT K H a xs) : SqT K H' a xs := by
  rcases h with (h | ⟨o, h⟩) | h
  · exact .inl (.inl (e _ _ h))
  · exact .inl (.inr ⟨o, e _ _ h⟩)
  · exact .inr h
mutual
theorem dpSame {K : Frag} {H H' : Hp} (e : Same H H') : ∀ (d : PyData) (v : V), Dp K H v d → Dp K H' v d
  | .none, _, h => by cases h; exact .non
  | .bool _, _, h => by cases h; exact .bl _
  | .int _, _, h => by cases h; exact .int _
  | .str _, _, h => by cases h; exact .str _
  | .list ds, _, h => by
    cases h with
    | lst hs ha => exact .lst (e.seq hs) (dpsSame e ds _ ha)
  | .tuple ds, _, h => by
    cases h with
    | tup hs ha => exact .tup (sameT e hs) (dpsSame e ds _ ha)
  | .dict _, _, h => by cases h
theorem dpsSame {K : Frag} {H H' : Hp} (e : Same H H') : ∀ (ds : List PyData) (vs : List V), DpAll K H vs ds → DpAll K H' vs ds
  | [], _, h => by cases h; exact .nil
  | d :: ds, _, h => by
    cases h with
    | cons h1 h2 => exact .cons (dpSame e d _ h1) (dpsSame e ds _ h2)
end

/-! ### sorted of a list of data -/
theorem each_in {β : Type} (f : β → V) : ∀ {bs : List β} {us : List Value}, Vals (bs.map f) us → EachIs (fun u b => RelV (f b) u) us bs
  | [], us, h => by
    have h' : Vals [] us := h
    cases h'
    exact .nil
  | b :: bs, us, h => by
    have h' : Vals (f b :: bs.map f) us := h
    cases h' with
    | cons r t => exact .cons r (each_in f t)
theorem each_out {β : Type} (f : β → V) : ∀ {bs : List β} {us : List Value}, EachIs (fun u b => RelV (f b) u) us bs → Vals (bs.map f) us
  | _, _, .nil => .nil
  | _, _, .cons r t => .cons r (each_out f t)
theorem each_and {β γ : Type} {R S : γ → β → Prop} : ∀ {us : List γ} {bs : List β}, EachIs R us bs → (∀ u b, b ∈ bs → R u b → S u b) → EachIs S us bs
  | _, _, .nil, _ => .nil
  | _, _, .cons r t, f => .cons (f _ _ List.mem_cons_self r) (each_and t fun u b hb => f u b (List.mem_cons_of_mem _ hb))
/-! ### sorted of a tuple -/
section
variable {prog : Program} {w : World} {A : Around} {E : Value → Shared → Prop} {s : Shared}
theorem collect_tup {l : Addr} {vs : List Value} {Q : List Value → Shared → Prop} (hl : IsTup s.heap l vs.toArray) (hz : vs.length ≤ sizeLine) (h : Q vs { s with heap := (s.heap.push (seqObj "list" #[] 0)).update s.heap.objs.size (Obj.mapSeq (· ++ vs.toArray)) }) :
    wpAny (model prog w) A (collect (.ref l)) Q E s := by
  obtain ⟨o, ho, hc, n, hd⟩ := id hl
  have h1 : (s.heap.push (seqObj "list" #[] 0)).get? l = some o := Heap.get?_push_of_some _ ho
  have h2 : (s.heap.push (seqObj "list" #[] 0)).get? s.heap.objs.size = some (seqObj "list" #[] 0) := Heap.get?_push_size _ rfl
  have tt : (Value.type "tuple" == Value.type "tuple") = true := by rfl
  unfold collect
  refine wpAny_bind (wpAny_runValue (codeAny_builtin entry_proto_collect' ?_))
  show wpAny _ _ (newList [] >>= fun b => again (.builtin "list.__iadd__" ⟨[b, .ref l], []⟩)) _ _ s
  refine wpAny_bind (wpAny_newList (wpAny_pure ⟨Code.quiet_builtin _ (by decide +kernel), codeAny_builtin entry_list_iadd' ?_⟩))
  show wpAny _ _ (Builtin.List.listExtendWith (.ref s.heap.objs.size) (.ref l) (.ref s.heap.objs.size)) _ _ { s with heap := s.heap.push (seqObj "list" #[] 0) }
  unfold Builtin.List.listExtendWith
  refine wpAny_bind (wpAny_typeOf (T := "tuple") ⟨o, h1, hc⟩ ?_)
  rw [if_pos (by rw [tt]; simp)]
  refine wpAny_bind (listItems_at h1 hd (wpAny_bind (listItems_at h2 rfl ?_)))
  rw [if_neg (by simp)]
  refine wpAny_bind (listUpdate_at h2 rfl (wpAny_pure ?_) (Nat.zero_le _) (by rw [Array.size_append, List.size_toArray]; simp only [List.size_toArray, List.length_nil]; omega))
  refine wpAny_bind (wpAny_load (get?_update_seq h2 _) ?_)
  show wpAny _ _ (pure ((#[] : Array Value) ++ vs.toArray).toList) Q E _
  have e : ((#[] : Array Value) ++ vs.toArray).toList = vs := by simp
  rw [e]
  exact wpAny_pure h
theorem sortedT_data {β : Type} {R : Value → β → Prop} {enc : β → PyData} {vs : List Value} {bs : List β} {l : Addr} {Q : Value → Shared → Prop} (hl : IsTup s.heap l vs.toArray) (e : EachIs R vs bs) (er : EachIs (fun v b => ∃ as, Reads s.heap v (enc b) as) vs bs)
    (hal : AllAlike (bs.map enc)) (hk : Sortable (bs.map enc)) (hL : bs.length ≤ sizeLine) (hu : ∀ b, b ∈ bs → A.units + 2 + (enc b).depth < cLine)
    (h : ∀ out, out.length = bs.length → EachIs R out (bs.mergeSort (dataLe false enc)) → Q (.ref (s.heap.objs.size + 1)) { s with heap := sortedAll s.heap vs (List.toArray out) }) : wpAny (model prog w) A (call (.builtin "sorted") [.ref l]) Q E s := by
  have hv : vs.length ≤ sizeLine := by rw [e.length]; exact hL
  have er' : EachIs (fun v b => ∃ as, Reads (sortingHeap (copyHeap s.heap vs) (s.heap.objs.size + 1) vs) v (enc b) as) vs bs := er.mono fun _ _ ⟨as, r⟩ => ⟨as, PyProof.Rows.Reads.keeps (fun _ _ => sorting_copy_old) r⟩
  refine call_function_entry_kw kind_sorted plain_sorted entry_sorted (args_sorted1 _) ?_
  unfold Builtin.«sorted»
  refine wpAny_bind (m := checkCount "sorted" 1 1 _) (wpAny_pure (wpAny_bind (collect_tup hl hv (wpAny_bind (wpAny_newList ?_ hv)))))
  have sz : ((s.heap.push (seqObj "list" #[] 0)).update s.heap.objs.size (Obj.mapSeq (· ++ vs.toArray))).objs.size = s.heap.objs.size + 1 := by rw [Heap.size_update, size_push']
  show wpAny _ _ _ _ _ { s with heap := copyHeap s.heap vs }
  rw [sz]
  refine wpAny_bind (wpAny_holding (wpAny_call_entry_kw slot_list_sort ⟨_, copyHeap_at s.heap vs, rfl⟩ entry_list_sort ?_ (args_list_sort _)))
  refine list_sort_vals (s := { s with heap := copyHeap s.heap vs }) (copyHeap_at s.heap vs)
    (SortsAt.data (s := { s with heap := sortingHeap (copyHeap s.heap vs) (s.heap.objs.size + 1) vs }) (each_map (R := fun v d => ∃ as, Reads (sortingHeap (copyHeap s.heap vs) (s.heap.objs.size + 1) vs) v d as) enc er') hal hk (bound_map hu)) hv ?_
  exact ⟨_, rfl, wpAny_pure ⟨_, rfl, h _ (by rw [sortVals_length false rfl]; exact e.length) (sortVals_data false e er' hal)⟩⟩
end
/-- values with the data they stand for, in order -/
abbrev ordD (bs : List (V × PyData)) : List (V × PyData) := bs.mergeSort (dataLe false fun b : V × PyData => b.2)
def rSrt (K : Frag) : List V → Hp → VK → Prop := fun vs H Q => ∃ (a : Addr) (bs : List (V × PyData)), vs = [.ref a] ∧ (SqL K H a (bs.map (·.1)) ∨ SqT K H a (bs.map (·.1))) ∧ (∀ b ∈ bs, Dp K H b.1 b.2) ∧ AllAlike (bs.map (·.2)) ∧ Sortable (bs.map (·.2)) ∧
  (∀ b ∈ bs, b.2.depth ≤ 50) ∧ ∀ p, H p = none → Q (.ref p) (upd H p (.lst ((ordD bs).map (·.1))))
section
variable {X : Cx}
theorem cr_srt (hu : X.A.units + 64 < cLine) : CallR X (.builtin "sorted") (rSrt X.K) := by
  intro pins s σ H vs us Q I r h
  obtain ⟨a, bs, rfl, hs, hd, hal, hk, hdp, q⟩ := h
  rw [Vals.ref1 r]
  have fin : ∀ its : List Value, Vals (bs.map (·.1)) its → (bs.map (·.1)).length ≤ sizeLine → ∀ out : List Value, EachIs (fun u b => RelV b.1 u) out (ordD bs) →
      EP X pins σ Q (.ref (s.heap.objs.size + 1)) { s with heap := sortedAll s.heap its (List.toArray out) } := fun its rv hz out h2 => by
    have ro := each_out (fun b : V × PyData => b.1) h2
    obtain ⟨ep, he'⟩ := PyProof.Rows.sortedAll_at s.heap its out.toArray
    have hl2 : ((ordD bs).map (·.1)).length ≤ sizeLine := by
      rw [List.length_map, List.length_mergeSort, ← List.length_map (f := (·.1))]
      exact hz
    exact ⟨.ref _, upd H (s.heap.objs.size + 1) (.lst ((ordD bs).map (·.1))), I.laid (t' := s.toks) (fun _ _ => PyProof.Rows.sortedAll_old) (Nat.le_succ _) ⟨hl2, out, ep, ro, by simpa using he'⟩, rfl, q _ (I.hok.fresh (Nat.le_succ _))⟩
  rcases hs with hs | hs
  · obtain ⟨its, rv, hl, hz⟩ := I.list hs
    have e0 := each_in (fun b : V × PyData => b.1) rv
    exact sorted_data (enc := fun b : V × PyData => b.2) hl.isList e0 (each_and e0 fun u b hb r => Dp.reads I b.2 b.1 u (hd b hb) r) hal hk (by rw [List.length_map] at hz; exact hz) (fun b hb => by have := hdp b hb; omega) fun out h1 h2 => fin its rv hz out h2
  · obtain ⟨its, rv, hl, hz⟩ := I.tuple hs
    have e0 := each_in (fun b : V × PyData => b.1) rv
    exact sortedT_data (enc := fun b : V × PyData => b.2) hl e0 (each_and e0 fun u b hb r => Dp.reads I b.2 b.1 u (hd b hb) r) hal hk (by rw [List.length_map] at hz; exact hz) (fun b hb => by have := hdp b hb; omega) fun out h1 h2 => fin its rv hz out h2

/-! ### repr -/
def rRepr (K : Frag) : List V → Hp → VK → Prop := fun vs H Q => ∃ (a : Addr) (d : PyData), vs = [.ref a] ∧ Dp K H (.ref a) d ∧ d.showable = true ∧ d.hasDict = false ∧ d.depth ≤ 50 ∧ d.shown.length ≤ sizeLine ∧ Q (.str d.shown) H
theorem guards0 {k : Nat} {A : Around} (hr : Room k A) (h : A.guards = some []) : A.guards = some [] := h
theorem cr_repr (hu : X.A.units + 64 < cLine) (hg : X.A.guards = some []) : CallR X (.builtin "repr") (rRepr X.K) := by
  intro pins s σ H vs us Q I r h
  obtain ⟨a, d, rfl, hd, hs, hn, hdp, hz, q⟩ := h
  rw [Vals.ref1 r]
  obtain ⟨as, rd⟩ := Dp.reads I d (.ref a) (.ref a) hd rfl
  exact repr_of_reads' rd hs (PyData.noDict_hsm hn) hg (by omega) (fun _ _ e => e) (fun h' u tk hk => ⟨.str d.shown, H, I.kept hk, ⟨_, rfl⟩, q⟩) hz
theorem cr_reprB : CallR X (.builtin "repr") (fun vs H Q => ∃ b : Bool, vs = [.bl b] ∧ Q (.str (if b then "True" else "False")) H) := by
  intro pins s σ H vs us Q I r h
  obtain ⟨b, rfl, q⟩ := h
  obtain ⟨u, rfl, e⟩ := vals1 r
  obtain rfl : u = Value.bool b := e
  exact PySem.P.repr_of_bool ⟨.str _, H, I.tok _, ⟨_, rfl⟩, q⟩

/-! ### x in t, t a tuple of data -/
def rInT (K : Frag) : R2 := fun x y H Q => ∃ d ds, Dp K H x d ∧ Dp K H y (.tuple ds) ∧ SeqAt.shaped d = true ∧ SeqAt.shaped (.list ds) = true ∧ Q (.bl (ds.any fun z => PyData.eqv z d)) H
theorem op_inT (hu : X.A.units + 65 < cLine) : OpR X (compareOp .In) (rInT X.K) := by
  intro pins s σ H x y v u Q I rx ry h
  obtain ⟨d, ds, hd, he, sd, se, q⟩ := h
  obtain ⟨as, r1⟩ := Dp.reads I d x v hd rx
  obtain ⟨bs, r2⟩ := Dp.reads I (.tuple ds) y u he ry
  exact SeqAt.in_tuple_reads r2 r1 (SeqAt.canLay_of_shaped se) (SeqAt.canLay_of_shaped sd) (room_in_shaped sd hu) ⟨.bl _, H, I, rfl, q⟩
end


end Cb

/-! Defs that are called where no repr is under way. -/
namespace Cb
open PySem PySem.Spec PyProof.Rows L2 PySem.W
/-- nothing stands around that a repr would meet again -/
def Gu (A : Around) : Prop := A.guards = some []
structure FnG (P : Program) (w : World) (K : Frag) (mg : Str → Option Value) (base : Heap) (k : Nat) (f : Addr) (fd : FuncData) (ps : List Str) (sp : Sp) : Prop where
  ln : ∀ vs H Q E, sp vs H Q E → vs.length = ps.length
  go : ∀ (A : Around) (out : List Env) (s : Shared) (H : Hp) (ar : Args) (us : List Value) (vs : List V) (Q : VK) (E : XK), Gu A → Room k A → Env0 P w K mg base A out s H →
    BindsTo s fd ar (ps.zip us) → Vals vs us → sp vs H Q E → codeAny (model P w) A (.call (.ref f) ar) (CR CX0 out P w H s Q E) s
theorem FnG.of {P : Program} {w : World} {K : Frag} {mg : Str → Option Value} {base : Heap} {k : Nat} {f : Addr} {fd : FuncData} {ps : List Str} {sp : Sp} (F : FnOk P w K mg base CX0 k f fd ps sp) : FnG P w K mg base k f fd ps sp :=
  ⟨F.len, fun A out s H ar us vs Q E _ hr => F.run A out s H ar us vs Q E hr⟩
theorem FnG.up {P : Program} {w : World} {K : Frag} {mg : Str → Option Value} {base : Heap} {j k : Nat} {f : Addr} {fd : FuncData} {ps : List Str} {sp : Sp} (F : FnG P w K mg base j f fd ps sp) (h : j ≤ k) : FnG P w K mg base k f fd ps sp :=
  ⟨F.ln, fun A out s H ar us vs Q E g hr => F.go A out s H ar us vs Q E g (hr.mono h)⟩
section
variable {P : Program} {w : World} {K : Frag} {mg : Str → Option Value} {base : Heap}
/-- a def's body, with that said of what stands around -/
theorem fnG_mk {x q : Str} {st : Stmt} {f : Addr} {fd : FuncData} {N ps : List Str} {k : Nat} {sp : Sp} (F : Fun K x q st f fd) (S : FnScope N ps (defScope st)) (ln : ∀ vs H Q E, sp vs H Q E → vs.length = ps.length)
    (hb : ∀ (cdv : Value) (A : Around) (out : List Env) (s : Shared) (H : Hp) (vs : List V) (Q : VK) (E : XK), Gu A → Room k (A.deeper (envOfC q (defScope st) s.heap.objs.size f cdv)) → sp vs H Q E →
      ∃ t, PSs (cxOf CX0 P w K mg base N q (defScope st) f cdv A out s H E).nox (defBody st) t ∧ t { nx := fun _ H' => Q .non H', rt := Q } (start N vs) H) : FnG P w K mg base (k + 1) f fd ps sp := by
  obtain ⟨oc, od, kV, doc, pm, an, cdv, ct, osl, rfl, lk, hcd⟩ := F.ex
  refine ⟨ln, fun A out s H ar us vs Q E g hr e0 hbi r hsp => ?_⟩
  -- the promise of this one entry, as if it were made for all
  have one : ∀ (B : Around) (o2 : List Env) (s2 : Shared) (H2 : Hp) (v2 : List V) (Q2 : VK) (E2 : XK), Room k (B.deeper (envOfC q (defScope st) s2.heap.objs.size f cdv)) → (Gu B ∧ sp v2 H2 Q2 E2) →
      ∃ t, PSs (cxOf CX0 P w K mg base N q (defScope st) f cdv B o2 s2 H2 E2) (defBody st) t ∧ t { nx := fun _ H' => Q2 .non H', rt := Q2 } (start N v2) H2 := fun B o2 s2 H2 v2 Q2 E2 hr2 h2 => by
    obtain ⟨t, h, z⟩ := hb cdv B o2 s2 H2 v2 Q2 E2 h2.1 hr2 h2.2
    exact ⟨t, h.nox, z⟩
  have hl := ln _ _ _ _ hsp
  have KX : K.In s.heap := e0.mod.kin.keeps fun b o e => (e0.bs b o e).1
  have lim : s.heap.NoLimit := e0.mod.nolimit.keeps fun b o e => (e0.bs b o e).1
  refine codeAny_call_function hr.depth (KX _ _ lk) rfl S.co S.gen rfl (codeRec_of KX hcd) (hbi _ _ _ _ ?_)
  refine wpAny_newFunctionEnv_cells S.kind (fun ⟨n, v⟩ hy => ?_) fun env he s1 x => ?_
  · rcases S.par n (List.of_mem_zip hy).1 with z | z
    · exact .inl z
    · exact .inr ⟨z, cellsFrom_some _ _ _ (.inl z)⟩
  · subst he
    refine ⟨lim.keeps x.toInCall.keep, codeAny_func ?_⟩
    obtain ⟨t, ht, hq⟩ := one A out s H vs Q E (hr.deeper _) ⟨g, hsp⟩
    refine wpAny_mono (ht.run [] s1 (start N vs) H _ (inv_start S hr.hd e0 hl r x) hq) (fun fl s' hs => ?_) fun e s' hs => hs
    cases fl with
    | ret u => exact let ⟨v, _, H', J, rv, z⟩ := hs; ⟨v, H', J.os, J.bare, J.base, J.hok, rv, z⟩
    | next => exact let ⟨_, H', J, z⟩ := hs; ⟨V.non, H', J.os, J.bare, J.base, J.hok, rfl, z⟩
    | brk => exact let ⟨_, _, _, z⟩ := hs; False.elim z
    | cont => exact let ⟨_, _, _, z⟩ := hs; False.elim z
end
section
variable {X : Cx} {k : Nat} {f : Addr} {fd : FuncData} {ps : List Str} {sp : Sp} {x : Str} {p pos : Pos} {e : Expr} {es : List Expr} {t : TA}
theorem runG {pins : List (Addr × Obj)} {σ : L2.St} {H : Hp} {s : Shared} {Q : VK} {us : List Value} {vs : List V} (F : FnG X.prog X.w X.K X.mg X.base k f fd ps sp) (g : Gu X.A) (hr : Room k X.A) (hb : Binds X.K fd ps []) (I : Inv X pins σ H s) (r : Vals vs us)
    (h : sp vs H Q E0) : wpAny (model X.prog X.w) X.A (call (.ref f) us) (EP X pins σ Q) X.xe s := by
  have hl : (us ++ ([] : List Value)).length = ps.length := by rw [List.append_nil, ← r.length]; exact F.ln _ _ _ _ h
  have hz := hb s us I.kIn hl
  rw [List.append_nil] at hz
  refine wpAny_call (codeAny_mono (F.go X.A X.stack s H ⟨us, []⟩ us vs Q E0 g hr I.env0 hz r h) fun z s' hq => ?_)
  match z, hq with
  | .ok (.ret u), hq => exact I.after hq
  | .ok .next, hq => exact False.elim hq
  | .ok .brk, hq => exact False.elim hq
  | .ok .cont, hq => exact False.elim hq
  | .error _, hq => exact False.elim hq
/-- f(e, ..) of such a def -/
theorem pe_callG (F : FnG X.prog X.w X.K X.mg X.base k f fd ps sp) (g : Gu X.A) (hr : Room k X.A) (hg : Gl X x) (hm : X.mg x = some (.ref f)) (hk : keepIn X.K (.ref f) = true) (hb : Binds X.K fd ps [])
    (ha : PA X (e :: es) t) (hdb : (x == ("__debug__" : Str)) = false := by decide) (he : starEach (e :: es) X.env = (false, eval e X.env) :: starEach es X.env := by rfl) (hpl : (backTo pos (starEach es X.env)).any (·.1) = false := by rfl) :
    PE X (.Call (.Name x p) (e :: es) [] pos) (tCall sp [] E0 t) := by
  refine ⟨fun pins s σ H Q I h => wpAny_Call_Name_kw (ld_glob I hg hm ?_ hdb)⟩
  refine callWith_K (h₀ := X.base) I.ok.mod.kin hk (thn (ha.run pos pins s σ H _ I h) fun us s1 ⟨vs, H1, I1, r, q⟩ => ⟨I1.kIn, ?_⟩) he hpl
  have q1 : sp (vs ++ []) H1 Q E0 := q
  rw [List.append_nil] at q1
  exact runG F g hr hb I1 r q1
end

/-! ### the end of a law's row -/
theorem lawG {P : Program} {w : World} {K : Frag} {mg mb : Str → Option Value} {k : Nat} {fa a : Addr} {fd : FuncData} {x : Str} {sp : Sp} {s₁ : Shared} {vs : List Value} {ns : List Int}
    (KX : K.In s₁.heap) (hns : s₁.heap.Ns mainGlobals mg) (hb : s₁.heap.Ns builtinsNs mb) (hbb : ∀ x : Str, x ≠ "__name__" → mb x = bootBuiltins x) (hlim : s₁.heap.NoLimit) (hg : s₁.gens = #[])
    (ha : s₁.heap.get? a = some { cls := .type "list", data := .seq vs.toArray }) (hi : IntsAre vs ns) (hl : ns.length ≤ sizeLine) (hr : Room k callerA)
    (F : ∀ base : Heap, K.In base → base.Ns mainGlobals mg → FnG P w K mg base k fa fd [x] sp) (hbind : ∀ (s : Shared) (u : Value), BindsTo s fd ⟨[u], []⟩ [(x, u)])
    (hsp : ∀ H : Hp, Only H → SqL K H a (ns.map V.int) → sp [.ref a] H (fun v _ => v = .bl true) fun _ _ _ => False) :
    codeAny (model P w) callerA (.call (.ref fa) ⟨[.ref a], []⟩) (fun r s' => r = .ok (.ret (.bool true)) ∧ OldK s₁.heap s'.heap ∧ s'.os = s₁.os ∧ AllBare s'.gens) s₁ := by
  have main : ∀ H : Hp, Only H → SqL K H a (ns.map V.int) → HOk P w H s₁.heap → (∀ b, H b ≠ none → b = a ∧ K.lookup a = none) →
      codeAny (model P w) callerA (.call (.ref fa) ⟨[.ref a], []⟩) (fun r s' => r = .ok (.ret (.bool true)) ∧ OldK s₁.heap s'.heap ∧ s'.os = s₁.os ∧ AllBare s'.gens) s₁ := by
    intro H hO hS hok hA
    have off : ∀ {b : Addr}, b ≠ a → H b = none := fun {b} n => Classical.byContradiction fun z => n (hA b z).1
    have dict_off : ∀ {b : Addr} {o : Obj} {es : Array DictEntry} {ep : Nat}, s₁.heap.get? b = some o → o.data = .dict es ep → b ≠ a := fun {b o es ep} e d z => by
      subst z
      rw [ha] at e
      cases e
      exact nomatch (show Data.seq vs.toArray _ = Data.dict es ep from d)
    have ns_ : ∀ {b : Addr} {m : Str → Option Value}, s₁.heap.Ns b m → (hidT s₁.heap H).Ns b m := fun {b m} ⟨o, es, ep, e, d, r⟩ => ⟨o, es, ep, hidT_get e (off (dict_off e d)), d, r⟩
    have k_ : K.In (hidT s₁.heap H) := fun b o e => hidT_get (KX b o e) (Classical.byContradiction fun z => by
      obtain ⟨z1, z2⟩ := hA b z
      rw [z1, z2] at e
      cases e)
    have e0 : Env0 P w K mg (hidT s₁.heap H) callerA [] s₁ H :=
      ⟨rfl, ⟨k_, ns_ hns, ⟨mb, ns_ hb, hbb⟩, let ⟨mc, h1, h2⟩ := hlim; ⟨mc, ns_ h1, h2⟩⟩, fun b o e => of_hidT e, Nat.le_of_eq (hidT_size _ _), trivial, fun b z => absurd (show b ∈ ([] : List Addr) from z) (by simp), hok, .of_eq hg⟩
    refine codeAny_mono ((F _ k_ (ns_ hns)).go callerA [] s₁ H ⟨[.ref a], []⟩ [.ref a] [.ref a] _ _ rfl hr e0 (hbind s₁ (.ref a)) (.cons rfl .nil) (hsp H hO hS)) fun r s' h => ?_
    match r, h with
    | .ok (.ret u), h =>
      obtain ⟨v, H', os, bare, un, hok', r', q⟩ := h
      obtain rfl : v = .bl true := q
      obtain rfl : u = Value.bool true := r'
      refine ⟨rfl, OldK.of_keep fun b o e => ?_, os, bare⟩
      cases q : H b with
      | none => exact un.keep b o e q (fun z => absurd (show b ∈ ([] : List Addr) from z) (by simp)) (by simp)
      | some u =>
        rcases hO b with z | ⟨ob, xs, z⟩
        · exact absurd (q.symm.trans z) (by simp)
        · have e1 := (hok b _ z).1
          have e2 := (hok' b _ (un.frzs b ob _ z)).1
          rw [e] at e1
          cases e1
          exact e2
    | .ok .next, h => exact False.elim h
    | .ok .brk, h => exact False.elim h
    | .ok .cont, h => exact False.elim h
    | .error _, h => exact False.elim h
  cases hk : K.lookup a with
  | some o =>
    have e := KX a o hk
    rw [ha] at e
    cases e
    exact main (fun _ => none) (fun _ => .inl rfl) (.inr ⟨_, vs.toArray, _, hk, rfl, rfl, rfl, by rw [List.size_toArray, hi.length]; exact hl, by simpa using vals_ints hi⟩) (fun b u z => nomatch (show (none : Option HO) = some u from z)) fun b z => absurd rfl z
  | none =>
    have here : (if a = a then some (HO.frz { cls := .type "list", data := .seq vs.toArray } (.lst (ns.map V.int))) else none) = some (HO.frz { cls := .type "list", data := .seq vs.toArray } (.lst (ns.map V.int))) := if_pos rfl
    refine main (fun b => if b = a then some (.frz { cls := .type "list", data := .seq vs.toArray } (.lst (ns.map V.int))) else none) (fun b => ?_) (.inl (.inr ⟨_, here⟩)) (fun b u z => ?_) (fun b z => ?_)
    · by_cases hb : b = a
      · exact .inr ⟨_, _, if_pos hb⟩
      · exact .inl (if_neg hb)
    · by_cases hb : b = a
      · subst hb
        cases here.symm.trans z
        exact ⟨ha, by rw [List.length_map]; exact hl, vs, _, vals_ints hi, ha⟩
      · exact absurd z (by simp [hb])
    · by_cases hb : b = a
      · exact ⟨hb, hk⟩
      · exact absurd (if_neg hb) z
theorem walkG {l : OpenLaw} {n k : Nat} {q : Program} {loose : List Str} {XP : (Str → Option Value) → Heap → Prop} {YP : World → Heap → Prop} {d : DefRec} {K : Params → Frag} {sp : World → Sp} {x : Str}
    (hn : l.most = some n) (hn2 : n ≤ sizeLine) (hdf : d.params.defaults = []) (hr : Room k callerA) (hY : ∀ (w : World) (h : Heap), YP w h → (K w.params).In h)
    (F : ∀ (w : World) (mg : Str → Option Value) (fa : Addr) (h : Heap), (K w.params).In h → h.Ns mainGlobals mg → mg d.name = some (.ref fa) →
      ∃ fd : FuncData, (∀ (s : Shared) (u : Value), BindsTo s fd ⟨[u], []⟩ [(x, u)]) ∧ ∀ base : Heap, (K w.params).In base → base.Ns mainGlobals mg → FnG l.prog w (K w.params) mg base k fa fd [x] (sp w))
    (hsp : ∀ (w : World) (H : Hp) (a : Addr) (ns : List Int), ns.length ≤ n → Only H → SqL (K w.params) H a (ns.map V.int) → sp w [.ref a] H (fun v _ => v = .bl true) fun _ _ _ => False) :
    WalkO q loose XP YP l.row.toRowW d [] (fun f vs => PySem.call f vs) := by
  refine Att.attach_call hn hdf fun w s₀ s₁ mg mb fa o pm cd doc a vs ns G Y ho hd hcd hmg hobj hints hlen hg => ?_
  obtain ⟨fd, hb, hF⟩ := F w mg fa _ (hY w _ Y) G.T.g hmg
  exact lawG (hY w _ Y) G.T.g G.T.b G.T.builtins G.T.nolimit hg hobj hints (Nat.le_trans hlen hn2) hr hF hb fun H hO hS => hsp w H a ns hlen hO hS
end Cb

/-! Comprehensions with three for. -/
namespace Cb
open PySem PySem.Spec PyProof.Rows L2 PySem.W
section turns
variable {prog : Program} {w : World} {A : Around} {R : Result → Shared → Prop} {elt tg i1 : Expr} {gs : List Comprehension} {sc : Scope} {pos : Pos} {k : Nat} {fs : List Expr} {p : Pos} {it acc : Value} {env : Env} {bd : Sem PySem.Fin → Sem PySem.Fin} {s : Shared}
/-- what a turn of clause k does: bd stands for what lies behind its tests, ahead of the next turn -/
def TurnIs (c tg : Expr) (k : Nat) (fs : List Expr) (p : Pos) (it acc : Value) (env : Env) (bd : Sem PySem.Fin → Sem PySem.Fin) : Prop :=
  compTurn c k it acc env = (do
    standAt p
    match ← pyNext it with
    | none => pure (.done .next)
    | some v =>
      letOwnedTupleGo tg it v
      assign tg env v
      let mut ok := true
      for f in fs do
        if ok then ok ← isTrue f env (eval f env)
      if ok then bd (again (.compLoop c k it acc env)) else again (.compLoop c k it acc env))
/-- bd comes to its end, where Z holds -/
def Ends3 (prog : Program) (w : World) (A : Around) (bd : Sem PySem.Fin → Sem PySem.Fin) (Z : Shared → Prop) (s : Shared) : Prop :=
  ∀ (n : Sem PySem.Fin) (Q : PySem.Fin → Shared → Prop) (E : Value → Shared → Prop), (∀ s', Z s' → wpAny (model prog w) A n Q E s') → wpAny (model prog w) A (bd n) Q E s
theorem loopB (ht : TurnIs (.ListComp elt gs sc pos) tg k fs p it acc env bd) (I : Nat → Shared → Prop)
    (turn : ∀ n s, I n s → wpAny (model prog w) A (pyNext it) (fun r s1 => match r with
      | none => R (.ok .next) s1
      | some v => wpAny (model prog w) A (letOwnedTupleGo tg it v) (fun _ s2 => wpAny (model prog w) A (assign tg env v) (fun _ s3 =>
          wpAny (model prog w) A (forIn fs true fun f r => if r = true then do let ok ← isTrue f env (eval f env); pure (ForInStep.yield ok) else pure (ForInStep.yield r)) (fun ok s4 =>
            if ok = true then Ends3 prog w A bd (fun s5 => ∃ m, m < n ∧ I m s5) s4 else ∃ m, m < n ∧ I m s4) (fun _ _ => False) s3) (fun _ _ => False) s2) (fun _ _ => False) s1) (fun _ _ => False) s)
    (n : Nat) (s : Shared) (h : I n s) : codeAny (model prog w) A (.compLoop (.ListComp elt gs sc pos) k it acc env) R s := by
  refine codeAny_loop rfl I (fun n s hI => ?_) n h
  show wpAny _ A ((compTurn (.ListComp elt gs sc pos) k it acc env).onRaise (fun x => do noteFrame x env; theTreesLotGoes x)) _ _ s
  refine wpAny_noted ?_
  rw [show compTurn (.ListComp elt gs sc pos) k it acc env = _ from ht]
  refine wpAny_bind (wpAny_standAt (wpAny_bind (thnF (turn n s hI) fun r s1 h1 => ?_)))
  match r, h1 with
  | none, h1 => exact wpAny_pure h1
  | some v, h1 =>
    refine wpAny_bind (thnF h1 fun _ s2 h2 => wpAny_bind (thnF h2 fun _ s3 h3 => wpAny_bind (thnF h3 fun ok s4 h4 => ?_)))
    cases ok with
    | false => exact wpAny_pure ⟨rfl, h4⟩
    | true => exact h4 _ _ _ fun s5 h5 => wpAny_pure ⟨rfl, h5⟩
/-- where a later clause begins -/
def NextIs (c i1 : Expr) (k : Nat) (acc : Value) (env : Env) (n : Sem PySem.Fin) : Sem PySem.Fin := do
  let x ← eval i1 env
  standAt i1.pos
  let x ← foldedSetIterable i1 env x
  let _ ← runOwn (.compStart c k (← holding [x] (pyIter x)) acc env) env
  n
def LastIs (elt : Expr) (acc : Value) (env : Env) (n : Sem PySem.Fin) : Sem PySem.Fin := do
  (do let _ ← call (.builtin "list.append") [acc, ← eval elt env])
  n
theorem last_ok {Z : Shared → Prop} (h : wpAny (model prog w) A (eval elt env) (fun x s1 => wpAny (model prog w) A (call (.builtin "list.append") [acc, x]) (fun _ s2 => Z s2) (fun _ _ => False) s1) (fun _ _ => False) s) : Ends3 prog w A (LastIs elt acc env) Z s := by
  intro n Q E hn
  unfold LastIs
  exact wpAny_bind (wpAny_bind (thnF h fun x s1 h1 => wpAny_bind (thnF h1 fun _ s2 h2 => wpAny_pure (hn s2 h2))))
theorem next_ok {c : Expr} {Z : Shared → Prop} (hs : ∀ x, foldedSetIterable i1 env x = pure x)
    (h : wpAny (model prog w) A (eval i1 env) (fun x s1 => wpAny (model prog w) A (pyIter x) (fun it1 s2 => codeAny (model prog w) A (.compStart c k it1 acc env) (fun r s3 => match r with
      | .ok _ => Z s3
      | .error _ => False) s2) (fun _ _ => False) s1) (fun _ _ => False) s) : Ends3 prog w A (NextIs c i1 k acc env) Z s := by
  intro n Q E hn
  unfold NextIs
  refine wpAny_bind (thnF h fun x s1 h1 => wpAny_bind (wpAny_standAt (wpAny_bind (wpAny_of_eq (hs x) (wpAny_bind (wpAny_holding (thnF h1 fun it1 s2 h2 => ?_)))))))
  refine wpAny_bind (wpAny_runOwn ?_)
  rw [Around.mark_none]
  refine codeAny_mono h2 fun r s3 hr => ?_
  match r, hr with
  | .ok f, hr => exact hn s3 hr
  | .error e, hr => exact False.elim hr
/-- a later clause's iterator gives itself -/
theorem start_ok (hc : ((gs)[k]?).elim false (fun g => g.is_async != 0) = false) (h0 : codeAny (model prog w) A (.compLoop (.ListComp elt gs sc pos) k it acc env) R s)
    (h : wpAny (model prog w) A (pyIter it) (fun it' s' => codeAny (model prog w) A (.compLoop (.ListComp elt gs sc pos) k it' acc env) R s') (fun _ _ => False) s) :
    codeAny (model prog w) A (.compStart (.ListComp elt gs sc pos) k it acc env) R s := by
  refine codeAny_of_tree ?_
  show wpAny _ _ ((compStart (.ListComp elt gs sc pos) k it acc env).onRaise (fun x => do noteFrame x env; standAt theWindowsPlace)) _ _ s
  refine wpAny_notedAt ?_
  unfold compStart
  rw [show ((clausesOf (.ListComp elt gs sc pos))[k]?).elim false (fun g => g.is_async != 0) = false from hc]
  show wpAny _ _ (ask >>= _) _ _ s
  refine wpAny_bind (wpAny_askSetting (wpAny_ite ?_))
  split
  · exact wpAny_pure (And.intro rfl h0)
  · refine wpAny_bind (wpAny_rule ?_)
    have jp : wpAny (model prog w) A (pyIter it >>= fun l => again (.compLoop (.ListComp elt gs sc pos) k l acc env)) (fun f s' => match f with
        | .done f => R (.ok f) s'
        | .again c' => c'.quiet = true ∧ codeAny (model prog w) A c' R s') (fun _ _ => False) s := wpAny_bind (thnF h fun it' s' h' => wpAny_pure ⟨rfl, h'⟩)
    show wpAny _ _ (match (clausesOf (.ListComp elt gs sc pos))[k]? with
      | some g => standAt g.iter.pos >>= fun _ => (pyIter it >>= fun l => again (.compLoop (.ListComp elt gs sc pos) k l acc env))
      | _ => (pyIter it >>= fun l => again (.compLoop (.ListComp elt gs sc pos) k l acc env))) _ _ s
    split
    · exact wpAny_bind (wpAny_standAt (thnF jp fun _ _ z => z))
    · exact thnF jp fun _ _ z => z
end turns
section forms
variable (elt t0 i0 t1 i1 t2 i2 : Expr) (f0 f1 f2 : List Expr) (sc : Scope) (pos : Pos) (it acc : Value) (env : Env)
abbrev c3 : Expr := .ListComp elt [⟨t0, i0, f0, 0⟩, ⟨t1, i1, f1, 0⟩, ⟨t2, i2, f2, 0⟩] sc pos
theorem turn3_0 : TurnIs (c3 elt t0 i0 t1 i1 t2 i2 f0 f1 f2 sc pos) t0 0 f0 i0.pos it acc env (NextIs (c3 elt t0 i0 t1 i1 t2 i2 f0 f1 f2 sc pos) i1 1 acc env) := by
  unfold TurnIs NextIs
  rfl
theorem turn3_1 : TurnIs (c3 elt t0 i0 t1 i1 t2 i2 f0 f1 f2 sc pos) t1 1 f1 i1.pos it acc env (NextIs (c3 elt t0 i0 t1 i1 t2 i2 f0 f1 f2 sc pos) i2 2 acc env) := by
  unfold TurnIs NextIs
  rfl
theorem turn3_2 : TurnIs (c3 elt t0 i0 t1 i1 t2 i2 f0 f1 f2 sc pos) t2 2 f2 i2.pos it acc env (LastIs elt acc env) := by
  unfold TurnIs LastIs
  rfl
end forms
end Cb

namespace Cb
open PySem PySem.Spec PyProof.Rows L2 PySem.W
abbrev Stt := List (Option V)
abbrev TB := Stt → Hp → (Hp → Prop) → Prop
/-- what a clause's end asks: the element, laid behind the list at D -/
def tEnd (te : TE) (D : Addr) : TB := fun σ H N => te σ H fun y H1 => ∃ acc, H1 D = some (.lst acc) ∧ acc.length < sizeLine ∧ N (upd H1 D (.lst (acc ++ [y])))
/-- what a later clause asks -/
def tCl (wi : TI) (g : TG) (tt : TT) (tb : TB) (vs : List Nat) : TB := fun σ H N => wi σ H fun J H1 => ∃ W : Nat → Nat → Hp → Prop, (∃ m, W 0 m H1) ∧ ∀ j m H, W j m H →
  (J.stop j H ∧ N H) ∨ (J.go j H ∧ ∃ N1 : Hp → Prop, (∀ H', N1 H' → ∃ m', m' < m ∧ W (j + 1) m' H') ∧ ∀ x H', J.yld j H x H' → g x (wipe σ vs) H' fun σ2 H2 => wipe σ2 vs = wipe σ vs ∧ tt σ2 H2 fun b H3 => if b = true then tb σ2 H3 N1 else N1 H3)
section
variable {Y : Cx} {elt tg i1 : Expr} {gs : List Comprehension} {sc : Scope} {pos p : Pos} {k : Nat} {fs : List Expr} {D : Addr} {bd : Sem PySem.Fin → Sem PySem.Fin} {wi : TI} {g : TG} {tt : TT} {te : TE} {tb : TB} {vI vs : List Nat}
/-- bd keeps the block and does what tb asks; the slots vI are forgotten behind it -/
def Bd (Y : Cx) (bd : Sem PySem.Fin → Sem PySem.Fin) (tb : TB) (vI : List Nat) : Prop := ∀ (pins : List (Addr × Obj)) (σ : Stt) (H : Hp) (s : Shared) (N : Hp → Prop), Inv Y pins σ H s → tb σ H N →
  Ends3 Y.prog Y.w Y.A bd (fun s' => ∃ H', Inv Y pins (wipe σ vI) H' s' ∧ N H') s
theorem bd_last (hx : Y.xe = fun _ _ => False) (he : PE Y elt te) : Bd Y (LastIs elt (.ref D) Y.env) (tEnd te D) [] := by
  intro pins σ H s N I h
  have q := he.run pins s σ H _ I h
  rw [hx] at q
  refine last_ok (thnF q fun x s1 hz => ?_)
  obtain ⟨yv, H1, I1, r1, acc, hD, hl, nx⟩ := hz
  exact app_ok I1 hD hl r1 fun s2 I2 => ⟨_, I2, nx⟩
theorem bd_clause (hx : Y.xe = fun _ _ => False) (hc : Y.calm = true) (tu : ∀ it, TurnIs (.ListComp elt gs sc pos) tg k fs p it (.ref D) Y.env bd) (hgs : ((gs)[k]?).elim false (fun g => g.is_async != 0) = false)
    (hs : ∀ x, foldedSetIterable i1 Y.env x = pure x) (hi : PI Y tg i1 wi) (hg : PG Y tg g) (ht : PTs Y fs tt) (hb : Bd Y bd tb vI) (hv : ∀ i ∈ vI, i ∈ vs) :
    Bd Y (NextIs (.ListComp elt gs sc pos) i1 k (.ref D) Y.env) (tCl wi g tt tb vs) vs := by
  intro pins σ H s N I h
  have q := hi.run pins s σ H _ I h
  rw [hx] at q
  refine next_ok hs (thnF q fun xv s1 hz => thnF hz fun itv s2 h2 => ?_)
  obtain ⟨it, fp, tn, J, H2, rfl, I2, T, st2, f2, W, ⟨m0, w0⟩, tr⟩ := h2
  have fpk : ∀ {H' : Hp}, (∀ b ∈ fp, H' b = none) → ∀ b ∈ fp, FpOk Y pins H' b := fun n b hb => ⟨n b hb, (f2 b hb).2⟩
  have lp : codeAny (model Y.prog Y.w) Y.A (.compLoop (.ListComp elt gs sc pos) k (.ref it) (.ref D) Y.env) (fun r s3 => match r with
      | .ok _ => ∃ H', Inv Y pins (wipe σ vs) H' s3 ∧ N H'
      | .error _ => False) s2 := by
    refine loopB (tu _) (fun n s' => ∃ j H', Inv Y pins (wipe σ vs) H' s' ∧ tn j s'.heap ∧ (∀ b ∈ fp, H' b = none) ∧ W j n H') (fun n s3 h3 => ?_) m0 s2 ⟨0, H2, I2.weak (wipe_length _ _) (fun _ _ e => (wipe_some e).1), st2, fun b hb => (f2 b hb).1, w0⟩
    obtain ⟨j, H3, I3, st3, n3, w3⟩ := h3
    rcases tr j n H3 w3 with ⟨stop, nx⟩ | ⟨go, N1, hN, step⟩
    · refine thnF (T.done Y rfl rfl rfl hc j pins s3 _ H3 (fun _ _ => False) I3 (fpk n3) st3 stop) fun r s4 hr => ?_
      obtain ⟨rfl, I4⟩ := hr
      exact ⟨H3, I4, nx⟩
    · refine thnF (T.item Y rfl rfl rfl hc j pins s3 _ H3 (fun _ _ => False) I3 (fpk n3) st3 go) fun r s4 hr => ?_
      obtain ⟨u, rfl, h4⟩ := hr
      refine thnF h4 fun _ s5 h5 => ?_
      obtain ⟨x, H5, I5, r5, y5, st5, n5⟩ := h5
      have a1 := hg.run _ s5 _ H5 x u _ (I5.pinned (fpk n5) (T.obj _ _ st5)) r5 (step x H5 y5)
      rw [hx] at a1
      refine thnF a1 fun _ s6 h6 => ?_
      obtain ⟨σ6, H6, I6, e6, q6⟩ := h6
      have a2 := ht.run _ s6 σ6 H6 _ I6 q6
      rw [hx] at a2
      refine thnF a2 fun b s7 h7 => ?_
      obtain ⟨H7, I7, q7⟩ := h7
      have back : ∀ {σ8 : Stt} {s' : Shared} {H' : Hp}, Inv Y (pins ++ pinsAt fp s5.heap) σ8 H' s' → σ8.length = σ6.length → (∀ (i : Nat) v, (wipe σ vs)[i]? = some (some v) → σ8[i]? = some (some v)) → N1 H' →
          ∃ m, m < n ∧ ∃ j H', Inv Y pins (wipe σ vs) H' s' ∧ tn j s'.heap ∧ (∀ b ∈ fp, H' b = none) ∧ W j m H' := fun {σ8 s' H'} I' hl hk nx => by
        obtain ⟨m', hm, w'⟩ := hN H' nx
        have at_ : ∀ b ∈ fp, ∀ o, s5.heap.get? b = some o → s'.heap.get? b = some o ∧ H' b = none := fun b hb o e =>
          ⟨(I'.pin (b, o) (List.mem_append_right _ (List.mem_append_right _ (mem_pinsAt hb e)))).1, (I'.pin (b, o) (List.mem_append_right _ (List.mem_append_right _ (mem_pinsAt hb e)))).2.1⟩
        refine ⟨m', hm, j + 1, H', I'.unpinned.weak (by rw [hl, ← wipe_length σ6 vs, e6]) hk, T.keep _ _ _ st5 fun b hb o e => (at_ b hb o e).1, fun b hb => ?_, w'⟩
        obtain ⟨o, e, _⟩ := T.obj _ _ st5 b hb
        exact (at_ b hb o e).2
      have k6 : ∀ (i : Nat) v, (wipe σ vs)[i]? = some (some v) → σ6[i]? = some (some v) ∧ i ∉ vs := fun i v e => by
        rw [← e6] at e
        exact wipe_some e
      cases b with
      | false => exact back I7 rfl (fun i v e => (k6 i v e).1) q7
      | true =>
        intro nn QQ EE hn
        refine hb _ σ6 H7 s7 N1 I7 q7 nn QQ EE fun s8 h8 => hn s8 ?_
        obtain ⟨H8, I8, nx⟩ := h8
        refine back I8 (wipe_length _ _) (fun i v e => ?_) nx
        rw [wipe_out fun z => (k6 i v e).2 (hv i z)]
        exact (k6 i v e).1
  exact start_ok hgs lp (T.self Y.A 0 _ _ _ st2 lp)
end
section
variable {X : Cx}
/-- [elt for t0 in i0 for t1 in i1 for t2 in i2 ..]: D the new list -/
def tLcN (wi : TI) (g : TG) (tt : TT) (tb : Addr → TB) (vs : List Nat) : TE := fun σ H Q => wi σ H fun J H1 => ∀ D, H1 D = none → ∃ W : Nat → Nat → Hp → Prop, (∃ m, W 0 m (upd H1 D (.lst []))) ∧ ∀ i m H, W i m H →
  (J.stop i H ∧ Q (.ref D) H) ∨ (J.go i H ∧ ∃ N : Hp → Prop, (∀ H', N H' → ∃ m', m' < m ∧ W (i + 1) m' H') ∧ ∀ x H', J.yld i H x H' → g x (wipe σ vs) H' fun σ2 H2 => wipe σ2 vs = wipe σ vs ∧ tt σ2 H2 fun b H3 => if b = true then tb D σ2 H3 N else N H3)
theorem lcN_ok {elt tg iter : Expr} {ifs : List Expr} {rest : List Comprehension} {scope : Scope} {own : List (Str × Nat)} {pos : Pos} {wi : TI} {g : TG} {tt : TT} {tb : Addr → TB} {vI : List Nat} {bd : Addr → Env → Sem PySem.Fin → Sem PySem.Fin}
    (hc : X.calm = true) (hN : X.N.Nodup) (hi : PI X tg iter wi) (ok : BlkOk X.N X.env.scope scope own) (hs : ∀ x, foldedSetIterable iter X.env x = pure x)
    (tu : ∀ (it D : Addr) (env : Env), TurnIs (.ListComp elt (⟨tg, iter, ifs, 0⟩ :: rest) scope pos) tg 0 ifs iter.pos (.ref it) (.ref D) env (bd D env))
    (hg : ∀ (s : Shared) (H : Hp) (C : Addr) (cl : List (Str × Addr)) (fp : List Addr), PG (X.blk s H scope (compEnvC scope cl C X.env) fp) tg g) (ht : ∀ (s : Shared) (H : Hp) (C : Addr) (cl : List (Str × Addr)) (fp : List Addr), PTs (X.blk s H scope (compEnvC scope cl C X.env) fp) ifs tt)
    (hb : ∀ (s : Shared) (H : Hp) (C : Addr) (cl : List (Str × Addr)) (fp : List Addr) (D : Addr), Bd (X.blk s H scope (compEnvC scope cl C X.env) fp) (bd D (compEnvC scope cl C X.env)) (tb D) vI) (hv : ∀ i ∈ vI, i ∈ own.map (·.2)) :
    PE X (.ListComp elt (⟨tg, iter, ifs, 0⟩ :: rest) scope pos) (tLcN wi g tt tb (own.map (·.2))) := by
  refine ⟨fun pins s σ H Q I h => ?_⟩
  rw [eval_ListComp]
  have free_ : ∀ y ∈ scope.names, y.2 = .free → ∃ c, X.env.cells.lookup y.1 = some c := fun y hy e => I.ok.has _ (ok.free y hy e)
  refine wpAny_comprehension_free (use := none) rfl hs (closure_ok free_) ok.kind (fun y hy e => by rw [ok.uniq y hy, e]) (thn (hi.run pins s σ H _ I h) fun xv s1 hz => thn hz fun itv s2 h2 => ?_)
  obtain ⟨it, fp, tn, J, H2, rfl, I2, T, st2, f2, q⟩ := h2
  refine wpAny_newObj_type (newEnv_comp ?_) (by show 0 ≤ sizeLine; decide)
  generalize hD : s2.heap.objs.size = D
  obtain ⟨W, ⟨m0, w0⟩, tr⟩ := q D (I2.hok.fresh (Nat.le_of_eq hD))
  generalize es : ({ s2 with heap := s2.heap.push { cls := .type "list", data := .seq ([] : List Value).toArray } } : Shared) = s3
  have h3 : s3.heap = s2.heap.push { cls := .type "list", data := .seq ([] : List Value).toArray } := by rw [← es]
  have I3 : Inv X pins σ (upd H2 D (.lst [])) s3 := by
    rw [← es]
    refine I2.laid (t' := s2.toks) (fun b o e => Heap.get?_push_of_some _ e) (Nat.le_of_eq hD) ⟨Nat.zero_le _, [], 0, .nil, ?_⟩
    rw [← hD]
    exact Heap.get?_push_size _ rfl
  have f3 : ∀ b ∈ fp, FpOk X pins (upd H2 D (.lst [])) b ∧ b < s3.heap.objs.size := fun b hb => by
    obtain ⟨o, e, _⟩ := T.obj _ _ st2 b hb
    have lt_ := Heap.lt_size e
    refine ⟨⟨?_, (f2 b hb).2⟩, by rw [h3, Heap.size_push]; exact Nat.lt_succ_of_lt lt_⟩
    rw [upd_ne (by rw [← hD]; exact Nat.ne_of_lt lt_)]
    exact (f2 b hb).1
  have st3 : tn 0 s3.heap := T.keep _ _ _ st2 fun b _ o e => by rw [h3]; exact Heap.get?_push_of_some _ e
  have I4 := block_start I3 ok hN f3
  have pg := hg s3 (upd H2 D (.lst [])) s3.heap.objs.size (cellsFrom (s3.heap.objs.size + 1) scope.names (cloFrom X.env.cells scope.names [])) fp
  have pt := ht s3 (upd H2 D (.lst [])) s3.heap.objs.size (cellsFrom (s3.heap.objs.size + 1) scope.names (cloFrom X.env.cells scope.names [])) fp
  have pb := hb s3 (upd H2 D (.lst [])) s3.heap.objs.size (cellsFrom (s3.heap.objs.size + 1) scope.names (cloFrom X.env.cells scope.names [])) fp D
  show codeAny _ _ (.compStart (.ListComp elt (⟨tg, iter, ifs, 0⟩ :: rest) scope pos) 0 (.ref it) (.ref D) (compEnvC scope (cellsFrom (s3.heap.objs.size + 1) scope.names (cloFrom X.env.cells scope.names [])) s3.heap.objs.size X.env)) (compPost (model X.prog X.w) X.A X.xe none _ (.ref D) s3.heap.objs.size) { s3 with heap := pushCells (s3.heap.push { cls := .type "dict", data := .dict #[] }) scope.names }
  have nfp : ∀ b ∈ fp, (upd H2 D (.lst [])) b = none := fun b hb => (f3 b hb).1.1
  have tu0 := tu it D (compEnvC scope (cellsFrom (s3.heap.objs.size + 1) scope.names (cloFrom X.env.cells scope.names [])) s3.heap.objs.size X.env)
  generalize ec : compEnvC scope (cellsFrom (s3.heap.objs.size + 1) scope.names (cloFrom X.env.cells scope.names [])) s3.heap.objs.size X.env = ce at I4 pg pt pb tu0 ⊢
  have cL : ce.locals = s3.heap.objs.size := by subst ec; rfl
  generalize eH : upd H2 D (.lst []) = H3 at I3 I4 pg pt pb w0 nfp f3
  generalize e4 : ({ s3 with heap := pushCells (s3.heap.push { cls := .type "dict", data := .dict #[] }) scope.names } : Shared) = s4 at I4 ⊢
  have st4 : tn 0 s4.heap := T.keep _ _ _ st3 fun b _ o e => by rw [← e4]; exact pushCells_keeps _ _ _ _ (Heap.get?_push_of_some _ e)
  have fpk : ∀ {σ' : Stt} {H' : Hp} {s' : Shared}, Inv (X.blk s3 H3 scope ce fp) [] σ' H' s' → (∀ b ∈ fp, H' b = none) → ∀ b ∈ fp, FpOk (X.blk s3 H3 scope ce fp) [] H' b := fun {σ' H' s'} I' hn b hb =>
    ⟨hn b hb, (I'.ok.exf b hb).1, I'.ok.exfs b hb, .inl hb, fun x c e => (I'.ok.exf b hb).2 x c e, fun p hp => absurd (show p ∈ ([] : List (Addr × Obj)) ++ [] from hp) (by simp)⟩
  have lp : codeAny (model X.prog X.w) X.A (.compLoop (.ListComp elt (⟨tg, iter, ifs, 0⟩ :: rest) scope pos) 0 (.ref it) (.ref D) ce)
      (compPost (model X.prog X.w) X.A X.xe none (EP X pins σ Q) (.ref D) s3.heap.objs.size) s4 := by
    refine loopB tu0 (fun n s' => ∃ i H', Inv (X.blk s3 H3 scope ce fp) [] (wipe σ (own.map (·.2))) H' s' ∧ tn i s'.heap ∧ (∀ b ∈ fp, H' b = none) ∧ W i n H') (fun n s5 h5 => ?_) m0 s4 ⟨0, H3, I4, st4, nfp, w0⟩
    obtain ⟨i, H5, I5, st5, n5, w5⟩ := h5
    rcases tr i n H5 w5 with ⟨stop, qq⟩ | ⟨go, N1, hN1, step⟩
    · refine thnF (T.done (X.blk s3 H3 scope ce fp) rfl rfl rfl hc i [] s5 _ H5 (fun _ _ => False) I5 (fpk I5 n5) st5 stop) fun r s6 hr => ?_
      obtain ⟨rfl, I6⟩ := hr
      have I7 : Inv X pins σ H5 s6 := I3.call' (ch := fp) I6.os I6.base I6.hok I6.bare fun b hb => ⟨(f3 b hb).1.2.2.2.1, (f3 b hb).1.2.1, (f3 b hb).1.2.2.2.2.1, (f3 b hb).1.2.2.2.2.2⟩
      have nC : H5 s3.heap.objs.size = none := by
        rw [← cL]
        exact I6.free
      obtain ⟨m, hn, _⟩ := I6.loc
      have hn : s6.heap.Ns ce.locals m := hn
      rw [cL] at hn
      obtain ⟨g0, g1, _, g3, g4, g5⟩ := I3.fpOk (H' := H5) (Nat.le_refl _) nC
      exact ⟨m, hn, fun h'' sb => ⟨.ref D, H5, I7.turned (t' := s6.toks) (fun b o hb e => (sb.2 b hb).trans e) g0 g1 (by assumption) (by assumption) (by assumption), rfl, qq⟩⟩
    · refine thnF (T.item (X.blk s3 H3 scope ce fp) rfl rfl rfl hc i [] s5 _ H5 (fun _ _ => False) I5 (fpk I5 n5) st5 go) fun r s6 hr => ?_
      obtain ⟨u, rfl, h6⟩ := hr
      refine thnF h6 fun _ s7 h7 => ?_
      obtain ⟨x, H7, I7, r7, y7, st7, n7⟩ := h7
      refine thnF (pg.run _ s7 _ H7 x u _ (I7.pinned (fpk I7 n7) (T.obj _ _ st7)) r7 (step x H7 y7)) fun _ s8 h8 => ?_
      obtain ⟨σ8, H8, I8, e8, q8⟩ := h8
      refine thnF (pt.run _ s8 σ8 H8 _ I8 q8) fun b s9 h9 => ?_
      obtain ⟨H9, I9, q9⟩ := h9
      have back : ∀ {σ9 : Stt} {s' : Shared} {H' : Hp}, Inv (X.blk s3 H3 scope ce fp) ([] ++ pinsAt fp s7.heap) σ9 H' s' → σ9.length = σ8.length → (∀ (j : Nat) v, (wipe σ (own.map (·.2)))[j]? = some (some v) → σ9[j]? = some (some v)) → N1 H' →
          ∃ m, m < n ∧ ∃ i H', Inv (X.blk s3 H3 scope ce fp) [] (wipe σ (own.map (·.2))) H' s' ∧ tn i s'.heap ∧ (∀ b ∈ fp, H' b = none) ∧ W i m H' := fun {σ9 s' H'} I' hl hk nx => by
        obtain ⟨m', hm, w'⟩ := hN1 H' nx
        have at_ : ∀ b ∈ fp, ∀ o, s7.heap.get? b = some o → s'.heap.get? b = some o ∧ H' b = none := fun b hb o e =>
          ⟨(I'.pin (b, o) (List.mem_append_right _ (List.mem_append_right _ (mem_pinsAt hb e)))).1, (I'.pin (b, o) (List.mem_append_right _ (List.mem_append_right _ (mem_pinsAt hb e)))).2.1⟩
        refine ⟨m', hm, i + 1, H', (I'.unpinned (pins := [])).weak (by rw [hl, ← wipe_length σ8 (own.map (·.2)), e8]) hk, T.keep _ _ _ st7 fun b hb o e => (at_ b hb o e).1, fun b hb => ?_, w'⟩
        obtain ⟨o, e, _⟩ := T.obj _ _ st7 b hb
        exact (at_ b hb o e).2
      have k8 : ∀ (j : Nat) v, (wipe σ (own.map (·.2)))[j]? = some (some v) → σ8[j]? = some (some v) ∧ j ∉ own.map (·.2) := fun j v e => by
        rw [← e8] at e
        exact wipe_some e
      cases b with
      | false => exact back I9 rfl (fun j v e => (k8 j v e).1) q9
      | true =>
        intro nn QQ EE hn
        refine pb _ σ8 H9 s9 N1 I9 q9 nn QQ EE fun s10 h10 => hn s10 ?_
        obtain ⟨H10, I10, nx⟩ := h10
        refine back I10 (wipe_length _ _) (fun j v e => ?_) nx
        rw [wipe_out fun z => (k8 j v e).2 (hv j z)]
        exact (k8 j v e).1
  exact codeAny_compStart_list lp (T.self X.A 0 _ _ _ st4 lp)
end
end Cb

/-! Sets of people and lists of crews as data; what a draw may change. -/
namespace Cb
open PySem PySem.Spec PyProof.Rows L2 PySem.W
abbrev PD := PyData
/-! ### pairs of lists -/
theorem prd_get {α β : Type} {F : α → β → Prop} : ∀ {xs : List α} {ys : List β} {i : Nat} {y : β}, Paired F xs ys → ys[i]? = some y → ∃ x, xs[i]? = some x ∧ F x y
  | _, _, _, _, .nil, e => by simp at e
  | _, _, 0, _, .cons r _, e => by simp at e; subst e; exact ⟨_, rfl, r⟩
  | _, _, i + 1, y, .cons _ t, e => by
    obtain ⟨x, h1, h2⟩ := prd_get (i := i) (y := y) t (by simpa using e)
    exact ⟨x, by simpa using h1, h2⟩
theorem prd_getL {α β : Type} {F : α → β → Prop} : ∀ {xs : List α} {ys : List β} {i : Nat} {x : α}, Paired F xs ys → xs[i]? = some x → ∃ y, ys[i]? = some y ∧ F x y
  | _, _, _, _, .nil, e => by simp at e
  | _, _, 0, _, .cons r _, e => by simp at e; subst e; exact ⟨_, rfl, r⟩
  | _, _, i + 1, y, .cons _ t, e => by
    obtain ⟨x, h1, h2⟩ := prd_getL (i := i) (x := y) t (by simpa using e)
    exact ⟨x, by simpa using h1, h2⟩
theorem prd_mono {α β : Type} {F G : α → β → Prop} (h : ∀ a b, F a b → G a b) : ∀ {xs : List α} {ys : List β}, Paired F xs ys → Paired G xs ys
  | _, _, .nil => .nil
  | _, _, .cons r t => .cons (h _ _ r) (prd_mono h t)
theorem prd_app {α β : Type} {F : α → β → Prop} : ∀ {xs : List α} {ys : List β} {xs' : List α} {ys' : List β}, Paired F xs ys → Paired F xs' ys' → Paired F (xs ++ xs') (ys ++ ys')
  | _, _, _, _, .nil, s => s
  | _, _, _, _, .cons r t, s => .cons r (prd_app t s)
theorem prd_take {α β : Type} {F : α → β → Prop} : ∀ {xs : List α} {ys : List β} (n : Nat), Paired F xs ys → Paired F (xs.take n) (ys.take n)
  | _, _, 0, _ => .nil
  | _, _, _ + 1, .nil => .nil
  | _, _, n + 1, .cons r t => .cons r (prd_take n t)
theorem prd_drop {α β : Type} {F : α → β → Prop} : ∀ {xs : List α} {ys : List β} (n : Nat), Paired F xs ys → Paired F (xs.drop n) (ys.drop n)
  | _, _, 0, h => h
  | _, _, _ + 1, .nil => .nil
  | _, _, n + 1, .cons r t => prd_drop n t
theorem prd_len {α β : Type} {F : α → β → Prop} : ∀ {xs : List α} {ys : List β}, Paired F xs ys → xs.length = ys.length
  | _, _, .nil => rfl
  | _, _, .cons r t => congrArg Nat.succ (prd_len t)
theorem prd_map {α β γ δ : Type} {F : γ → δ → Prop} (f : α → γ) (g : β → δ) : ∀ {xs : List α} {ys : List β}, Paired (fun a b => F (f a) (g b)) xs ys → Paired F (xs.map f) (ys.map g)
  | _, _, .nil => .nil
  | _, _, .cons r t => .cons r (prd_map f g t)
theorem prd_fst {α β : Type} {F : α → β → Prop} : ∀ {xs : List α} {ys : List β}, Paired F xs ys → ∃ zs : List (α × β), zs.map (·.1) = xs ∧ zs.map (·.2) = ys ∧ ∀ z ∈ zs, F z.1 z.2
  | _, _, .nil => ⟨[], rfl, rfl, fun _ h => by simp at h⟩
  | _, _, .cons (a := a) (b := b) r t => by
    obtain ⟨zs, h1, h2, h3⟩ := prd_fst t
    refine ⟨(a, b) :: zs, by rw [List.map_cons, h1], by rw [List.map_cons, h2], fun z hz => ?_⟩
    rcases List.mem_cons.mp hz with e | hz
    · rw [e]
      exact r
    · exact h3 z hz
theorem prd_of {α β : Type} {F : α → β → Prop} : ∀ {zs : List (α × β)}, (∀ z ∈ zs, F z.1 z.2) → Paired F (zs.map (·.1)) (zs.map (·.2))
  | [], _ => .nil
  | z :: zs, h => .cons (h z List.mem_cons_self) (prd_of fun y hy => h y (List.mem_cons_of_mem _ hy))

/-! ### sets of people, lists of crews -/
def sD (ns : List Str) : PD := .tuple (ns.map .str)
def tD (ts : List (List Str)) : PD := .tuple (ts.map sD)
def S1 (K : Frag) (H : Hp) (v : V) (ns : List Str) : Prop := ∃ a, v = .ref a ∧ SqT K H a (ns.map V.str)
def S2 (K : Frag) (H : Hp) (v : V) (ts : List (List Str)) : Prop := ∃ a xs, v = .ref a ∧ SqT K H a xs ∧ Paired (S1 K H) xs ts
section
variable {K : Frag} {H H' H0 : Hp}
theorem dpStrs : ∀ ns : List Str, DpAll K H (ns.map V.str) (ns.map PyData.str)
  | [] => .nil
  | n :: ns => .cons (.str n) (dpStrs ns)
theorem S1.dp {v : V} {ns : List Str} (h : S1 K H v ns) : Dp K H v (sD ns) := by
  obtain ⟨a, rfl, h⟩ := h
  exact .tup h (dpStrs ns)
theorem s1s_dp : ∀ {xs : List V} {ts : List (List Str)}, Paired (S1 K H) xs ts → DpAll K H xs (ts.map sD)
  | _, _, .nil => .nil
  | _, _, .cons r t => .cons r.dp (s1s_dp t)
theorem S2.dp {v : V} {ts : List (List Str)} (h : S2 K H v ts) : Dp K H v (tD ts) := by
  obtain ⟨a, xs, rfl, h, t⟩ := h
  exact .tup h (s1s_dp t)
theorem S1.same {v : V} {ns : List Str} (e : Same H H') (h : S1 K H v ns) : S1 K H' v ns := by
  obtain ⟨a, rfl, h⟩ := h
  exact ⟨a, rfl, sameT e h⟩
theorem S2.same {v : V} {ts : List (List Str)} (e : Same H H') (h : S2 K H v ts) : S2 K H' v ts := by
  obtain ⟨a, xs, rfl, h, t⟩ := h
  exact ⟨a, xs, rfl, sameT e h, prd_mono (fun _ _ z => z.same e) t⟩
theorem same_upd {p : Addr} {o : HO} (h : H p = none) : Same H (upd H p o) := fun b x e => by
  rw [upd_ne (ne_of_none e h)]
  exact e
theorem same_mut {p : Addr} {o : HO} (e : Same H0 H) (h : H0 p = none) : Same H0 (upd H p o) := fun b x z => by
  rw [upd_ne (ne_of_none z h)]
  exact e b x z
theorem st_ (h : H' a = some (.tup xs)) : SqT K H' a xs := .inl (.inl h)
theorem sl_ (h : H' a = some (.lst xs)) : SqL K H' a xs := .inl (.inl h)

/-! ### the dict at r may change, all else stands -/
def Ch (r : Addr) (H H' : Hp) : Prop := ∀ b o, H b = some o → H' b = some o ∨ (b = r ∧ (∃ k, o = .dK k) ∧ ∃ k, H' b = some (.dK k))
variable {r : Addr}
theorem Ch.refl : Ch r H H := fun _ _ h => .inl h
theorem Ch.of (e : Same H H') : Ch r H H' := fun b o h => .inl (e b o h)
theorem Ch.trans (h1 : Ch r H0 H) (h2 : Ch r H H') : Ch r H0 H' := fun b o h => by
  rcases h1 b o h with e | ⟨rfl, k, k', e⟩
  · exact h2 b o e
  · rcases h2 _ _ e with e2 | ⟨_, _, k2, e2⟩
    · exact .inr ⟨rfl, k, k', e2⟩
    · exact .inr ⟨rfl, k, k2, e2⟩
theorem Ch.at (h : Ch r H H') {b : Addr} {o : HO} (e : H b = some o) (n : ∀ k, o ≠ .dK k) : H' b = some o := by
  rcases h b o e with z | ⟨_, ⟨k, z⟩, _⟩
  · exact z
  · exact absurd z (n k)
theorem Ch.lst (h : Ch r H H') {b : Addr} {xs : List V} (e : H b = some (.lst xs)) : H' b = some (.lst xs) := h.at e fun _ z => by cases z
theorem Ch.sqT (h : Ch r H H') {a : Addr} {xs : List V} (e : SqT K H a xs) : SqT K H' a xs := by
  rcases e with (e | ⟨o, e⟩) | e
  · exact .inl (.inl (h.at e fun _ z => by cases z))
  · exact .inl (.inr ⟨o, h.at e fun _ z => by cases z⟩)
  · exact .inr e
theorem Ch.sqL (h : Ch r H H') {a : Addr} {xs : List V} (e : SqL K H a xs) : SqL K H' a xs := by
  rcases e with (e | ⟨o, e⟩) | e
  · exact .inl (.inl (h.at e fun _ z => by cases z))
  · exact .inl (.inr ⟨o, h.at e fun _ z => by cases z⟩)
  · exact .inr e
theorem Ch.s1 (h : Ch r H H') {v : V} {ns : List Str} (e : S1 K H v ns) : S1 K H' v ns := by
  obtain ⟨a, rfl, e⟩ := e
  exact ⟨a, rfl, h.sqT e⟩
theorem Ch.s1s (h : Ch r H H') {xs : List V} {ts : List (List Str)} (e : Paired (S1 K H) xs ts) : Paired (S1 K H') xs ts := prd_mono (fun _ _ z => h.s1 z) e
theorem Ch.s2 (h : Ch r H H') {v : V} {ts : List (List Str)} (e : S2 K H v ts) : S2 K H' v ts := by
  obtain ⟨a, xs, rfl, e, t⟩ := e
  exact ⟨a, xs, rfl, h.sqT e, h.s1s t⟩
theorem Ch.free (h : Ch r H H') {l : Addr} (e : H' l = none) : H l = none := by
  cases q : H l with
  | none => rfl
  | some o =>
    rcases h l o q with z | ⟨_, _, k, z⟩
    · rw [e] at z; cases z
    · rw [e] at z; cases z
theorem Ch.upd (h : Ch r H0 H) {l : Addr} {o : HO} (n : H0 l = none) : Ch r H0 (L2.upd H l o) := fun b x e => by
  have nb := ne_of_none e n
  rw [upd_ne nb]
  exact h b x e
theorem Ch.new {l : Addr} {o : HO} (n : H l = none) : Ch r H (L2.upd H l o) := Ch.refl.upd n
theorem Ch.put {k k' : List (Key × V)} (e : H r = some (.dK k)) : Ch r H (L2.upd H r (.dK k')) := fun b o h => by
  by_cases hb : b = r
  · subst hb
    rw [e] at h
    cases h
    exact .inr ⟨rfl, ⟨_, rfl⟩, k', upd_same⟩
  · exact .inl (by rw [upd_ne hb]; exact h)
end

/-! ### sorted -/
/-- texts in order -/
def srt (ns : List Str) : List Str := ns.mergeSort (dataLe false PyData.str)
theorem srt_perm (ns : List Str) : (srt ns).Perm ns := List.mergeSort_perm ns _
theorem srt_len (ns : List Str) : (srt ns).length = ns.length := (srt_perm ns).length_eq
/-- crews in order -/
def srtT (ts : List (List Str)) : List (List Str) := ts.mergeSort (dataLe false sD)
theorem srtT_perm (ts : List (List Str)) : (srtT ts).Perm ts := List.mergeSort_perm ts _
section
variable {K : Frag} {H : Hp} {Q : VK}
theorem srt_any {a : Addr} {ns : List Str} (h : SqL K H a (ns.map V.str) ∨ SqT K H a (ns.map V.str)) (q : ∀ p, H p = none → Q (.ref p) (upd H p (.lst ((srt ns).map V.str)))) : rSrt K [.ref a] H Q := by
  refine ⟨a, ns.map fun s => (V.str s, PyData.str s), rfl, by rw [List.map_map]; exact h, fun b hb => ?_, fun d hd d' hd' => ?_, .inr fun d hd => ?_, fun b hb => ?_, fun p hp => ?_⟩
  · obtain ⟨s, _, rfl⟩ := List.mem_map.mp hb
    exact .str s
  · rw [List.map_map] at hd hd'
    obtain ⟨s, _, rfl⟩ := List.mem_map.mp hd
    obtain ⟨s', _, rfl⟩ := List.mem_map.mp hd'
    simp [alike]
  · rw [List.map_map] at hd
    obtain ⟨s, _, rfl⟩ := List.mem_map.mp hd
    exact ⟨fun z => (nomatch z), fun _ z => (nomatch z)⟩
  · obtain ⟨s, _, rfl⟩ := List.mem_map.mp hb
    simp [PyData.depth]
  · have e : ordD (ns.map fun s => (V.str s, PyData.str s)) = (srt ns).map fun s => (V.str s, PyData.str s) :=
      (sort_maps (fun s : Str => (V.str s, PyData.str s)) (r := dataLe false PyData.str) (s := dataLe false fun b : V × PD => b.2) fun _ _ _ _ => rfl).symm
    rw [e, List.map_map]
    exact q p hp
theorem srt_strs {a : Addr} {ns : List Str} (h : SqL K H a (ns.map V.str)) (q : ∀ p, H p = none → Q (.ref p) (upd H p (.lst ((srt ns).map V.str)))) : rSrt K [.ref a] H Q := srt_any (.inl h) q
theorem alike_strs : ∀ xs ys : List Str, alikeAll (xs.map PyData.str) (ys.map PyData.str) = true
  | [], _ => by simp [alikeAll]
  | _ :: _, [] => by simp [alikeAll]
  | x :: xs, y :: ys => by
    show alikeAll (PyData.str x :: xs.map PyData.str) (PyData.str y :: ys.map PyData.str) = true
    rw [alikeAll, alike_strs xs ys]
    simp [alike]
theorem depth_strs : ∀ xs : List Str, PyData.depthAll (xs.map PyData.str) = 0
  | [] => by simp [PyData.depthAll]
  | x :: xs => by
    show PyData.depthAll (PyData.str x :: xs.map PyData.str) = 0
    rw [PyData.depthAll, depth_strs xs]
    simp [PyData.depth]
theorem depth_sD (ns : List Str) : (sD ns).depth = 1 := by
  unfold sD
  rw [PyData.depth, depth_strs]
theorem srt_teams {a : Addr} {xs : List V} {ts : List (List Str)} (h : SqL K H a xs) (hp : Paired (S1 K H) xs ts) (h0 : ∀ t ∈ ts, t ≠ []) (q : ∀ p ys, H p = none → Paired (S1 K H) ys (srtT ts) → Q (.ref p) (upd H p (.lst ys))) : rSrt K [.ref a] H Q := by
  obtain ⟨zs, rfl, rfl, hz⟩ := prd_fst hp
  have e1 : (zs.map fun z => (z.1, sD z.2)).map (·.1) = zs.map (·.1) := by rw [List.map_map]; rfl
  refine ⟨a, zs.map fun z => (z.1, sD z.2), rfl, by rw [e1]; exact .inl h, fun b hb => ?_, fun d hd d' hd' => ?_, .inl fun d hd => ?_, fun b hb => ?_, fun p hp => ?_⟩
  · obtain ⟨s, hs, rfl⟩ := List.mem_map.mp hb
    exact (hz s hs).dp
  · rw [List.map_map] at hd hd'
    obtain ⟨s, _, rfl⟩ := List.mem_map.mp hd
    obtain ⟨s', _, rfl⟩ := List.mem_map.mp hd'
    show alike (sD s.2) (sD s'.2) = true
    unfold sD
    rw [alike]
    exact alike_strs _ _
  · rw [List.map_map] at hd
    obtain ⟨s, hs, rfl⟩ := List.mem_map.mp hd
    have n := h0 s.2 (List.mem_map.mpr ⟨s, hs, rfl⟩)
    show ∃ x r, sD s.2 = .tuple (x :: r)
    match e : s.2 with
    | [] => exact absurd e n
    | x :: r => exact ⟨PyData.str x, r.map PyData.str, rfl⟩
  · obtain ⟨s, _, rfl⟩ := List.mem_map.mp hb
    show (sD s.2).depth ≤ 50
    rw [depth_sD]
    decide
  · have e : ordD (zs.map fun z => (z.1, sD z.2)) = (zs.mergeSort (dataLe false fun z : V × List Str => sD z.2)).map fun z => (z.1, sD z.2) :=
      (sort_maps (fun z : V × List Str => (z.1, sD z.2)) (r := dataLe false fun z : V × List Str => sD z.2) (s := dataLe false fun b : V × PD => b.2) fun _ _ _ _ => rfl).symm
    have e2 : (zs.mergeSort (dataLe false fun z : V × List Str => sD z.2)).map (·.2) = srtT (zs.map (·.2)) :=
      sort_maps (fun z : V × List Str => z.2) (r := dataLe false fun z : V × List Str => sD z.2) (s := dataLe false sD) fun _ _ _ _ => rfl
    rw [e, List.map_map]
    refine q p ((zs.mergeSort (dataLe false fun z : V × List Str => sD z.2)).map (·.1)) hp ?_
    rw [← e2]
    exact prd_of fun z m => hz z (List.mem_mergeSort.mp m)
end
/-! ### who is in a set -/
def isIn (x : Str) (ns : List Str) : Bool := ns.any (· == x)
theorem inV_strs (x : Str) (ns : List Str) : inV (.str x) (ns.map V.str) = isIn x ns := by
  unfold inV isIn
  rw [List.any_map]
  rfl
theorem flat_strs (ns : List Str) : (ns.map V.str).all flatV = true := by
  rw [List.all_map]
  simp [flatV]
end Cb

/-! Comprehensions that change nothing; data compared; what a repr comes to. -/
namespace Cb
open PySem PySem.Spec PyProof.Rows L2 PySem.W
theorem take_snoc {α : Type} {xs : List α} {i : Nat} {x : α} (h : xs[i]? = some x) : xs.take (i + 1) = xs.take i ++ [x] := by
  rw [List.take_add_one, h]
  rfl
theorem big (h : n ≤ 100000) : n < sizeLine := Nat.lt_of_le_of_lt h (by decide)
/-! ### what stands whatever lists and dicts do -/
def Fx (H H' : Hp) : Prop := ∀ b o, H b = some o → (∃ xs, o = .lst xs) ∨ (∃ k, o = .dK k) ∨ H' b = some o
section
variable {K : Frag} {H H' H0 : Hp}
theorem Fx.refl : Fx H H := fun _ _ h => .inr (.inr h)
theorem Fx.of (e : Same H H') : Fx H H' := fun b o h => .inr (.inr (e b o h))
theorem Fx.ch {r : Addr} (e : Ch r H H') : Fx H H' := fun b o h => by
  rcases e b o h with z | ⟨_, z, _⟩
  · exact .inr (.inr z)
  · exact .inr (.inl z)
theorem Fx.trans (h1 : Fx H0 H) (h2 : Fx H H') : Fx H0 H' := fun b o h => by
  rcases h1 b o h with z | z | z
  · exact .inl z
  · exact .inr (.inl z)
  · exact h2 b o z
theorem Fx.mut {l : Addr} {xs : List V} {o : HO} (e : H l = some (.lst xs)) : Fx H (upd H l o) := fun b u h => by
  by_cases hb : b = l
  · subst hb
    rw [e] at h
    cases h
    exact .inl ⟨_, rfl⟩
  · exact .inr (.inr (by rw [upd_ne hb]; exact h))
theorem Fx.sqT (h : Fx H H') {a : Addr} {xs : List V} (e : SqT K H a xs) : SqT K H' a xs := by
  rcases e with (e | ⟨o, e⟩) | e
  · rcases h _ _ e with ⟨_, z⟩ | ⟨_, z⟩ | z
    · cases z
    · cases z
    · exact .inl (.inl z)
  · rcases h _ _ e with ⟨_, z⟩ | ⟨_, z⟩ | z
    · cases z
    · cases z
    · exact .inl (.inr ⟨o, z⟩)
  · exact .inr e
theorem Fx.s1 (h : Fx H H') {v : V} {ns : List Str} (e : S1 K H v ns) : S1 K H' v ns := by
  obtain ⟨a, rfl, e⟩ := e
  exact ⟨a, rfl, h.sqT e⟩
theorem Fx.s1s (h : Fx H H') {xs : List V} {ts : List (List Str)} (e : Paired (S1 K H) xs ts) : Paired (S1 K H') xs ts := prd_mono (fun _ _ z => h.s1 z) e
theorem Fx.s2 (h : Fx H H') {v : V} {ts : List (List Str)} (e : S2 K H v ts) : S2 K H' v ts := by
  obtain ⟨a, xs, rfl, e, t⟩ := e
  exact ⟨a, xs, rfl, h.sqT e, h.s1s t⟩
end
section
variable {K : Frag} {xs : List V} {tl : TE} {j : Nat} {vs : List Nat} {σ : Stt} {H : Hp} {Q : VK} {tt : TT} {te : TE}
theorem turn_filter {D : Addr} (f : V → Bool) (g : V → V) (hD : H D = none) (hn : xs.length ≤ 100000)
    (ht : ∀ x ∈ xs, ∀ H1, Same H H1 → ∀ R : Bool → Hp → Prop, R (f x) H1 → tt ((wipe σ vs).set j (some x)) H1 R)
    (he : ∀ x ∈ xs, f x = true → ∀ H1, Same H H1 → ∀ R : VK, (∀ H2, Same H1 H2 → R (g x) H2) → te ((wipe σ vs).set j (some x)) H1 R)
    {i : Nat} {x : V} {H' : Hp} (hi : xs[i]? = some x) (p : Same H H' ∧ H' D = some (.lst (((xs.take i).filter f).map g))) :
    tt ((wipe σ vs).set j (some x)) H' fun b H3 => if b = true then te ((wipe σ vs).set j (some x)) H3 fun y H4 => ∃ acc, H4 D = some (.lst acc) ∧ acc.length < sizeLine ∧
      (Same H (upd H4 D (.lst (acc ++ [y]))) ∧ (upd H4 D (.lst (acc ++ [y]))) D = some (.lst (((xs.take (i + 1)).filter f).map g))) else Same H H3 ∧ H3 D = some (.lst (((xs.take (i + 1)).filter f).map g)) := by
  have hx : x ∈ xs := List.mem_of_getElem? hi
  refine ht x hx H' p.1 _ ?_
  rw [take_snoc hi, List.filter_append, List.map_append]
  by_cases hf : f x = true
  · rw [if_pos hf]
    refine he x hx hf H' p.1 _ fun H2 e2 => ⟨_, e2 _ _ p.2, ?_, same_mut (p.1.trans e2) hD, ?_⟩
    · rw [List.length_map]
      exact big (Nat.le_trans (List.length_filter_le _ _) (by rw [List.length_take]; omega))
    · rw [upd_same, List.filter_cons_of_pos hf]
      rfl
  · rw [if_neg hf]
    refine ⟨p.1, ?_⟩
    rw [p.2, List.filter_cons_of_neg hf]
    simp
/-- [e for x in t if ..], t a tuple, nothing changed -/
theorem lcT_filter (f : V → Bool) (g : V → V) (hl : ∀ R : VK, (∀ a H1, Same H H1 → SqT K H1 a xs → R (.ref a) H1) → tl σ H R) (hn : xs.length ≤ 100000) (hj : ∀ x, wipe ((wipe σ vs).set j (some x)) vs = wipe σ vs)
    (ht : ∀ x ∈ xs, ∀ H1, Same H H1 → ∀ R : Bool → Hp → Prop, R (f x) H1 → tt ((wipe σ vs).set j (some x)) H1 R)
    (he : ∀ x ∈ xs, f x = true → ∀ H1, Same H H1 → ∀ R : VK, (∀ H2, Same H1 H2 → R (g x) H2) → te ((wipe σ vs).set j (some x)) H1 R)
    (q : ∀ D H', H D = none → Same H H' → H' D = some (.lst ((xs.filter f).map g)) → Q (.ref D) H') : tLc (iTup K tl) (gName j) tt te vs σ H Q := by
  refine hl _ fun a H1 e1 hs => ⟨a, rfl, ⟨xs, hs⟩, fun D hD => ?_⟩
  refine lc_tup (K := K) (a := a) (xs := xs) (fun i H' => Same H1 H' ∧ H' D = some (.lst (((xs.take i).filter f).map g))) ⟨same_upd hD, upd_same⟩ (fun i H' _ p => sameT p.1 hs)
    (fun i x H' hi p => ⟨hj x, turn_filter f g hD hn (fun x hx H2 e2 => ht x hx H2 (e1.trans e2)) (fun x hx hf H2 e2 => he x hx hf H2 (e1.trans e2)) hi p⟩) fun H' p => ?_
  refine q D H' (e1.free hD) (e1.trans p.1) ?_
  rw [p.2, List.take_length]
theorem lcL_filter (f : V → Bool) (g : V → V) (hl : ∀ R : VK, (∀ a H1, Same H H1 → SqL K H1 a xs → R (.ref a) H1) → tl σ H R) (hn : xs.length ≤ 100000) (hj : ∀ x, wipe ((wipe σ vs).set j (some x)) vs = wipe σ vs)
    (ht : ∀ x ∈ xs, ∀ H1, Same H H1 → ∀ R : Bool → Hp → Prop, R (f x) H1 → tt ((wipe σ vs).set j (some x)) H1 R)
    (he : ∀ x ∈ xs, f x = true → ∀ H1, Same H H1 → ∀ R : VK, (∀ H2, Same H1 H2 → R (g x) H2) → te ((wipe σ vs).set j (some x)) H1 R)
    (q : ∀ D H', H D = none → Same H H' → H' D = some (.lst ((xs.filter f).map g)) → Q (.ref D) H') : tLc (iList K tl) (gName j) tt te vs σ H Q := by
  refine hl _ fun a H1 e1 hs => ⟨a, rfl, ⟨xs, hs⟩, fun D hD => ?_⟩
  refine lc_list (K := K) (a := a) (xs := xs) (fun i H' => Same H1 H' ∧ H' D = some (.lst (((xs.take i).filter f).map g))) ⟨same_upd hD, upd_same⟩ (fun i H' _ p => p.1.seq hs)
    (fun i x H' hi p => ⟨hj x, turn_filter f g hD hn (fun x hx H2 e2 => ht x hx H2 (e1.trans e2)) (fun x hx hf H2 e2 => he x hx hf H2 (e1.trans e2)) hi p⟩) fun H' p => ?_
  refine q D H' (e1.free hD) (e1.trans p.1) ?_
  rw [p.2, List.take_length]
/-- every item gives one element, which stands for b -/
theorem turn_rel {β : Type} {F : Hp → V → β → Prop} (mono : ∀ H1 H2 v b, Fx H1 H2 → F H1 v b → F H2 v b) {bs : List β} {D : Addr} (hD : H D = none) (hn : xs.length ≤ 100000) (hlen : xs.length = bs.length)
    (he : ∀ (i : Nat) (x : V) (b : β), xs[i]? = some x → bs[i]? = some b → ∀ H1, Same H H1 → ∀ R : VK, (∀ v H2, Same H1 H2 → F H2 v b → R v H2) → te ((wipe σ vs).set j (some x)) H1 R)
    {i : Nat} {x : V} {H' : Hp} (hi : xs[i]? = some x) (p : Same H H' ∧ ∃ us, H' D = some (.lst us) ∧ Paired (F H') us (bs.take i)) :
    te ((wipe σ vs).set j (some x)) H' fun y H4 => ∃ acc, H4 D = some (.lst acc) ∧ acc.length < sizeLine ∧ (Same H (upd H4 D (.lst (acc ++ [y]))) ∧ ∃ us, (upd H4 D (.lst (acc ++ [y]))) D = some (.lst us) ∧ Paired (F (upd H4 D (.lst (acc ++ [y])))) us (bs.take (i + 1))) := by
  have hlt := (List.getElem?_eq_some_iff.mp hi).1
  obtain ⟨b, hb⟩ : ∃ b, bs[i]? = some b := ⟨bs[i]'(by omega), List.getElem?_eq_getElem (by omega)⟩
  obtain ⟨e1, us, hu, hp⟩ := p
  have hl := prd_len hp
  rw [List.length_take] at hl
  refine he i x b hi hb H' e1 _ fun v H2 e2 hv => ⟨us, e2 _ _ hu, big (by omega), same_mut (e1.trans e2) hD, us ++ [v], upd_same, ?_⟩
  have f2 : Fx H2 (upd H2 D (.lst (us ++ [v]))) := Fx.mut (e2 _ _ hu)
  rw [take_snoc hb]
  exact prd_app (prd_mono (fun _ _ z => mono _ _ _ _ ((Fx.of e2).trans f2) z) hp) (.cons (mono _ _ _ _ f2 hv) .nil)
theorem lcL_rel {β : Type} {F : Hp → V → β → Prop} (mono : ∀ H1 H2 v b, Fx H1 H2 → F H1 v b → F H2 v b) (bs : List β) (hl : ∀ R : VK, (∀ a H1, Same H H1 → SqL K H1 a xs → R (.ref a) H1) → tl σ H R) (hn : xs.length ≤ 100000) (hlen : xs.length = bs.length)
    (hj : ∀ x, wipe ((wipe σ vs).set j (some x)) vs = wipe σ vs)
    (he : ∀ (i : Nat) (x : V) (b : β), xs[i]? = some x → bs[i]? = some b → ∀ H1, Same H H1 → ∀ R : VK, (∀ v H2, Same H1 H2 → F H2 v b → R v H2) → te ((wipe σ vs).set j (some x)) H1 R)
    (q : ∀ D us H', H D = none → Same H H' → H' D = some (.lst us) → Paired (F H') us bs → Q (.ref D) H') : tLc (iList K tl) (gName j) tYes te vs σ H Q := by
  refine hl _ fun a H1 e1 hs => ⟨a, rfl, ⟨xs, hs⟩, fun D hD => ?_⟩
  refine lc_list (K := K) (a := a) (xs := xs) (fun i H' => Same H1 H' ∧ ∃ us, H' D = some (.lst us) ∧ Paired (F H') us (bs.take i)) ⟨same_upd hD, [], upd_same, .nil⟩ (fun i H' _ p => p.1.seq hs)
    (fun i x H' hi p => ⟨hj x, turn_rel mono hD hn hlen (fun i x b h1 h2 H2 e2 => he i x b h1 h2 H2 (e1.trans e2)) hi p⟩) fun H' p => ?_
  obtain ⟨e2, us, hu, hp⟩ := p
  rw [hlen, List.take_length] at hp
  exact q D us H' (e1.free hD) (e1.trans e2) hu hp
theorem lcT_rel {β : Type} {F : Hp → V → β → Prop} (mono : ∀ H1 H2 v b, Fx H1 H2 → F H1 v b → F H2 v b) (bs : List β) (hl : ∀ R : VK, (∀ a H1, Same H H1 → SqT K H1 a xs → R (.ref a) H1) → tl σ H R) (hn : xs.length ≤ 100000) (hlen : xs.length = bs.length)
    (hj : ∀ x, wipe ((wipe σ vs).set j (some x)) vs = wipe σ vs)
    (he : ∀ (i : Nat) (x : V) (b : β), xs[i]? = some x → bs[i]? = some b → ∀ H1, Same H H1 → ∀ R : VK, (∀ v H2, Same H1 H2 → F H2 v b → R v H2) → te ((wipe σ vs).set j (some x)) H1 R)
    (q : ∀ D us H', H D = none → Same H H' → H' D = some (.lst us) → Paired (F H') us bs → Q (.ref D) H') : tLc (iTup K tl) (gName j) tYes te vs σ H Q := by
  refine hl _ fun a H1 e1 hs => ⟨a, rfl, ⟨xs, hs⟩, fun D hD => ?_⟩
  refine lc_tup (K := K) (a := a) (xs := xs) (fun i H' => Same H1 H' ∧ ∃ us, H' D = some (.lst us) ∧ Paired (F H') us (bs.take i)) ⟨same_upd hD, [], upd_same, .nil⟩ (fun i H' _ p => sameT p.1 hs)
    (fun i x H' hi p => ⟨hj x, turn_rel mono hD hn hlen (fun i x b h1 h2 H2 e2 => he i x b h1 h2 H2 (e1.trans e2)) hi p⟩) fun H' p => ?_
  obtain ⟨e2, us, hu, hp⟩ := p
  rw [hlen, List.take_length] at hp
  exact q D us H' (e1.free hD) (e1.trans e2) hu hp
end

/-! ### data compared -/
theorem eqv_strs : ∀ xs ys : List Str, PyData.eqvAll (xs.map .str) (ys.map .str) = decide (xs = ys)
  | [], [] => by simp [PyData.eqvAll]
  | [], _ :: _ => by simp [PyData.eqvAll]
  | _ :: _, [] => by simp [PyData.eqvAll]
  | x :: xs, y :: ys => by
    show PyData.eqvAll (.str x :: xs.map .str) (.str y :: ys.map .str) = _
    rw [PyData.eqvAll, eqv_strs xs ys, PyData.eqv]
    by_cases h : x = y <;> by_cases h2 : xs = ys <;> simp [h, h2]
theorem eqv_sD (xs ys : List Str) : PyData.eqv (sD xs) (sD ys) = decide (xs = ys) := by
  unfold sD
  rw [PyData.eqv, eqv_strs]
/-- whether a set is one of these -/
def isOne (x : List Str) (ts : List (List Str)) : Bool := ts.any fun t => decide (t = x)
theorem any_sD (x : List Str) (ts : List (List Str)) : ((ts.map sD).any fun z => PyData.eqv z (sD x)) = isOne x ts := by
  unfold isOne
  rw [List.any_map]
  congr 1
  funext t
  exact eqv_sD t x
theorem eqv_strs_nil (xs : List Str) : PyData.eqv (.list (xs.map .str)) (.list []) = xs.isEmpty := by
  cases xs <;> simp [PyData.eqv, PyData.eqvAll]
theorem eqv_list_nil (xs : List PD) : PyData.eqv (.list xs) (.list []) = xs.isEmpty := by
  cases xs <;> simp [PyData.eqv, PyData.eqvAll]

/-! ### names that may stand in data -/
def okS (s : Str) : Prop := PyData.strOk s = true ∧ (reprText s).length ≤ 20
theorem lay_strs : ∀ ns : List Str, (∀ n ∈ ns, okS n) → PyData.canLayAll0 (ns.map .str) = true
  | [], _ => by simp [PyData.canLayAll0]
  | n :: ns, h => by
    show PyData.canLayAll0 (.str n :: ns.map .str) = true
    rw [PyData.canLayAll0, lay_strs ns fun m hm => h m (List.mem_cons_of_mem _ hm), PyData.canLay0, (h n List.mem_cons_self).1]
    rfl
theorem shaped_sD {ns : List Str} (h : ∀ n ∈ ns, okS n) : SeqAt.shaped (sD ns) = true := by
  unfold SeqAt.shaped
  rw [depth_sD]
  unfold sD
  rw [PyData.canLay0, lay_strs ns h]
  rfl
theorem shaped_strs {ns : List Str} (h : ∀ n ∈ ns, okS n) : SeqAt.shaped (.list (ns.map .str)) = true := by
  unfold SeqAt.shaped
  rw [PyData.canLay0, lay_strs ns h, PyData.depth, depth_strs]
  rfl
theorem lay_teams : ∀ ts : List (List Str), (∀ t ∈ ts, ∀ n ∈ t, okS n) → PyData.canLayAll0 (ts.map sD) = true
  | [], _ => by simp [PyData.canLayAll0]
  | t :: ts, h => by
    show PyData.canLayAll0 (sD t :: ts.map sD) = true
    rw [PyData.canLayAll0, lay_teams ts fun m hm => h m (List.mem_cons_of_mem _ hm), SeqAt.canLay_of_shaped (shaped_sD (h t List.mem_cons_self))]
    rfl
theorem depth_teams : ∀ ts : List (List Str), PyData.depthAll (ts.map sD) ≤ 1
  | [] => by simp [PyData.depthAll]
  | t :: ts => by
    show PyData.depthAll (sD t :: ts.map sD) ≤ 1
    rw [PyData.depthAll, depth_sD]
    exact Nat.max_le.mpr ⟨Nat.le_refl _, depth_teams ts⟩
theorem shaped_teams {ts : List (List Str)} (h : ∀ t ∈ ts, ∀ n ∈ t, okS n) : SeqAt.shaped (.list (ts.map sD)) = true := by
  unfold SeqAt.shaped
  rw [PyData.canLay0, lay_teams ts h, PyData.depth]
  have := depth_teams ts
  simp
  omega
theorem shaped_tD {ts : List (List Str)} (h : ∀ t ∈ ts, ∀ n ∈ t, okS n) : SeqAt.shaped (tD ts) = true := by
  unfold SeqAt.shaped tD
  rw [PyData.canLay0, lay_teams ts h, PyData.depth]
  have := depth_teams ts
  simp
  omega
/-! ### repr of lists of crews -/
theorem show_sD (ns : List Str) : PyData.showable (sD ns) = true := by
  unfold sD
  rw [PyData.showable]
  exact PyData.showableAll_strs ns
theorem nodict_sD : ∀ ns : List Str, PyData.hasDictAll (ns.map .str) = false
  | [] => by simp [PyData.hasDictAll]
  | n :: ns => by
    show PyData.hasDictAll (.str n :: ns.map .str) = false
    rw [PyData.hasDictAll, nodict_sD ns]
    simp [PyData.hasDict]
theorem nodict_tD : ∀ ts : List (List Str), PyData.hasDictAll (ts.map sD) = false
  | [] => by simp [PyData.hasDictAll]
  | t :: ts => by
    show PyData.hasDictAll (sD t :: ts.map sD) = false
    rw [PyData.hasDictAll, nodict_tD ts]
    unfold sD
    rw [PyData.hasDict, nodict_sD]
    rfl
theorem piled_le (m : Nat) : ∀ {ts : List Str}, (∀ t ∈ ts, t.length ≤ m) → piled ts ≤ ts.length * (m + 2)
  | [], _ => Nat.zero_le _
  | t :: ts, h => by
    have := piled_le m (ts := ts) fun x hx => h x (List.mem_cons_of_mem _ hx)
    have := h t List.mem_cons_self
    rw [piled_cons, List.length_cons, Nat.succ_mul]
    omega
theorem long_sD {ns : List Str} (h : ∀ n ∈ ns, okS n) (hl : ns.length ≤ 8) : (sD ns).shown.length ≤ 178 := by
  unfold sD
  rw [PyData.shown, PyData.shownAll_strs]
  have h1 := fmt_text (ns.map reprText)
  have h2 := piled_le 20 (ts := ns.map reprText) fun t ht => by
    obtain ⟨n, hn, rfl⟩ := List.mem_map.mp ht
    exact (h n hn).2
  rw [List.length_map] at h2
  have : ns.length * 22 ≤ 8 * 22 := Nat.mul_le_mul_right _ hl
  omega
theorem shown_all : ∀ ts : List PD, PyData.shownAll ts = ts.map PyData.shown
  | [] => by simp [PyData.shownAll]
  | t :: ts => by rw [PyData.shownAll, shown_all ts]; rfl
theorem long_tD {ts : List (List Str)} (h : ∀ t ∈ ts, t.length ≤ 8 ∧ ∀ n ∈ t, okS n) (hl : ts.length ≤ 1000) : (tD ts).shown.length ≤ sizeLine := by
  unfold tD
  rw [PyData.shown, shown_all, List.map_map]
  have h1 := fmt_text (ts.map (PyData.shown ∘ sD))
  have h2 := piled_le 178 (ts := ts.map (PyData.shown ∘ sD)) fun t ht => by
    obtain ⟨n, hn, rfl⟩ := List.mem_map.mp ht
    exact long_sD (h n hn).2 (h n hn).1
  rw [List.length_map] at h2
  have h3 : ts.length * 180 ≤ 1000 * 180 := Nat.mul_le_mul_right _ hl
  have h4 : 1000 * 180 + 2 ≤ sizeLine := by decide
  omega
theorem repr_teams {K : Frag} {H : Hp} {Q : VK} {a : Addr} {ts : List (List Str)} (h : S2 K H (.ref a) ts) (ho : ∀ t ∈ ts, t.length ≤ 8 ∧ ∀ n ∈ t, okS n) (hl : ts.length ≤ 1000) (q : Q (.str (tD ts).shown) H) : rRepr K [.ref a] H Q := by
  refine ⟨a, tD ts, rfl, h.dp, ?_, ?_, ?_, long_tD ho hl, q⟩
  · unfold tD
    rw [PyData.showable]
    exact PySem.Spec.showableAll_of fun x hx => by
      obtain ⟨t, _, rfl⟩ := List.mem_map.mp hx
      exact show_sD t
  · unfold tD
    rw [PyData.hasDict, nodict_tD]
  · unfold tD
    rw [PyData.depth]
    have := depth_teams ts
    omega
end Cb

/-! The layer's rules with the written part named, for use within comprehensions. -/
namespace Cb
open PySem PySem.Spec PyProof.Rows L2 PySem.W
section
variable (K : Frag) {X : Cx}
theorem o_nin (e : X.K = K := by rfl) : OpR X (compareOp .NotIn) (rIn K true) := by subst e; exact op_notIn_seq
theorem o_in (e : X.K = K := by rfl) : OpR X (compareOp .In) (rIn K false) := by subst e; exact op_in_seq
theorem o_inT (hu : X.A.units + 65 < cLine) (e : X.K = K := by rfl) : OpR X (compareOp .In) (rInT K) := by subst e; exact op_inT hu
theorem o_eqD (hu : X.A.units + 64 < cLine) (e : X.K = K := by rfl) : OpR X (compareOp .Eq) (rEqD K) := by subst e; exact op_eqD hu
theorem o_neD (hu : X.A.units + 64 < cLine) (e : X.K = K := by rfl) : OpR X (compareOp .NotEq) (rNeD K) := by subst e; exact op_neD hu
theorem o_catA (e : X.K = K := by rfl) : OpR X (binaryOp .Add) (rCatA K) := by subst e; exact op_catA
theorem i_list (e : X.K = K := by rfl) : IxR X (rIxL K) := by subst e; exact ix_list
theorem i_tup (e : X.K = K := by rfl) : IxR X (rIxT K) := by subst e; exact ix_tup
theorem s_list (e : X.K = K := by rfl) : SlR X (rSlL K) := by subst e; exact sl_list
theorem s_tupA (e : X.K = K := by rfl) : SlR X (rSlA K) := by subst e; exact sl_tupA
def rTupleOf (K : Frag) : List V → Hp → VK → Prop := fun xs H Q => ∃ p ys, xs = [.ref p] ∧ ((SqL K H p ys ∧ ∀ l, H l = none → Q (.ref l) (upd H l (.tup ys))) ∨ (SqT K H p ys ∧ Q (.ref p) H))
theorem c_tuple (e : X.K = K := by rfl) : CallR X (.type "tuple") (rTupleOf K) := by subst e; exact call_tuple_of
def rListOf (K : Frag) : List V → Hp → VK → Prop := fun xs H Q => ∃ p ys, xs = [.ref p] ∧ (SqL K H p ys ∨ SqT K H p ys) ∧ ∀ l, H l = none → Q (.ref l) (upd H l (.lst ys))
theorem c_list (e : X.K = K := by rfl) : CallR X (.type "list") (rListOf K) := by subst e; exact call_list_of
def rLenOf (K : Frag) : List V → Hp → VK → Prop := fun xs H Q => ∃ p ys, xs = [.ref p] ∧ (SqL K H p ys ∨ SqT K H p ys) ∧ Q (.int ys.length) H
theorem c_len (e : X.K = K := by rfl) : CallR X (.builtin "len") (rLenOf K) := by subst e; exact call_len_seq
theorem c_srt (hu : X.A.units + 64 < cLine) (e : X.K = K := by rfl) : CallR X (.builtin "sorted") (rSrt K) := by subst e; exact cr_srt hu
theorem c_any (hc : X.calm = true := by rfl) (e : X.K = K := by rfl) : CallR X (.builtin "any") (rAny K) := by subst e; exact cr_any hc
theorem c_all (hc : X.calm = true := by rfl) (e : X.K = K := by rfl) : CallR X (.builtin "all") (rAll K) := by subst e; exact cr_all hc
theorem c_repr (hu : X.A.units + 64 < cLine) (hg : Gu X.A) (e : X.K = K := by rfl) : CallR X (.builtin "repr") (rRepr K) := by subst e; exact cr_repr hu hg
theorem p_list {tg l : Expr} {tl : TE} (h : PE X l tl) (e : X.K = K := by rfl) : PI X tg l (iList K tl) := by subst e; exact pi_list h
theorem p_tup {tg l : Expr} {tl : TE} (h : PE X l tl) (e : X.K = K := by rfl) : PI X tg l (iTup K tl) := by subst e; exact pi_tup h
theorem p_app {o a : Expr} {apos cpos : Pos} {to te : TE} (ho : PE X o to) (ha : PE X a te)
    (h : PE X (.Call (.Attribute o "append" apos) [a] [] cpos) (tBM X.K "list" rAppend to (tCons te tNil))) (e : X.K = K := by rfl) :
    PE X (.Call (.Attribute o "append" apos) [a] [] cpos) (tBM K "list" rAppend to (tCons te tNil)) := by subst e; exact h
end
end Cb
namespace Cb
open PySem PySem.Spec PyProof.Rows L2 PySem.W
section
variable {K : Frag} {xs : List V} {tl : TE} {j : Nat} {vs : List Nat} {σ : Stt} {H : Hp} {tb : TB} {N : Hp → Prop}
/-- a later clause over a tuple -/
theorem cl_tup (Pv : Hp → Nat → Hp → Prop) (hl : ∀ R : VK, (∀ a H1, Same H H1 → SqT K H1 a xs → R (.ref a) H1) → tl σ H R) (hj : ∀ x, wipe ((wipe σ vs).set j (some x)) vs = wipe σ vs) (h0 : ∀ H1, Same H H1 → Pv H1 0 H1)
    (hst : ∀ i H1 H2, Pv H1 i H2 → Fx H1 H2) (hs : ∀ i x H0 H1, Same H H0 → xs[i]? = some x → Pv H0 i H1 → tb ((wipe σ vs).set j (some x)) H1 (Pv H0 (i + 1))) (hd : ∀ H0 H1, Same H H0 → Pv H0 xs.length H1 → N H1) : tCl (iTup K tl) (gName j) tYes tb vs σ H N := by
  refine hl _ fun a H1 e1 ht => ⟨a, rfl, ⟨xs, ht⟩, fun i m H' => m = xs.length - i ∧ i ≤ xs.length ∧ Pv H1 i H', ⟨xs.length, by simp, Nat.zero_le _, h0 H1 e1⟩, ?_⟩
  rintro i m H2 ⟨rfl, hi, p⟩
  have q := (hst i H1 H2 p).sqT ht
  by_cases hlt : i < xs.length
  · refine .inr ⟨⟨xs, xs[i], q, by simp [hlt]⟩, Pv H1 (i + 1), fun H' p' => ⟨xs.length - (i + 1), by omega, rfl, hlt, p'⟩, fun x H' y => ?_⟩
    obtain ⟨e, y⟩ := y
    subst e
    exact ⟨hj x, hs i x H1 _ e1 (y xs q) p⟩
  · obtain rfl : i = xs.length := by omega
    exact .inl ⟨⟨xs, q, Nat.le_refl _⟩, hd H1 H2 e1 p⟩
/-- the first clause over a tuple that stands -/
theorem lcN_tup {Q : VK} {a : Addr} {tbD : Addr → TB} (Pv : Addr → Nat → Hp → Prop) (hl : ∀ R : VK, R (.ref a) H → tl σ H R) (ht : SqT K H a xs) (hj : ∀ x, wipe ((wipe σ vs).set j (some x)) vs = wipe σ vs)
    (h0 : ∀ D, H D = none → Pv D 0 (upd H D (.lst []))) (hst : ∀ D i H2, Pv D i H2 → Fx H H2) (hs : ∀ D i x H1, xs[i]? = some x → Pv D i H1 → tbD D ((wipe σ vs).set j (some x)) H1 (Pv D (i + 1)))
    (hd : ∀ D H1, Pv D xs.length H1 → Q (.ref D) H1) : tLcN (iTup K tl) (gName j) tYes tbD vs σ H Q := by
  refine hl _ ⟨a, rfl, ⟨xs, ht⟩, fun D hD => ⟨fun i m H' => m = xs.length - i ∧ i ≤ xs.length ∧ Pv D i H', ⟨xs.length, by simp, Nat.zero_le _, h0 D hD⟩, ?_⟩⟩
  rintro i m H2 ⟨rfl, hi, p⟩
  have q := (hst D i H2 p).sqT ht
  by_cases hlt : i < xs.length
  · refine .inr ⟨⟨xs, xs[i], q, by simp [hlt]⟩, Pv D (i + 1), fun H' p' => ⟨xs.length - (i + 1), by omega, rfl, hlt, p'⟩, fun x H' y => ?_⟩
    obtain ⟨e, y⟩ := y
    subst e
    exact ⟨hj x, hs D i x _ (y xs q) p⟩
  · obtain rfl : i = xs.length := by omega
    exact .inl ⟨⟨xs, q, Nat.le_refl _⟩, hd D H2 p⟩
end
end Cb
namespace Cb
open PySem PySem.Spec PyProof.Rows L2 PySem.W
section
variable {K : Frag} {tl : TE} {j : Nat} {vs : List Nat} {σ : Stt} {H : Hp} {tt : TT} {g : TG} {tb : TS} {D : Ends} {Q : VK}
/-- for x in [s for s in t if ..], t a set of people -/
theorem for_names {ns : List Str} (p : Str → Bool) (hl : ∀ R : VK, (∀ a H1, Same H H1 → SqT K H1 a (ns.map V.str) → R (.ref a) H1) → tl σ H R) (hn : ns.length ≤ 1000) (hj : ∀ x, wipe ((wipe σ vs).set j (some x)) vs = wipe σ vs)
    (hv : ∀ x, ((wipe σ vs).set j (some x))[j]? = some (some x)) (ht : ∀ s ∈ ns, ∀ H1, Same H H1 → ∀ R : Bool → Hp → Prop, R (p s) H1 → tt ((wipe σ vs).set j (some (.str s))) H1 R)
    (lp : ∀ L H', H L = none → Same H H' → H' L = some (.lst ((ns.filter p).map V.str)) → ∃ Pv : Nat → Stt → Hp → Prop, Pv 0 σ H' ∧ (∀ i σ' H2, Pv i σ' H2 → H2 L = some (.lst ((ns.filter p).map V.str))) ∧
      (∀ i s σ' H2, (ns.filter p)[i]? = some s → Pv i σ' H2 → g (.str s) σ' H2 fun σ2 H3 => tb { D with nx := Pv (i + 1), ct := Pv (i + 1), bk := D.nx } σ2 H3) ∧ ∀ σ' H2, Pv (ns.filter p).length σ' H2 → D.nx σ' H2) :
    tFor (iList K (tLc (iTup K tl) (gName j) tt (tVar j) vs)) g tb D σ H := by
  unfold tFor iList
  refine lcT_filter (xs := ns.map V.str) (fun v => match v with | .str s => p s | _ => false) id hl (by rw [List.length_map]; omega) hj (fun v m H1 e1 R hR => ?_) (fun v m _ H1 e1 R hR => ⟨v, hv v, hR H1 (Same.refl H1)⟩) fun L H' nL e hL => ?_
  · obtain ⟨s, hs, rfl⟩ := List.mem_map.mp m
    exact ht s hs H1 e1 R hR
  · have e2 : ((ns.map V.str).filter (fun v => match v with | .str s => p s | _ => false)).map id = (ns.filter p).map V.str := by
      rw [List.map_id, List.filter_map]
      rfl
    rw [e2] at hL
    obtain ⟨Pv, h0, hst, hs, hd⟩ := lp L H' nL e hL
    refine ⟨L, rfl, ⟨_, sl_ hL⟩, for_list (xs := (ns.filter p).map V.str) Pv h0 (fun i σ' H2 _ z => sl_ (hst i σ' H2 z)) (fun i x σ' H2 hi z => ?_) fun σ' H2 z => ?_⟩
    · rw [List.getElem?_map] at hi
      obtain ⟨s, h1, rfl⟩ := Option.map_eq_some_iff.mp hi
      exact hs i s σ' H2 h1 z
    · rw [List.length_map] at z
      exact hd σ' H2 z
/-- t + u, sets of people -/
theorem cat_names {a b : Addr} {xs ys : List Str} (h1 : SqT K H a (xs.map V.str)) (h2 : SqT K H b (ys.map V.str)) (hn : xs.length + ys.length ≤ 100000) (q : ∀ z H', Same H H' → SqT K H' z ((xs ++ ys).map V.str) → Q (.ref z) H') : rCatA K (.ref a) (.ref b) H Q := by
  refine ⟨a, b, xs.map V.str, ys.map V.str, rfl, rfl, h1, h2, by rw [List.length_map, List.length_map]; exact Nat.le_of_lt (big hn), fun e => ?_, fun _ e => ?_, fun _ _ z nz => ?_⟩
  · have e' : xs = [] := List.map_eq_nil_iff.mp e
    subst e'
    exact q b H (Same.refl H) h2
  · have e' : ys = [] := List.map_eq_nil_iff.mp e
    subst e'
    refine q a H (Same.refl H) ?_
    rw [List.append_nil]
    exact h1
  · refine q z _ (same_upd nz) (st_ ?_)
    rw [upd_same, List.map_append]
end
end Cb
namespace Cb
open PySem PySem.Spec PyProof.Rows L2 PySem.W
/-- x = [], then the rest -/
theorem sq_lst {i : Nat} {rest : TS} {D : Ends} {σ : Stt} {H : Hp} (h : ∀ p, H p = none → rest D (σ.set i (some (.ref p))) (upd H p (.lst []))) : tSeq (tAsg (tLst tNil) (gName i)) rest D σ H := ⟨Nat.zero_le _, fun p hp => h p hp⟩
theorem sq_for {wi : TI} {g : TG} {tb u : TS} {D : Ends} {σ : Stt} {H : Hp} (h : tFor wi g tb { D with nx := u D } σ H) : tSeq (tFor wi g tb) u D σ H := h
theorem sq_while {tc : TT} {tb u : TS} {D : Ends} {σ : Stt} {H : Hp} (h : tWhile tc tb { D with nx := u D } σ H) : tSeq (tWhile tc tb) u D σ H := h
end Cb
namespace Cb
open PySem PySem.Spec PyProof.Rows L2 PySem.W
/-- sorted(xs, key=len), xs a list of sets of people -/
def tSrtLen (K : Frag) (ta : TE) : TE := fun σ H Q => ta σ H fun x H1 => ∃ (a : Addr) (bs : List (V × List Str)), x = .ref a ∧ SqL K H1 a (bs.map (·.1)) ∧ (∀ b ∈ bs, S1 K H1 b.1 b.2) ∧
  ∀ p, H1 p = none → Q (.ref p) (upd H1 p (.lst ((bs.mergeSort (dataLe false fun b : V × List Str => PyData.int b.2.length)).map (·.1))))
theorem pe_srtLen {X : Cx} {p q pos kpos : Pos} {e : Expr} {ta : TE} (hu : X.A.units + 64 < cLine) (ms : X.mg "sorted" = none) (ml : X.mg "len" = none) (gs : Gl X "sorted") (gl : Gl X "len") (ha : PE X e ta)
    (he : backTo pos (starEach [e] X.env) = (false, eval e X.env) :: backTo pos (starEach [] X.env) := by rfl) (hpl : (backTo pos (starEach [e] X.env)).any (·.1) = false := by rfl)
    (hall : (backToKw pos (keywordEach [⟨some "key", .Name "len" q, kpos⟩] X.env)).all (·.1.isSome) = true := by rfl) (hnone : (backToKw pos (keywordEach [⟨some "key", .Name "len" q, kpos⟩] X.env)).any (·.1.isNone) = false := by rfl)
    (hks : (backToKw pos (keywordEach [⟨some "key", .Name "len" q, kpos⟩] X.env)).filterMap (·.1) = [Str.ofString "key"] := by rfl)
    (hst : starEach [e] X.env = (false, eval e X.env) :: starEach [] X.env := by rfl) : PE X (.Call (.Name "sorted" p) [e] [⟨some "key", .Name "len" q, kpos⟩] pos) (tSrtLen X.K ta) := by
  refine ⟨fun pins s σ H Q I h => wpAny_Call_Name_kw (ld_blt I gs ms (u := .builtin "sorted") (by decide +kernel) ?_)⟩
  refine PyProof.Rows.callWith_kw (thn ((pa_cons ha pa_nil hst).run pos pins s σ H (fun vs H1 => ∃ x, vs = [x] ∧ ∃ (a : Addr) (bs : List (V × List Str)), x = .ref a ∧ SqL X.K H1 a (bs.map (·.1)) ∧ (∀ b ∈ bs, S1 X.K H1 b.1 b.2) ∧
    ∀ p, H1 p = none → Q (.ref p) (upd H1 p (.lst ((bs.mergeSort (dataLe false fun b : V × List Str => PyData.int b.2.length)).map (·.1))))) I ?_) fun us s1 hz => ?_) he hpl hall hnone
  · unfold tSrtLen at h
    exact (show ta σ H (fun x H1 => ∃ y, [x] = [y] ∧ _) from by
      have h2 : ta σ H (fun x H1 => ∃ (a : Addr) (bs : List (V × List Str)), x = .ref a ∧ SqL X.K H1 a (bs.map (·.1)) ∧ (∀ b ∈ bs, S1 X.K H1 b.1 b.2) ∧
        ∀ p, H1 p = none → Q (.ref p) (upd H1 p (.lst ((bs.mergeSort (dataLe false fun b : V × List Str => PyData.int b.2.length)).map (·.1))))) := h
      have e : (fun (x : V) (H1 : Hp) => ∃ y, [x] = [y] ∧ ∃ (a : Addr) (bs : List (V × List Str)), y = .ref a ∧ SqL X.K H1 a (bs.map (·.1)) ∧ (∀ b ∈ bs, S1 X.K H1 b.1 b.2) ∧
        ∀ p, H1 p = none → Q (.ref p) (upd H1 p (.lst ((bs.mergeSort (dataLe false fun b : V × List Str => PyData.int b.2.length)).map (·.1))))) =
          fun x H1 => ∃ (a : Addr) (bs : List (V × List Str)), x = .ref a ∧ SqL X.K H1 a (bs.map (·.1)) ∧ (∀ b ∈ bs, S1 X.K H1 b.1 b.2) ∧
        ∀ p, H1 p = none → Q (.ref p) (upd H1 p (.lst ((bs.mergeSort (dataLe false fun b : V × List Str => PyData.int b.2.length)).map (·.1)))) := by
        funext x H1
        apply propext
        constructor
        · rintro ⟨y, e, z⟩
          cases e
          exact z
        · exact fun z => ⟨x, rfl, z⟩
      rw [e]
      exact h2)
  · obtain ⟨vs, H1, I1, r1, x, rfl, a, bs, rfl, hs, hb, q1⟩ := hz
    rw [Vals.ref1 r1]
    show wpAny _ _ (evalAll [(do let v ← eval (.Name "len" q) X.env; standAt pos; pure v)]) _ _ s1
    refine wpAny_evalAll_cons (wpAny_bind (ld_blt I1 gl ml (u := .builtin "len") (by decide +kernel) (wpAny_bind (wpAny_standAt (wpAny_pure (wpAny_evalAll_nil ?_))))))
    rw [hks]
    obtain ⟨its, rv, hl, hz⟩ := I1.list hs
    have e0 := each_in (fun b : V × List Str => b.1) rv
    have hn := line63
    refine sorted_key_data (R := fun u b => RelV b.1 u) (b := false) (f := .builtin "len") (kw := [("key", .builtin "len")]) (fun b : V × List Str => PyData.int b.2.length) hl.isList e0 (fun d hd d' hd' => ?_) (.inr fun d hd => ?_) (by rw [List.length_map] at hz; exact hz) (fun b _ => ?_) (ksk_s1 _ _) (fun x => ksk_l1 _ _) (fun x => ksk_t4 "len" x) (fun v b hr hbm h tk keep => ?_) fun out c h' tk keep _ hat h1 h2 => ?_
    · obtain ⟨b, _, rfl⟩ := List.mem_map.mp hd
      obtain ⟨b', _, rfl⟩ := List.mem_map.mp hd'
      simp [alike]
    · obtain ⟨b, _, rfl⟩ := List.mem_map.mp hd
      exact ⟨fun z => (nomatch z), fun _ z => (nomatch z)⟩
    · simp [PyData.depth]
      omega
    · obtain ⟨t, e, ht⟩ := hb b hbm
      rw [e] at hr
      cases hr
      obtain ⟨ws, r', ⟨o, ho, hc, n, hd⟩, hz'⟩ := I1.tuple ht
      have hlen := r'.length
      rw [List.length_map] at hlen hz'
      exact len_tuple (items := ws.toArray) ⟨o, keep _ _ ho, hc, n, hd⟩ (by simp only [List.size_toArray]; omega) ⟨h, tk + 1 + 1, rfl, fun _ _ e => e, by rw [List.size_toArray, ← hlen]; exact .int _ _⟩
    · have ro := each_out (fun b : V × List Str => b.1) h2
      have hl2 : ((bs.mergeSort (dataLe false fun b : V × List Str => PyData.int b.2.length)).map (·.1)).length ≤ sizeLine := by
        rw [List.length_map, List.length_mergeSort, ← List.length_map (f := (·.1))]
        exact hz
      exact ⟨.ref _, upd H1 (s1.heap.objs.size + 1) (.lst ((bs.mergeSort (dataLe false fun b : V × List Str => PyData.int b.2.length)).map (·.1))), I1.laid (t' := tk) keep (Nat.le_succ _) ⟨hl2, out, c, ro, hat⟩, rfl, q1 _ (I1.hok.fresh (Nat.le_succ _))⟩
end Cb

/-! A def called by its one parameter's name; slices and sums of lists of crews. -/
namespace Cb
open PySem PySem.Spec PyProof.Rows L2 PySem.W
theorem sq_set {i : Nat} {te : TE} {rest : TS} {D : Ends} {σ : Stt} {H : Hp} (h : te σ H fun x H1 => rest D (σ.set i (some x)) H1) : tSeq (tAsg te (gName i)) rest D σ H := h
section
variable {X : Cx} {k : Nat} {f : Addr} {fd : FuncData} {CX : CXT} {ps : List Str} {sp : Sp} {x y : Str} {p pos : Pos} {kws : List Keyword} {tk : TA} {E : XK}
/-- f(y = e) -/
theorem pe_callK1 (F : FnOk X.prog X.w X.K X.mg X.base CX k f fd [y] sp) (hr : Room k X.A) (hg : Gl X x) (hm : X.mg x = some (.ref f)) (hk : keepIn X.K (.ref f) = true) (hb : ∀ (s : Shared) (u : Value), BindsTo s fd ⟨[], [(y, u)]⟩ [(y, u)]) (hx : Passes CX X E) (hkw : PK X kws tk)
    (hall : (backToKw pos (keywordEach kws X.env)).all (·.1.isSome) = true := by rfl) (hks : (backToKw pos (keywordEach kws X.env)).filterMap (·.1) = [y] := by rfl) (hdb : (x == ("__debug__" : Str)) = false := by decide)
    (hpl : ((backTo pos (starEach [] X.env)).any (·.1) || (backToKw pos (keywordEach kws X.env)).any (·.1.isNone)) = false := by rfl) :
    PE X (.Call (.Name x p) [] kws pos) (tCall sp [] E tk) := by
  refine ⟨fun pins s σ H Q I h => ?_⟩
  refine wpAny_Call_Name_kw (ld_glob I hg hm ?_ hdb)
  refine PySem.W.callWith_KW0 (h₀ := X.base) I.ok.mod.kin hk hall ?_ hpl
  refine thn (hkw.run pos pins s σ H _ I h) fun ws s2 ⟨zs, H2, I2, rz, q2⟩ => ⟨I2.kIn, ?_⟩
  rw [hks]
  have q3 : sp (zs ++ []) H2 Q E := q2
  rw [List.append_nil] at q3
  have hl := F.len _ _ _ _ q3
  have hl2 := rz.length
  obtain ⟨u, rfl⟩ : ∃ u, ws = [u] := by
    match ws, hl2 with
    | [], e => rw [hl] at e; simp at e
    | [u], _ => exact ⟨u, rfl⟩
    | _ :: _ :: _, e => rw [hl] at e; simp at e
  refine wpAny_call (codeAny_mono (F.run X.A X.stack s2 H2 ⟨[], [(y, u)]⟩ [u] zs Q E hr I2.env0 (hb s2 u) rz q3) fun r s' hq => ?_)
  cases r with
  | error e => exact hx pins σ _ _ e s' I2 hq
  | ok fl =>
    cases fl with
    | ret u => exact I2.after hq
    | next => exact False.elim hq
    | brk => exact False.elim hq
    | cont => exact False.elim hq
end
section
variable {K : Frag} {H : Hp} {Q : VK}
theorem slA_teams {x : V} {ts : List (List Str)} {lo hi : Option Int} (h : S2 K H x ts) (q : ∀ v H' ts', Same H H' → S2 K H' v ts' → ts'.length ≤ HT.sIx ts.length ts.length hi - HT.sIx ts.length 0 lo → (∀ t ∈ ts', t ∈ ts) → Q v H') : rSlA K x lo hi H Q := by
  obtain ⟨a, xs, rfl, ha, hp⟩ := h
  have hl := prd_len hp
  refine ⟨a, xs, rfl, ha, fun hw => q _ H ts (Same.refl _) ⟨a, xs, rfl, ha, hp⟩ (by rw [← hl, hw.1, hw.2]; omega) (fun _ z => z), fun _ p np => ?_⟩
  have s := same_upd (o := .tup (cutV xs lo hi)) np
  refine q (.ref p) _ ((ts.drop (HT.sIx xs.length 0 lo)).take (HT.sIx xs.length xs.length hi - HT.sIx xs.length 0 lo)) s ⟨p, _, rfl, st_ upd_same, prd_mono (fun _ _ z => z.same s) (prd_take _ (prd_drop _ hp))⟩ ?_ fun t ht => List.mem_of_mem_drop (List.mem_of_mem_take ht)
  rw [List.length_take, ← hl]
  omega
theorem cat_teams {x y : V} {ts us : List (List Str)} (h1 : S2 K H x ts) (h2 : S2 K H y us) (hn : ts.length + us.length ≤ 100000) (q : ∀ v H', Same H H' → S2 K H' v (ts ++ us) → Q v H') : rCatA K x y H Q := by
  have g1 := h1
  have g2 := h2
  obtain ⟨a, xs, rfl, ha, hp⟩ := h1
  obtain ⟨b, ys, rfl, hb, hq⟩ := h2
  have l1 := prd_len hp
  have l2 := prd_len hq
  refine ⟨a, b, xs, ys, rfl, rfl, ha, hb, Nat.le_of_lt (big (by omega)), fun e => ?_, fun _ e => ?_, fun _ _ p np => ?_⟩
  · subst e
    have : ts = [] := List.eq_nil_of_length_eq_zero (by simpa using l1.symm)
    subst this
    exact q _ H (Same.refl _) g2
  · subst e
    have : us = [] := List.eq_nil_of_length_eq_zero (by simpa using l2.symm)
    subst this
    refine q _ H (Same.refl _) ?_
    rw [List.append_nil]
    exact g1
  · have s := same_upd (o := .tup (xs ++ ys)) np
    exact q _ _ s ⟨p, _, rfl, st_ upd_same, prd_mono (fun _ _ z => z.same s) (prd_app hp hq)⟩
theorem shaped_nilT : SeqAt.shaped (.tuple []) = true := by
  unfold SeqAt.shaped
  simp [PyData.canLay0, PyData.canLayAll0, PyData.depth, PyData.depthAll]
end
end Cb

/-! The program's own defs. -/
namespace K49
open PySem PySem.Spec PyProof.Rows L2 PySem.W Cb
def top (i : Nat) : Stmt := PySem.Challenge.pw_crewbook_k49_good_crews_told.main.body.getD i (.Pass ⟨0, 0, 0, 0⟩)
/-- the built-in names that nobody hides -/
structure Blt (mg : Str → Option Value) : Prop where
  len : mg "len" = none
  list : mg "list" = none
  tuple : mg "tuple" = none
  range : mg "range" = none
  sorted : mg "sorted" = none
  any : mg "any" = none
  all : mg "all" = none
  min : mg "min" = none
  max : mg "max" = none
  repr : mg "repr" = none
/-- a def of the text that stands where its name says, with its promise -/
structure Own (P : Program) (w : World) (K : Frag) (mg : Str → Option Value) (base : Heap) (k : Nat) (x : Str) (ps : List Str) (sp : Sp) where
  f : Addr
  fd : FuncData
  G : FnOk P w K mg base CX0 k f fd ps sp
  m : mg x = some (.ref f)
  kp : keepIn K (.ref f) = true
  b : Binds K fd ps []
section
variable {P : Program} {w : World} {K : Frag} {mg : Str → Option Value} {base : Heap}
/-! ### newcomers -/
abbrev s_newcomers : Stmt := top 1
abbrev N_newcomers : List Str := ["crew", "other", "person"]
theorem sc_newcomers : FnScope N_newcomers ["crew", "other"] (defScope s_newcomers) := ⟨rfl, rfl, rfl, by decide +kernel, rfl, by decide +kernel, by decide +kernel⟩
def nc (c o : List Str) : List Str := o.filter fun p => !isIn p c
def sp_newcomers (K : Frag) : Sp := fun vs H Q _ => ∃ (x y : V) (c o : List Str), vs = [x, y] ∧ S1 K H x c ∧ S1 K H y o ∧ o.length ≤ 1000 ∧ ∀ v H', Same H H' → S1 K H' v (nc c o) → Q v H'
theorem ok_newcomers {f : Addr} {fd : FuncData} {k : Nat} (F : Fun K "newcomers" "newcomers" s_newcomers f fd) (B : Blt mg) : FnOk P w K mg base CX0 (k + 1) f fd ["crew", "other"] (sp_newcomers K) := by
  refine F.ok sc_newcomers (fun vs H Q E h => ?_) (fun cdv A outer s H vs Q E hr h => ?_)
  · obtain ⟨_, _, _, _, rfl, _⟩ := h
    rfl
  · obtain ⟨x, y, c, o, rfl, hc, ⟨a, rfl, ho⟩, hl, q⟩ := h
    refine ⟨_, pss_one (ps_ret (pe_callTy (c_tuple K) (by rfl) B.tuple (by decide +kernel) (pa_cons (pe_lc (own := [("person", 2)]) (g := gName 2) rfl sc_newcomers.nd (p_tup K (pv 1)) (blkOk_by (own := [("person", 2)]) (N := N_newcomers) (sc := defScope s_newcomers) (by decide +kernel))
      (fun _ _ _ _ _ => pg_name (i := 2) sc_newcomers.nd rfl (Or.inl rfl)) (fun _ _ _ _ _ => pts_one (pt_cmpR (o_nin K) (pv 2) (pv 0) rfl)) (fun _ _ _ _ _ => pv 2)) pa_nil))), ?_⟩
    obtain ⟨ac, rfl, hc⟩ := hc
    unfold tRet tCB tCons
    refine lcT_filter (xs := o.map V.str) (fun v => match v with | .str p => !isIn p c | _ => false) id (fun R hR => ⟨_, rfl, hR a H (Same.refl H) ho⟩) (by rw [List.length_map]; omega) (fun _ => rfl) (fun v hv H1 e1 R hR => ?_) (fun v hv _ H1 e1 R hR => ⟨v, rfl, hR H1 (Same.refl H1)⟩) fun D H' hD e hH => ?_
    · obtain ⟨p, _, rfl⟩ := List.mem_map.mp hv
      exact ⟨_, rfl, _, rfl, ac, _, rfl, .inr (sameT e1 hc), rfl, flat_strs c, _, rfl, by rw [inV_strs]; exact hR⟩
    · have e2 : ((o.map V.str).filter (fun v => match v with | .str p => !isIn p c | _ => false)).map id = (nc c o).map V.str := by
        rw [List.map_id, List.filter_map]
        rfl
      rw [e2] at hH
      refine ⟨D, _, rfl, .inl ⟨sl_ hH, fun t nt => ?_⟩⟩
      exact q _ _ (e.trans (same_upd nt)) ⟨t, rfl, st_ upd_same⟩
end
end K49

namespace K49
open PySem PySem.Spec PyProof.Rows L2 PySem.W Cb
theorem flat_le {α β : Type} (m : Nat) (f : α → List β) : ∀ l : List α, (∀ x ∈ l, (f x).length ≤ m) → (l.flatMap f).length ≤ l.length * m
  | [], _ => by simp
  | x :: l, h => by
    have h1 := flat_le m f l fun y hy => h y (List.mem_cons_of_mem _ hy)
    have h2 := h x List.mem_cons_self
    rw [List.flatMap_cons, List.length_append, List.length_cons, Nat.succ_mul]
    omega
/-- lists of crews as the law makes them -/
structure Gt (ts : List (List Str)) : Prop where
  many : ts.length ≤ 64
  each : ∀ t ∈ ts, t ≠ [] ∧ t.length ≤ 8 ∧ ∀ n ∈ t, okS n
section
variable {P : Program} {w : World} {K : Frag} {mg : Str → Option Value} {base : Heap}
/-! ### what the program's defs reckon -/
def but (c : List Str) (p : Str) : List Str := c.filter fun m => !decide (m = p)
def ex (c : List Str) (p o : Str) : List Str := srt (but c p ++ [o])
def canEx (ts : List (List Str)) (c : List Str) (p : Str) (o : List Str) : Bool := (nc c o).any fun m => isOne (ex c p m) ts
theorem ok_but {c : List Str} {p : Str} (h : ∀ n ∈ c, okS n) : ∀ n ∈ but c p, okS n := fun n hn => h n (List.mem_filter.mp hn).1
theorem ok_ex {c : List Str} {p o : Str} (h : ∀ n ∈ c, okS n) (ho : okS o) : ∀ n ∈ ex c p o, okS n := fun n hn => by
  have h1 := (srt_perm _).mem_iff.mp hn
  rcases List.mem_append.mp h1 with h1 | h1
  · exact ok_but h n h1
  · rw [List.mem_singleton.mp h1]
    exact ho
theorem ok_nc {c o : List Str} (h : ∀ n ∈ o, okS n) : ∀ n ∈ nc c o, okS n := fun n hn => h n (List.mem_filter.mp hn).1
def goodB (ts : List (List Str)) : List Bool := ts.flatMap fun c => ts.flatMap fun o => (nc o c).map fun p => canEx ts c p o
def sp_good (K : Frag) : Sp := fun vs H Q _ => ∃ (x : V) (ts : List (List Str)), vs = [x] ∧ S2 K H x ts ∧ Gt ts ∧ ∀ H', Same H H' → Q (.bl ((goodB ts).all id)) H'
theorem nc_le (c o : List Str) : (nc c o).length ≤ o.length := List.length_filter_le _ _
end
end K49

namespace K49
open PySem PySem.Spec PyProof.Rows L2 PySem.W Cb Evl
/-! ### the draws -/
def rngV (c nx rest dr : V) : List (Key × V) := [(.inr "cells", c), (.inr "next", nx), (.inr "rest", rest), (.inr "draws", dr)]
section
variable {H : Hp} {r : Addr} {c nx rest dr v : V}
theorem dg_cells (h : H r = some (.dK (rngV c nx rest dr))) : DGet H r (.str "cells") (some c) := DGet.k (k := .inr "cells") h
theorem dg_next (h : H r = some (.dK (rngV c nx rest dr))) : DGet H r (.str "next") (some nx) := DGet.k (k := .inr "next") h
theorem dg_rest (h : H r = some (.dK (rngV c nx rest dr))) : DGet H r (.str "rest") (some rest) := DGet.k (k := .inr "rest") h
theorem dg_draws (h : H r = some (.dK (rngV c nx rest dr))) : DGet H r (.str "draws") (some dr) := DGet.k (k := .inr "draws") h
theorem dp_next (h : H r = some (.dK (rngV c nx rest dr))) : DPut H r (.str "next") v (upd H r (.dK (rngV c v rest dr))) := DPut.k (k := .inr "next") h (by show 4 < sizeLine; decide)
theorem dp_rest (h : H r = some (.dK (rngV c nx rest dr))) : DPut H r (.str "rest") v (upd H r (.dK (rngV c nx v dr))) := DPut.k (k := .inr "rest") h (by show 4 < sizeLine; decide)
theorem dp_draws (h : H r = some (.dK (rngV c nx rest dr))) : DPut H r (.str "draws") v (upd H r (.dK (rngV c nx rest v))) := DPut.k (k := .inr "draws") h (by show 4 < sizeLine; decide)
end
/-- the dict of the draws at r, its cells at c: at most d of them were made -/
def Rng (H : Hp) (r c : Addr) (d : Int) : Prop := ∃ (ns : List Int) (nx rest dr : Int), H r = some (.dK (rngV (.ref c) (.int nx) (.int rest) (.int dr))) ∧ H c = some (.lst (ns.map V.int)) ∧ 0 ≤ nx ∧ 0 ≤ dr ∧ dr ≤ d
theorem Rng.same {H H' : Hp} {r c : Addr} {d : Int} (e : Same H H') (h : Rng H r c d) : Rng H' r c d := by
  obtain ⟨ns, nx, rest, dr, h1, h2, h3⟩ := h
  exact ⟨ns, nx, rest, dr, e _ _ h1, e _ _ h2, h3⟩
theorem Rng.le {H : Hp} {r c : Addr} {d e : Int} (h : Rng H r c d) (l : d ≤ e) : Rng H r c e := by
  obtain ⟨ns, nx, rest, dr, h1, h2, h3, h4, h5⟩ := h
  exact ⟨ns, nx, rest, dr, h1, h2, h3, h4, Int.le_trans h5 l⟩
/-- a list that the draws don't know may change -/
theorem Rng.mut {H H0 : Hp} {r c l : Addr} {d d0 : Int} {o : HO} (h : Rng H r c d) (n : H0 l = none) (h0 : Rng H0 r c d0) : Rng (upd H l o) r c d := by
  obtain ⟨ns, nx, rest, dr, h1, h2, h3⟩ := h
  obtain ⟨_, _, _, _, g1, g2, _⟩ := h0
  exact ⟨ns, nx, rest, dr, by rw [upd_ne (ne_of_none g1 n)]; exact h1, by rw [upd_ne (ne_of_none g2 n)]; exact h2, h3⟩
section
variable {P : Program} {w : World} {K : Frag} {mg : Str → Option Value} {base : Heap}
theorem dpInts {K : Frag} {H : Hp} : ∀ ns : List Int, DpAll K H (ns.map V.int) (ns.map PyData.int)
  | [] => .nil
  | n :: ns => .cons (.int n) (dpInts ns)
theorem lay_ints : ∀ ns : List Int, PyData.canLayAll0 (ns.map .int) = true
  | [] => by simp [PyData.canLayAll0]
  | n :: ns => by
    show PyData.canLayAll0 (.int n :: ns.map .int) = true
    rw [PyData.canLayAll0, lay_ints ns, PyData.canLay0]
    rfl
theorem shaped_ints (ns : List Int) : SeqAt.shaped (.list (ns.map .int)) = true := by
  unfold SeqAt.shaped
  rw [PyData.canLay0, lay_ints, PyData.depth, PySem.W.depth_ints]
  rfl
theorem shaped_nil : SeqAt.shaped (.list []) = true := by
  unfold SeqAt.shaped
  simp [PyData.canLay0, PyData.canLayAll0, PyData.depth, PyData.depthAll]
abbrev s_draw : Stmt := top 11
abbrev N_draw : List Str := ["_law_rng", "_law_limit", "_law_draws", "_law_digit", "_law_index", "_law_cell", "_law_mixed"]
theorem sc_draw : FnScope N_draw ["_law_rng", "_law_limit"] (defScope s_draw) := ⟨rfl, rfl, rfl, by decide +kernel, rfl, by decide +kernel, by decide +kernel⟩
def sp_draw : Sp := fun vs H Q _ => ∃ (r c : Addr) (n d : Int), vs = [.ref r, .int n] ∧ 0 < n ∧ n < 2 ^ 60 ∧ d ≤ 1000000000 ∧ Rng H r c d ∧ ∀ z H', Ch r H H' → Rng H' r c (d + 1) → 0 ≤ z → z < n → Q (.int z) H'
theorem ok_draw {f : Addr} {fd : FuncData} {k : Nat} (F : Fun K "_law_draw" "_law_draw" s_draw f fd) (B : Blt mg) : FnOk P w K mg base CX0 (k + 1) f fd ["_law_rng", "_law_limit"] sp_draw := by
  refine F.ok sc_draw (fun vs H Q E h => ?_) (fun cdv A outer s H vs Q E hr h => ?_)
  · obtain ⟨_, _, _, _, rfl, _⟩ := h
    rfl
  · obtain ⟨r, c, n, d, rfl, hn, hn2, hd, ⟨ns, nx, rest, dr, h0, hc, hnx, hdr, hdd⟩, q⟩ := h
    have ncr : c ≠ r := ne_of hc h0 (by intro z; cases z)
    have wd : CDivW 0 n := ⟨hn, by
      have := wide_div (i := 0) (j := n) (b := 60) hn (by omega) (by decide) (by decide)
      exact this.2⟩
    refine ⟨_, (pss_cons (ps_set (i := 2) sc_draw.nd rfl (Or.inl rfl) (pe_op op_add (pe_dget (hu_of hr) (pv 0) pe_str (fun _ _ => rfl)) pe_int))
      (pss_cons (ps_dput (hu_of hr) (pv 0) pe_str (pv 2) rfl)
      (pss_cons (ps_if (pt_cmpR op_gt (pe_dget (hu_of hr) (pv 0) pe_str (fun _ _ => rfl)) pe_int (nomark _)) (pss_cons (ps_set (i := 3) sc_draw.nd rfl (Or.inl rfl) (pe_op op_mod (pe_dget (hu_of hr) (pv 0) pe_str (fun _ _ => rfl)) (pv 1)))
      (pss_cons (ps_dput (hu_of hr) (pv 0) pe_str (pe_op op_fdivW (pe_dget (hu_of hr) (pv 0) pe_str (fun _ _ => rfl)) (pv 1)) rfl)
      (pss_one (ps_ret (pv 3))))) pss_nil)
      (pss_cons (ps_set (i := 4) sc_draw.nd rfl (Or.inl rfl) (pe_dget (hu_of hr) (pv 0) pe_str (fun _ _ => rfl)))
      (pss_cons (ps_dput (hu_of hr) (pv 0) pe_str (pe_op op_add (pv 4) pe_int) rfl)
      (pss_cons (ps_set (i := 5) sc_draw.nd rfl (Or.inl rfl) pe_int)
      (pss_cut (ps_if (pt_cmpR (o_neD K hr.units) (pe_dget (hu_of hr) (pv 0) pe_str (fun _ _ => rfl)) (pe_lst pa_nil) (nomark _)) (pss_one (ps_set (i := 5) sc_draw.nd rfl (Or.inl rfl) (pe_ix (i_list K) (pe_dget (hu_of hr) (pv 0) pe_str (fun _ _ => rfl)) (pe_op op_mod (pv 4) (pe_callB (c_len K) (by rfl) B.len (by decide +kernel) (pa_cons (pe_dget (hu_of hr) (pv 0) pe_str (fun _ _ => rfl)) pa_nil))) (fun _ _ => rfl)))) pss_nil)
      (pss_cut (ps_if (PW.pt (pw_and (pt_cmpR op_ge (pv 5) (pe_op op_pow pe_int pe_int) (nomark _)) (pw_and1 (pt_cmpR op_lt (pv 4) (pe_callB (c_len K) (by rfl) B.len (by decide +kernel) (pa_cons (pe_dget (hu_of hr) (pv 0) pe_str (fun _ _ => rfl)) pa_nil)) (nomark _))))) (pss_cons (ps_dput (hu_of hr) (pv 0) pe_str (pe_op op_fdivW (pv 5) (pv 1)) rfl)
      (pss_one (ps_ret (pe_op op_mod (pv 5) (pv 1))))) pss_nil)
      (pss_cons (ps_set (i := 6) sc_draw.nd rfl (Or.inl rfl) (pe_op op_mod (pe_op op_pow (pe_op op_add (pe_op op_add (pe_op op_mod (pv 5) pe_int) (pe_op op_mul pe_int (pv 2))) pe_int) pe_int) pe_int))
      (pss_cons (ps_set (i := 6) sc_draw.nd rfl (Or.inl rfl) (pe_op op_mod (pe_op op_pow (pe_op op_add (pv 6) (pe_op op_mul pe_int (pv 2))) pe_int) pe_int))
      (pss_one (ps_ret (pe_op op_mod (pe_op op_fdivW (pv 6) pe_int) (pv 1)))))))))))))), ?_⟩
    refine ⟨_, rfl, r, _, rfl, dg_draws h0, _, _, rfl, rfl, ?_⟩
    refine ⟨_, rfl, _, rfl, r, _, rfl, dp_draws h0, ?_⟩
    have c1 := Ch.put (k' := rngV (.ref c) (.int nx) (.int rest) (.int (dr + 1))) h0
    have h1 : (upd H r (.dK (rngV (.ref c) (.int nx) (.int rest) (.int (dr + 1))))) r = some (.dK (rngV (.ref c) (.int nx) (.int rest) (.int (dr + 1)))) := upd_same
    have hc1 := c1.lst hc
    generalize upd H r (.dK (rngV (.ref c) (.int nx) (.int rest) (.int (dr + 1)))) = H1 at c1 h1 hc1 ⊢
    refine ⟨_, rfl, r, _, rfl, dg_rest h1, _, _, rfl, rfl, _, rfl, ite2 (fun _ => ?_) (fun _ => ?_)⟩
    · refine ⟨_, rfl, r, _, rfl, dg_rest h1, _, rfl, _, _, rfl, rfl, hn, ?_⟩
      refine ⟨_, rfl, r, _, rfl, dg_rest h1, _, rfl, _, _, rfl, rfl, wd, _, rfl, r, _, rfl, dp_rest h1, _, rfl, ?_⟩
      exact q _ _ (c1.trans (Ch.put h1)) ⟨ns, nx, _, dr + 1, upd_same, (Ch.put h1).lst hc1, hnx, by omega, by omega⟩ (Int.emod_nonneg _ (by omega)) (Int.emod_lt_of_pos _ hn)
    · refine ⟨_, rfl, r, _, rfl, dg_next h1, ?_⟩
      refine ⟨_, rfl, _, _, rfl, rfl, _, rfl, r, _, rfl, dp_next h1, ?_⟩
      have c2 := c1.trans (Ch.put (k' := rngV (.ref c) (.int (nx + 1)) (.int rest) (.int (dr + 1))) h1)
      have h2 : (upd H1 r (.dK (rngV (.ref c) (.int (nx + 1)) (.int rest) (.int (dr + 1))))) r = some (.dK (rngV (.ref c) (.int (nx + 1)) (.int rest) (.int (dr + 1)))) := upd_same
      have hc2 := (Ch.put (k' := rngV (.ref c) (.int (nx + 1)) (.int rest) (.int (dr + 1))) h1).lst hc1
      generalize upd H1 r (.dK (rngV (.ref c) (.int (nx + 1)) (.int rest) (.int (dr + 1)))) = H2 at c2 h2 hc2 ⊢
      refine ⟨fun σ' H' => ∃ cell : Int, σ' = [some (.ref r), some (.int n), some (.int (dr + 1)), none, some (.int nx), some (.int cell), none] ∧ Same H2 H', ?_, ?_⟩
      · refine ⟨_, rfl, r, _, rfl, dg_cells h2, Nat.zero_le _, fun l nl => ⟨.list (ns.map .int), .list [], .lst (sl_ (same_upd nl _ _ hc2)) (dpInts ns), .lst (sl_ upd_same) .nil, shaped_ints ns, shaped_nil, _, rfl, ?_⟩⟩
        have e3 : Same H2 (upd H2 l (.lst [])) := same_upd nl
        rw [eqv_list_nil]
        refine ite2 (fun hne => ?_) (fun _ => ⟨17, rfl, e3⟩)
        have hlen : 0 < ns.length := by
          cases ns with
          | nil => exact absurd hne (by decide)
          | cons _ _ => exact Nat.succ_pos _
        have hm0 : 0 ≤ nx % (ns.length : Int) := Int.emod_nonneg _ (by omega)
        have hm1 : nx % (ns.length : Int) < (ns.length : Int) := Int.emod_lt_of_pos _ (by omega)
        obtain ⟨j, hj⟩ : ∃ j : Nat, nx % (ns.length : Int) = (j : Int) := ⟨(nx % (ns.length : Int)).toNat, by omega⟩
        have hjl : j < ns.length := by omega
        refine ⟨_, rfl, r, _, rfl, dg_cells (e3 _ _ h2), _, rfl, _, rfl, r, _, rfl, dg_cells (e3 _ _ h2), c, _, rfl, .inl (sl_ (e3 _ _ hc2)), _, _, rfl, rfl, by rw [List.length_map]; omega,
          c, ns.map V.int, _, .int ns[j], rfl, rfl, sl_ (e3 _ _ hc2), ?_, ?_⟩
        · rw [List.length_map, hj]
          exact atI_nat (by rw [List.getElem?_map, List.getElem?_eq_getElem hjl]; rfl)
        · exact ⟨ns[j], rfl, e3⟩
      · rintro σ' H3 ⟨cell, rfl, e3⟩
        have h3 := e3 _ _ h2
        have hc3 := e3 _ _ hc2
        have c3 := c2.trans (Ch.of e3)
        refine ⟨fun σ' H' => σ' = [some (.ref r), some (.int n), some (.int (dr + 1)), none, some (.int nx), some (.int cell), none] ∧ H' = H3, ?_, ?_⟩
        · refine ⟨_, rfl, _, _, rfl, rfl, ⟨by decide, by decide, by decide⟩, _, _, rfl, rfl, _, rfl, ite2 (fun _ => ?_) (fun _ => iteF ⟨rfl, rfl⟩)⟩
          refine ⟨_, rfl, _, rfl, r, _, rfl, dg_cells h3, c, _, rfl, .inl (sl_ hc3), _, _, rfl, rfl, _, rfl, ite2 (fun _ => ?_) (fun _ => ⟨rfl, rfl⟩)⟩
          refine ⟨_, rfl, _, rfl, _, _, rfl, rfl, wd, _, rfl, r, _, rfl, dp_rest h3, _, rfl, _, rfl, _, _, rfl, rfl, hn, ?_⟩
          exact q _ _ (c3.trans (Ch.put h3)) ⟨ns, nx + 1, _, dr + 1, upd_same, (Ch.put h3).lst hc3, by omega, by omega, by omega⟩ (Int.emod_nonneg _ (by omega)) (Int.emod_lt_of_pos _ hn)
        · rintro σ' H' ⟨rfl, rfl⟩
          refine ⟨_, rfl, _, _, rfl, rfl, (by decide : (0 : Int) < 2147483579), _, rfl, _, _, rfl, rfl, .inl ⟨by decide, by decide⟩, _, _, rfl, rfl, _, _, rfl, rfl, _, _, rfl, rfl, ⟨by decide, by decide, by omega⟩, _, _, rfl, rfl, (by decide : (0 : Int) < 2147483629), ?_⟩
          refine ⟨_, rfl, _, rfl, _, _, rfl, rfl, .inl ⟨by decide, by decide⟩, _, _, rfl, rfl, _, _, rfl, rfl, ⟨by decide, by decide, ?_⟩, _, _, rfl, rfl, (by decide : (0 : Int) < 2147483647), ?_⟩
          · have a1 := Int.emod_nonneg ((cell % 2147483579 + 8009 * (dr + 1) + 13) ^ (5 : Int).toNat) (b := 2147483629) (by decide)
            have a2 := Int.emod_lt_of_pos ((cell % 2147483579 + 8009 * (dr + 1) + 13) ^ (5 : Int).toNat) (b := 2147483629) (by decide)
            omega
          · refine ⟨_, rfl, _, _, rfl, rfl, ⟨by decide, by decide⟩, _, rfl, _, _, rfl, rfl, hn, ?_⟩
            exact q _ _ c3 ⟨ns, nx + 1, rest, dr + 1, h3, hc3, by omega, by omega, by omega⟩ (Int.emod_nonneg _ (by omega)) (Int.emod_lt_of_pos _ hn)
end
end K49

namespace K49
open PySem PySem.Spec PyProof.Rows L2 PySem.W Cb Evl
theorem erase_map {α β : Type} (f : α → β) : ∀ (l : List α) (j : Nat), (l.map f).eraseIdx j = (l.eraseIdx j).map f
  | [], _ => rfl
  | _ :: _, 0 => rfl
  | x :: l, j + 1 => by
    show f x :: (l.map f).eraseIdx j = f x :: (l.eraseIdx j).map f
    rw [erase_map f l j]
section
variable {P : Program} {w : World} {K : Frag} {mg : Str → Option Value} {base : Heap}
/-! ### the dict of the draws -/
abbrev s_source : Stmt := top 10
theorem sc_source : FnScope ["_law_script"] ["_law_script"] (defScope s_source) := ⟨rfl, rfl, rfl, by decide +kernel, rfl, by decide +kernel, by decide +kernel⟩
def sp_source (K : Frag) : Sp := fun vs H Q _ => ∃ (a : Addr) (ns : List Int), vs = [.ref a] ∧ SqL K H a (ns.map V.int) ∧ ∀ r c H', Same H H' → Rng H' r c 0 → Q (.ref r) H'
theorem ok_source {f : Addr} {fd : FuncData} {k : Nat} (F : Fun K "_law_source" "_law_source" s_source f fd) (B : Blt mg) : FnOk P w K mg base CX0 (k + 1) f fd ["_law_script"] (sp_source K) := by
  refine F.ok sc_source (fun vs H Q E h => ?_) (fun cdv A outer s H vs Q E hr h => ?_)
  · obtain ⟨_, _, rfl, _⟩ := h
    rfl
  · obtain ⟨a, ns, rfl, hS, q⟩ := h
    refine ⟨_, (pss_one (ps_ret (pe_disp (pps_cons pe_str (pe_callTy (c_list K) (by rfl) B.list (by decide +kernel) (pa_cons (pe_slice (s_list K) (pv 0) po_none (po_some pe_int)) pa_nil)) (pps_cons pe_str pe_int (pps_cons pe_str pe_int (pps_cons pe_str pe_int pps_nil)))) (by rfl) (by rfl) (fun z => by cases z) (by decide)))), ?_⟩
    intro p np
    have s1 : Same H (upd H p (.dK [])) := same_upd np
    refine ⟨_, rfl, _, rfl, a, ns.map V.int, rfl, s1.seq hS, fun b nb => ⟨b, _, rfl, .inl (sl_ upd_same), fun c nc => ?_⟩⟩
    obtain ⟨ms, hm⟩ : ∃ ms : List Int, cutV (ns.map V.int) none (some 63) = ms.map V.int := ⟨(ns.drop _).take _, by unfold cutV; rw [List.map_take, List.map_drop]⟩
    rw [hm]
    rw [hm] at nc
    have s2 := same_upd (o := .lst (ms.map V.int)) nb
    have s3 := same_upd (o := .lst (ms.map V.int)) nc
    have hp : (upd (upd (upd H p (.dK [])) b (.lst (ms.map V.int))) c (.lst (ms.map V.int))) p = some (.dK []) := s3 _ _ (s2 _ _ upd_same)
    refine ⟨hp, rngV (.ref c) (.int 0) (.int 0) (.int 0), rfl, by show 4 ≤ 15; decide, ?_⟩
    have ncp : c ≠ p := fun e => by
      rw [← e, upd_same] at hp
      cases hp
    refine q p c _ (same_mut ((s1.trans s2).trans s3) np) ⟨ms, 0, 0, 0, upd_same, by rw [upd_ne ncp]; exact upd_same, Int.le_refl _, Int.le_refl _, Int.le_refl _⟩
/-! ### some of a pool -/
abbrev s_sample : Stmt := top 12
abbrev N_sample : List Str := ["_law_rng", "_law_pool", "_law_amount", "_law_rest", "_law_k"]
theorem sc_sample : FnScope N_sample ["_law_rng", "_law_pool", "_law_amount"] (defScope s_sample) := ⟨rfl, rfl, rfl, by decide +kernel, rfl, by decide +kernel, by decide +kernel⟩
def sp_sample (K : Frag) : Sp := fun vs H Q _ => ∃ (r c pool : Addr) (d : Int) (ns : List Str) (m : Nat), vs = [.ref r, .ref pool, .int m] ∧ (SqL K H pool (ns.map V.str) ∨ SqT K H pool (ns.map V.str)) ∧ m ≤ ns.length ∧ ns.length ≤ 1000 ∧ Rng H r c d ∧ d ≤ 100000000 ∧
  ∀ (l : Addr) (out : List Str) (H' : Hp), H l = none → Ch r H H' → Rng H' r c (d + m) → H' l = some (.lst (out.map V.str)) → out.length = m → (∀ s ∈ out, s ∈ ns) → Q (.ref l) H'
theorem ok_sample {f : Addr} {fd : FuncData} {k : Nat} (F : Fun K "_law_sample" "_law_sample" s_sample f fd) (B : Blt mg) (D__law_draw : Own P w K mg base 1 "_law_draw" ["_law_rng", "_law_limit"] sp_draw) : FnOk P w K mg base CX0 (k + 2) f fd ["_law_rng", "_law_pool", "_law_amount"] (sp_sample K) := by
  refine F.ok sc_sample (fun vs H Q E h => ?_) (fun cdv A outer s H vs Q E hr h => ?_)
  · obtain ⟨_, _, _, _, _, _, rfl, _⟩ := h
    rfl
  · obtain ⟨r, c, pool, d, ns, m, rfl, hP, hm, hl, hR, hd, q⟩ := h
    have hr1 : Room 1 _ := hr.mono (Nat.le_add_left 1 k)
    refine ⟨_, (pss_cons (ps_set (i := 3) sc_sample.nd rfl (Or.inr rfl) (pe_callTy (c_list K) (by rfl) B.list (by decide +kernel) (pa_cons (pv 1) pa_nil)))
      (pss_one (ps_ret (pe_lc (own := [("_law_k", 4)]) (g := gName 4) (tt := tYes) rfl sc_sample.nd (pi_range1 rfl B.range (pa_cons (pv 2) pa_nil)) (blkOk_by (own := [("_law_k", 4)]) (N := N_sample) (sc := defScope s_sample) (by decide +kernel)) (fun _ _ _ _ _ => (pg_name (i := 4) sc_sample.nd rfl (Or.inl rfl))) (fun _ _ _ _ _ => pts_nil)
        (fun _ _ _ _ _ => (show PE _ _ (tBM K "list" rPopAt _ _) from pe_bm PySem.F.plainAttrs_list PySem.F.slot_list_pop PySem.F.type_list_pop mt_popAt (pv 3) (pa_cons (pe_call D__law_draw.G hr1 rfl D__law_draw.m D__law_draw.kp D__law_draw.b .nil pass0 (pa_cons (pv 0) (pa_cons (pe_callB (c_len K) (by rfl) B.len (by decide +kernel) (pa_cons (pv 3) pa_nil)) pa_nil))) pa_nil))))))), ?_⟩
    refine ⟨_, rfl, pool, _, rfl, hP, fun l nl => ?_⟩
    have s1 : Same H (upd H l (.lst (ns.map V.str))) := same_upd nl
    refine ⟨_, rfl, (m : Int), rfl, by omega, by omega, fun D nD => ?_⟩
    have nDl : D ≠ l := fun e => by
      rw [e, upd_same] at nD
      cases nD
    have nD0 : H D = none := s1.free nD
    refine lc_range (lo := 0) (n := (m : Int).toNat) (fun i H' => Ch r H H' ∧ Rng H' r c (d + i) ∧ ∃ rest out : List Str, H' l = some (.lst (rest.map V.str)) ∧ H' D = some (.lst (out.map V.str)) ∧ rest.length + i = ns.length ∧ out.length = i ∧ (∀ s ∈ rest, s ∈ ns) ∧ ∀ s ∈ out, s ∈ ns) ?_ ?_ ?_
    · refine ⟨(Ch.of s1).upd nD0, ?_, ns, [], by rw [upd_ne nDl.symm]; exact upd_same, upd_same, rfl, rfl, fun _ z => z, fun _ z => absurd z (by simp)⟩
      have g := ((hR.same s1).mut (o := .lst []) nD0 hR)
      exact g.le (by omega)
    · rintro i H1 hi ⟨c1, g1, rest, out, h1, h2, e1, e2, e3, e4⟩
      have hpos : 0 < rest.length := by omega
      refine ⟨rfl, ?_⟩
      unfold tYes
      refine iteT ?_
      refine ⟨_, rfl, .inl ⟨rfl, _, SqL.of h1⟩, _, rfl, _, rfl, l, _, rfl, .inl (sl_ h1), r, c, _, d + i, rfl, by rw [List.length_map]; omega, by rw [List.length_map]; omega, by omega, g1, fun z H2 c2 g2 z0 z1 => ?_⟩
      rw [List.length_map] at z1
      obtain ⟨j, rfl⟩ : ∃ j : Nat, z = (j : Int) := ⟨z.toNat, by omega⟩
      have hj : j < rest.length := by omega
      have h1' := c2.lst h1
      have h2' := c2.lst h2
      refine ⟨l, _, _, j, .str rest[j], rfl, rfl, h1', by omega, by omega, ?_, ?_, out.map V.str, ?_, ?_, ?_⟩
      · rw [List.length_map]
        unfold seqIndex?
        simp
        omega
      · rw [List.getElem?_map, List.getElem?_eq_getElem hj]
        rfl
      · rw [upd_ne nDl]
        exact h2'
      · rw [List.length_map]
        exact big (by omega)
      · have hmem : rest[j] ∈ ns := e3 _ (List.getElem_mem hj)
        refine ⟨((c1.trans c2).upd nl).upd nD0, ?_, rest.eraseIdx j, out ++ [rest[j]], ?_, ?_, ?_, ?_, ?_, ?_⟩
        · exact ((g2.mut nl hR).mut nD0 hR).le (by omega)
        · rw [upd_ne nDl.symm, upd_same, erase_map]
        · rw [upd_same, List.map_append]
          rfl
        · rw [List.length_eraseIdx_of_lt hj]
          omega
        · rw [List.length_append]
          simp
          omega
        · exact fun s hs => e3 s (List.mem_of_mem_eraseIdx hs)
        · intro s hs
          rcases List.mem_append.mp hs with hs | hs
          · exact e4 s hs
          · rw [List.mem_singleton.mp hs]
            exact hmem
    · rintro H1 ⟨c1, g1, rest, out, h1, h2, e1, e2, e3, e4⟩
      exact q D out H1 nD0 c1 (g1.le (by omega)) h2 (by omega) e4
/-! ### is one set within another -/
abbrev s_within : Stmt := top 14
abbrev N_within : List Str := ["_law_some", "_law_more", "_law_name"]
theorem sc_within : FnScope N_within ["_law_some", "_law_more"] (defScope s_within) := ⟨rfl, rfl, rfl, by decide +kernel, rfl, by decide +kernel, by decide +kernel⟩
def sp_within (K : Frag) : Sp := fun vs H Q _ => ∃ (x y : V) (a b : List Str), vs = [x, y] ∧ S1 K H x a ∧ S1 K H y b ∧ a.length ≤ 1000 ∧ (∀ n ∈ a, okS n) ∧ ∀ t H', Same H H' → Q (.bl t) H'
theorem ok_within {f : Addr} {fd : FuncData} {k : Nat} (F : Fun K "_law_is_within" "_law_is_within" s_within f fd) : FnOk P w K mg base CX0 (k + 1) f fd ["_law_some", "_law_more"] (sp_within K) := by
  refine F.ok sc_within (fun vs H Q E h => ?_) (fun cdv A outer s H vs Q E hr h => ?_)
  · obtain ⟨_, _, _, _, rfl, _⟩ := h
    rfl
  · obtain ⟨x, y, c, o, rfl, ⟨a, rfl, hc⟩, ⟨b, rfl, ho⟩, hl, okc, q⟩ := h
    refine ⟨_, (pss_one (ps_ret (pe_cmpR (o_eqD K hr.units) (pe_lc (own := [("_law_name", 2)]) (g := gName 2) rfl sc_within.nd (p_tup K (pv 0)) (blkOk_by (own := [("_law_name", 2)]) (N := N_within) (sc := defScope s_within) (by decide +kernel)) (fun _ _ _ _ _ => (pg_name (i := 2) sc_within.nd rfl (Or.inl rfl)))
      (fun _ _ _ _ _ => (pts_one (pt_cmpR (o_nin K) (pv 2) (pv 1) rfl))) (fun _ _ _ _ _ => (pv 2))) (pe_lst pa_nil) (nomark _)))), ?_⟩
    unfold tRet tOp
    refine lcT_filter (xs := c.map V.str) (fun v => match v with | .str p => !isIn p o | _ => false) id (fun R hR => ⟨_, rfl, hR a H (Same.refl H) hc⟩) (by rw [List.length_map]; omega) (fun _ => rfl) (fun v hv H1 e1 R hR => ?_) (fun v hv _ H1 e1 R hR => ⟨v, rfl, hR H1 (Same.refl H1)⟩) fun D H' hD e hH => ?_
    · obtain ⟨p, _, rfl⟩ := List.mem_map.mp hv
      exact ⟨_, rfl, _, rfl, b, _, rfl, .inr (sameT e1 ho), rfl, flat_strs o, _, rfl, by rw [inV_strs]; exact hR⟩
    · have e2 : ((c.map V.str).filter (fun v => match v with | .str p => !isIn p o | _ => false)).map id = (nc o c).map V.str := by
        rw [List.map_id, List.filter_map]
        rfl
      rw [e2] at hH
      refine ⟨Nat.zero_le _, fun l nl => ⟨.list ((nc o c).map .str), .list [], .lst (sl_ (same_upd nl _ _ hH)) (dpStrs _), .lst (sl_ upd_same) .nil, shaped_strs (ok_nc okc), shaped_nil, ?_⟩⟩
      exact q _ _ (e.trans (same_upd nl))
/-! ### a set without one -/
abbrev s_but : Stmt := top 17
abbrev N_but : List Str := ["_law_here", "_law_name", "_law_one_name"]
theorem sc_but : FnScope N_but ["_law_here", "_law_name"] (defScope s_but) := ⟨rfl, rfl, rfl, by decide +kernel, rfl, by decide +kernel, by decide +kernel⟩
def sp_but (K : Frag) : Sp := fun vs H Q _ => ∃ (x : V) (c : List Str) (p : Str), vs = [x, .str p] ∧ S1 K H x c ∧ c.length ≤ 1000 ∧ ∀ v H', Same H H' → S1 K H' v (but c p) → Q v H'
theorem ok_but' {f : Addr} {fd : FuncData} {k : Nat} (F : Fun K "_law_but" "_law_but" s_but f fd) (B : Blt mg) : FnOk P w K mg base CX0 (k + 1) f fd ["_law_here", "_law_name"] (sp_but K) := by
  refine F.ok sc_but (fun vs H Q E h => ?_) (fun cdv A outer s H vs Q E hr h => ?_)
  · obtain ⟨_, _, _, rfl, _⟩ := h
    rfl
  · obtain ⟨x, c, p, rfl, ⟨a, rfl, hc⟩, hl, q⟩ := h
    refine ⟨_, (pss_one (ps_ret (pe_callTy (c_tuple K) (by rfl) B.tuple (by decide +kernel) (pa_cons (pe_lc (own := [("_law_one_name", 2)]) (g := gName 2) rfl sc_but.nd (p_tup K (pv 0)) (blkOk_by (own := [("_law_one_name", 2)]) (N := N_but) (sc := defScope s_but) (by decide +kernel)) (fun _ _ _ _ _ => (pg_name (i := 2) sc_but.nd rfl (Or.inl rfl)))
      (fun _ _ _ _ _ => (pts_one (pt_cmpR op_ne (pv 2) (pv 1) (nomark _)))) (fun _ _ _ _ _ => (pv 2))) pa_nil)))), ?_⟩
    unfold tRet tCB tCons tNil
    refine lcT_filter (xs := c.map V.str) (fun v => match v with | .str m => !decide (m = p) | _ => false) id (fun R hR => ⟨_, rfl, hR a H (Same.refl H) hc⟩) (by rw [List.length_map]; omega) (fun _ => rfl) (fun v hv H1 e1 R hR => ?_) (fun v hv _ H1 e1 R hR => ⟨v, rfl, hR H1 (Same.refl H1)⟩) fun D H' hD e hH => ?_
    · obtain ⟨m, _, rfl⟩ := List.mem_map.mp hv
      refine ⟨_, rfl, _, rfl, rfl, _, rfl, ?_⟩
      have e2 : decide (V.str m = V.str p) = decide (m = p) := by simp
      rw [e2]
      exact hR
    · have e2 : ((c.map V.str).filter (fun v => match v with | .str m => !decide (m = p) | _ => false)).map id = (but c p).map V.str := by
        rw [List.map_id, List.filter_map]
        rfl
      rw [e2] at hH
      exact ⟨D, _, rfl, .inl ⟨sl_ hH, fun t nt => q _ _ (e.trans (same_upd nt)) ⟨t, rfl, st_ upd_same⟩⟩⟩
end
end K49

namespace K49
open PySem PySem.Spec PyProof.Rows L2 PySem.W Cb Evl
/-! ### the heap without one list -/
def hid (F : Addr) (H : Hp) : Hp := fun b => if b = F then none else H b
theorem hid_ne {F b : Addr} {H : Hp} (n : b ≠ F) : hid F H b = H b := if_neg n
theorem hid_at {F : Addr} {H : Hp} : hid F H F = none := if_pos rfl
theorem hid_sub (F : Addr) (H : Hp) : Same (hid F H) H := fun b o e => by
  by_cases h : b = F
  · rw [h, hid_at] at e
    cases e
  · rw [hid_ne h] at e
    exact e
theorem hid_same {F : Addr} {H H' : Hp} (s : Same H H') : Same (hid F H) (hid F H') := fun b o e => by
  by_cases h : b = F
  · rw [h, hid_at] at e
    cases e
  · rw [hid_ne h] at e ⊢
    exact s b o e
theorem hid_upd {F : Addr} {H : Hp} {o : HO} : hid F (upd H F o) = hid F H := by
  funext b
  by_cases h : b = F
  · rw [h, hid_at, hid_at]
  · rw [hid_ne h, hid_ne h, upd_ne h]
theorem hid_new {F : Addr} {H : Hp} (n : H F = none) : hid F H = H := by
  funext b
  by_cases h : b = F
  · rw [h, hid_at, n]
  · rw [hid_ne h]
theorem dpa_app {K : Frag} {H : Hp} : ∀ {us : List V} {ds : List PyData} {vs : List V} {es : List PyData}, DpAll K H us ds → DpAll K H vs es → DpAll K H (us ++ vs) (ds ++ es)
  | _, [], _, _, h, k => by cases h; exact k
  | _, _ :: _, _, _, h, k => by
    cases h with
    | cons a b => exact .cons a (dpa_app b k)
theorem dpa_len {K : Frag} {H : Hp} : ∀ {us : List V} {ds : List PyData}, DpAll K H us ds → us.length = ds.length
  | _, [], h => by cases h; rfl
  | _, _ :: _, h => by
    cases h with
    | cons a b => exact congrArg Nat.succ (dpa_len b)
/-! ### the law's own rows -/
def rowD (i j : Nat) (nm : Str) (far : List Str) : PyData := .tuple [.int i, .int j, .str nm, .list (far.map .str)]
def farL (ts : List (List Str)) (a b : List Str) (nm : Str) : List Str := (nc a b).filter fun far => isOne (ex a nm far) ts
def rowsIJ (ts : List (List Str)) (i j : Nat) : List PyData := (nc (ts.getD j []) (ts.getD i [])).map fun nm => rowD i j nm (farL ts (ts.getD i []) (ts.getD j []) nm)
def rowsI (ts : List (List Str)) (i : Nat) : List PyData := (List.range ts.length).flatMap fun j => rowsIJ ts i j
def rowsL (ts : List (List Str)) : List PyData := (List.range ts.length).flatMap fun i => rowsI ts i
section
variable {P : Program} {w : World} {K : Frag} {mg : Str → Option Value} {base : Heap}
theorem S2.item {K : Frag} {H : Hp} {v : V} {ts : List (List Str)} {i : Nat} (h : S2 K H v ts) (hi : i < ts.length) : ∃ a xs y, v = .ref a ∧ SqT K H a xs ∧ atI xs (i : Int) = some y ∧ S1 K H y (ts.getD i []) := by
  obtain ⟨a, xs, rfl, ha, hp⟩ := h
  have e : ts[i]? = some (ts.getD i []) := by simp [List.getD, List.getElem?_eq_getElem hi]
  obtain ⟨y, hy, hs⟩ := prd_get hp e
  exact ⟨a, xs, y, rfl, ha, atI_nat hy, hs⟩
abbrev s_exs : Stmt := top 19
abbrev N_exs : List Str := ["_law_teams", "_law_found", "_law_i", "_law_j", "_law_name", "_law_some", "_law_far", "_law_own"]
theorem sc_exs : FnScope N_exs ["_law_teams"] (defScope s_exs) := ⟨rfl, rfl, rfl, by decide +kernel, rfl, by decide +kernel, by decide +kernel⟩
def sp_exs (K : Frag) : Sp := fun vs H Q _ => ∃ (x : V) (ts : List (List Str)), vs = [x] ∧ S2 K H x ts ∧ Gt ts ∧ ∀ (F : Addr) (us : List V) (H' : Hp), Same H H' → H' F = some (.lst us) → DpAll K H' us (rowsL ts) → Q (.ref F) H'
theorem ok_exs {f : Addr} {fd : FuncData} {k : Nat} (F : Fun K "_law_exchanges" "_law_exchanges" s_exs f fd) (B : Blt mg) (D__law_but : Own P w K mg base 1 "_law_but" ["_law_here", "_law_name"] (sp_but K)) : FnOk P w K mg base CX0 (k + 2) f fd ["_law_teams"] (sp_exs K) := by
  refine F.ok sc_exs (fun vs H Q E h => ?_) (fun cdv A outer s H vs Q E hr h => ?_)
  · obtain ⟨_, _, rfl, _⟩ := h
    rfl
  · obtain ⟨x, ts, rfl, ht, gt, q⟩ := h
    have hr1 : Room 1 _ := hr.mono (Nat.le_add_left 1 k)
    have hu : (A.deeper (envOfC "_law_exchanges" (defScope s_exs) s.heap.objs.size f cdv)).units + 65 < cLine := by
      have := hr.un
      omega
    refine ⟨_, (pss_cons (ps_set (i := 1) sc_exs.nd rfl (Or.inl rfl) (pe_lst pa_nil))
      (pss_cons (ps_for PassesOwn.never rfl (pi_range1 rfl B.range (pa_cons (pe_callB (c_len K) (by rfl) B.len (by decide +kernel) (pa_cons (pv 0) pa_nil)) pa_nil)) (pg_name (i := 2) sc_exs.nd rfl (Or.inr rfl))
      (pss_one (ps_for PassesOwn.never rfl (pi_range1 rfl B.range (pa_cons (pe_callB (c_len K) (by rfl) B.len (by decide +kernel) (pa_cons (pv 0) pa_nil)) pa_nil)) (pg_name (i := 3) sc_exs.nd rfl (Or.inr rfl))
      (pss_one (ps_for PassesOwn.never rfl (p_list K (pe_lc (own := [("_law_own", 7)]) (g := gName 7) rfl sc_exs.nd (p_tup K (pe_ix (i_tup K) (pv 0) (pv 2) (fun _ _ => rfl))) (blkOk_by (own := [("_law_own", 7)]) (N := N_exs) (sc := defScope s_exs) (by decide +kernel)) (fun _ _ _ _ _ => (pg_name (i := 7) sc_exs.nd rfl (Or.inl rfl))) (fun _ _ _ _ _ => (pts_one (pt_cmpR (o_nin K) (pv 7) (pe_ix (i_tup K) (pv 0) (pv 3) (fun _ _ => rfl)) rfl))) (fun _ _ _ _ _ => (pv 7)))) (pg_name (i := 4) sc_exs.nd rfl (Or.inl rfl))
      (pss_cons (ps_set (i := 5) sc_exs.nd rfl (Or.inl rfl) (pe_lst pa_nil))
      (pss_cons (ps_for PassesOwn.never rfl (p_list K (pe_lc (own := [("_law_own", 7)]) (g := gName 7) rfl sc_exs.nd (p_tup K (pe_ix (i_tup K) (pv 0) (pv 3) (fun _ _ => rfl))) (blkOk_by (own := [("_law_own", 7)]) (N := N_exs) (sc := defScope s_exs) (by decide +kernel)) (fun _ _ _ _ _ => (pg_name (i := 7) sc_exs.nd rfl (Or.inl rfl))) (fun _ _ _ _ _ => (pts_one (pt_cmpR (o_nin K) (pv 7) (pe_ix (i_tup K) (pv 0) (pv 2) (fun _ _ => rfl)) rfl))) (fun _ _ _ _ _ => (pv 7)))) (pg_name (i := 6) sc_exs.nd rfl (Or.inl rfl))
      (pss_one (ps_if (pt_cmpR (o_inT K hu) (pe_callTy (c_tuple K) (by rfl) B.tuple (by decide +kernel) (pa_cons (pe_callB (c_srt K hr.units) (by rfl) B.sorted (by decide +kernel) (pa_cons (pe_op (o_catA K) (pe_call D__law_but.G hr1 rfl D__law_but.m D__law_but.kp D__law_but.b .nil pass0 (pa_cons (pe_ix (i_tup K) (pv 0) (pv 2) (fun _ _ => rfl)) (pa_cons (pv 4) pa_nil))) (pe_tup (pa_cons (pv 6) pa_nil))) pa_nil)) pa_nil)) (pv 0) rfl) (pss_one (ps_expr (pe_bm PySem.F.plainAttrs_list PySem.F.slot_list_append PySem.F.type_list_append mt_append (pv 5) (pa_cons (pv 6) pa_nil)))) pss_nil)))
      (pss_one (ps_expr (pe_bm PySem.F.plainAttrs_list PySem.F.slot_list_append PySem.F.type_list_append mt_append (pv 1) (pa_cons (pe_tup (pa_cons (pv 2) (pa_cons (pv 3) (pa_cons (pv 4) (pa_cons (pv 5) pa_nil))))) pa_nil)))))))))))
      (pss_one (ps_ret (pv 1))))), ?_⟩
    obtain ⟨a, xs, rfl, ha, hp⟩ := ht
    have ht : S2 K H (.ref a) ts := ⟨a, xs, rfl, ha, hp⟩
    have hxl : xs.length = ts.length := prd_len hp
    have hn : ts.length ≤ 64 := gt.many
    refine ⟨Nat.zero_le _, fun F nF => ?_⟩
    have s1 : Same H (upd H F (.lst [])) := same_upd nF
    have hz : ∀ i, (ts.getD i []).length ≤ 8 ∧ ∀ n ∈ ts.getD i [], okS n := fun i => by
      by_cases hi : i < ts.length
      · have e : ts.getD i [] = ts[i] := by simp [List.getD, List.getElem?_eq_getElem hi]
        rw [e]
        exact (gt.each _ (List.getElem_mem hi)).2
      · have e : ts.getD i [] = [] := by simp [List.getD, List.getElem?_eq_none (Nat.le_of_not_lt hi)]
        rw [e]
        exact ⟨by simp, fun n z => absurd z (by simp)⟩
    have b1 : ∀ i j, (rowsIJ ts i j).length ≤ 8 := fun i j => by
      unfold rowsIJ
      rw [List.length_map]
      exact Nat.le_trans (nc_le _ _) (hz i).1
    have b2 : ∀ i m, m ≤ 64 → ((List.range m).flatMap fun j => rowsIJ ts i j).length ≤ 512 := fun i m hm => by
      have h1 := flat_le 8 (fun j => rowsIJ ts i j) (List.range m) fun j _ => b1 i j
      rw [List.length_range] at h1
      omega
    have b3 : ∀ m, m ≤ 64 → ((List.range m).flatMap fun i => rowsI ts i).length ≤ 64 * 512 := fun m hm => by
      have h1 := flat_le 512 (fun i => rowsI ts i) (List.range m) fun i _ => b2 i ts.length hn
      rw [List.length_range] at h1
      have h2 : m * 512 ≤ 64 * 512 := Nat.mul_le_mul_right _ hm
      omega
    -- for i
    refine ⟨_, rfl, a, xs, rfl, .inr (sameT s1 ha), (ts.length : Int), by rw [hxl], by omega, by omega, ?_⟩
    refine for_range (lo := 0) (n := (ts.length : Int).toNat) (fun i σ' H' => (∃ v2 v3 v4 v5 v6, σ' = [some (.ref a), some (.ref F), v2, v3, v4, v5, v6, none]) ∧ Same H H' ∧ ∃ us, H' F = some (.lst us) ∧ DpAll K (hid F H') us ((List.range i).flatMap fun i => rowsI ts i))
      ⟨⟨none, none, none, none, none, rfl⟩, s1, [], upd_same, .nil⟩ ?_ ?_
    · rintro i σ1 H1 hi ⟨⟨v2, v3, v4, v5, v6, rfl⟩, e1, us1, hF1, hD1⟩
      rw [show (0 : Int) + (i : Int) = (i : Int) from Int.zero_add _]
      have hin : i < ts.length := by omega
      -- for j
      refine ⟨_, rfl, a, xs, rfl, .inr (sameT e1 ha), (ts.length : Int), by rw [hxl], by omega, by omega, ?_⟩
      refine for_range (lo := 0) (n := (ts.length : Int).toNat) (fun j σ' H' => (∃ v3 v4 v5 v6, σ' = [some (.ref a), some (.ref F), some (.int i), v3, v4, v5, v6, none]) ∧ Same H H' ∧ ∃ us, H' F = some (.lst us) ∧ DpAll K (hid F H') us (((List.range i).flatMap fun i => rowsI ts i) ++ (List.range j).flatMap fun j => rowsIJ ts i j))
        ⟨⟨v3, v4, v5, v6, rfl⟩, e1, us1, hF1, by simpa using hD1⟩ ?_ ?_
      · rintro j σ2 H2 hj ⟨⟨v3, v4, v5, v6, rfl⟩, e2, us2, hF2, hD2⟩
        rw [show (0 : Int) + (j : Int) = (j : Int) from Int.zero_add _]
        have hjn : j < ts.length := by omega
        obtain ⟨_, _, y, e, ha', hy, sy⟩ := S2.item ht hin
        cases e
        obtain ⟨_, _, z, e, ha'', hzz, sz⟩ := S2.item ht hjn
        cases e
        generalize hA : ts.getD i [] = tA at sy
        generalize hB : ts.getD j [] = tB at sz
        have okA : tA.length ≤ 8 ∧ ∀ n ∈ tA, okS n := hA ▸ hz i
        have okB : tB.length ≤ 8 ∧ ∀ n ∈ tB, okS n := hB ▸ hz j
        obtain ⟨ay, rfl, sy⟩ := sy
        obtain ⟨az, rfl, sz⟩ := sz
        -- for name
        refine for_names (ns := tA) (fun p => !isIn p tB) (fun R hR => ⟨_, rfl, _, rfl, a, _, _, _, rfl, rfl, sameT e2 ha', hy, hR ay H2 (Same.refl H2) (sameT e2 sy)⟩) (by omega) (fun _ => rfl) (fun _ => rfl) (fun p _ H3 e3 R hR => ?_) fun L H3 nL e3 hL => ?_
        · exact ⟨_, rfl, _, rfl, _, rfl, a, _, _, _, rfl, rfl, sameT (e2.trans e3) ha'', hzz, az, _, rfl, .inr (sameT (e2.trans e3) sz), rfl, flat_strs tB, _, rfl, by rw [inV_strs]; exact hR⟩
        · have nLF : L ≠ F := fun e => by
            rw [e, hF2] at nL
            cases nL
          have hF3 := e3 _ _ hF2
          refine ⟨fun k σ' H' => (∃ v4 v5 v6, σ' = [some (.ref a), some (.ref F), some (.int i), some (.int j), v4, v5, v6, none]) ∧ Same (hid F H3) (hid F H') ∧ ∃ us, H' F = some (.lst us) ∧
            DpAll K (hid F H') us (((List.range i).flatMap fun i => rowsI ts i) ++ ((List.range j).flatMap fun j => rowsIJ ts i j) ++ ((nc tB tA).take k).map fun nm => rowD i j nm (farL ts tA tB nm)),
            ⟨⟨v4, v5, v6, rfl⟩, Same.refl _, us2, hF3, by simpa using dpsSame (hid_same e3) _ _ hD2⟩, fun k σ' H' z => ?_, fun k nm σ' H' hk z => ?_, fun σ' H' z => ?_⟩
          · have := z.2.1 L _ (by rw [hid_ne nLF]; exact hL)
            rw [hid_ne nLF] at this
            exact this
          · obtain ⟨⟨v4, v5, v6, rfl⟩, g3, us, hF, hDu⟩ := z
            have hnm : nm ∈ nc tB tA := List.mem_of_getElem? hk
            have hkl : k < (nc tB tA).length := (List.getElem?_eq_some_iff.mp hk).1
            have kl8 : (nc tB tA).length ≤ 8 := Nat.le_trans (nc_le _ _) okA.1
            have up : Same H H' := fun b o e => by
              have nb : b ≠ F := ne_of_none e nF
              have w1 := g3 b o (by rw [hid_ne nb]; exact e3 _ _ (e2 _ _ e))
              rw [hid_ne nb] at w1
              exact w1
            -- some = []
            refine sq_lst fun l nl => ?_
            have nlF : l ≠ F := fun e => by
              rw [e, hF] at nl
              cases nl
            have nl' : hid F H' l = none := by rw [hid_ne nlF]; exact nl
            have up2 : Same H (upd H' l (.lst [])) := up.trans (same_upd nl)
            refine sq_for ?_
            refine for_names (ns := tB) (fun p => !isIn p tA) (fun R hR => ⟨_, rfl, _, rfl, a, _, _, _, rfl, rfl, sameT up2 ha'', hzz, hR az _ (Same.refl _) (sameT up2 sz)⟩) (by omega) (fun _ => rfl) (fun _ => rfl) (fun p _ H4 e4 R hR => ?_) fun L2 H4 nL2 e4 hL2 => ?_
            · exact ⟨_, rfl, _, rfl, _, rfl, a, _, _, _, rfl, rfl, sameT (up2.trans e4) ha', hy, ay, _, rfl, .inr (sameT (up2.trans e4) sy), rfl, flat_strs tA, _, rfl, by rw [inV_strs]; exact hR⟩
            · have nL2l : L2 ≠ l := fun e => by
                rw [e, upd_same] at nL2
                cases nL2
              have nL2F : L2 ≠ F := fun e => by
                rw [e, upd_ne nlF.symm, hF] at nL2
                cases nL2
              have hF4 : H4 F = some (.lst us) := e4 _ _ (by rw [upd_ne nlF.symm]; exact hF)
              have hl4 : H4 l = some (.lst []) := e4 _ _ upd_same
              have g4 : Same (hid F H') (hid F H4) := fun b o e => by
                by_cases hb : b = F
                · rw [hb, hid_at] at e
                  cases e
                · rw [hid_ne hb] at e ⊢
                  exact e4 _ _ (same_upd nl _ _ e)
              refine ⟨fun m σ' H5 => (∃ v6, σ' = [some (.ref a), some (.ref F), some (.int i), some (.int j), some (.str nm), some (.ref l), v6, none]) ∧ H5 F = some (.lst us) ∧ Same (hid F H') (hid F H5) ∧ H5 L2 = some (.lst ((nc tA tB).map V.str)) ∧
                H5 l = some (.lst ((((nc tA tB).take m).filter fun far => isOne (ex tA nm far) ts).map V.str)), ⟨⟨v6, rfl⟩, hF4, g4, hL2, hl4⟩, fun m σ' H5 z => z.2.2.2.1, fun m far σ' H5 hm z => ?_, fun σ' H5 z => ?_⟩
              · obtain ⟨⟨v6, rfl⟩, hF5, g5, hL5, hl5⟩ := z
                have hfar : far ∈ nc tA tB := List.mem_of_getElem? hm
                have up5 : Same H H5 := fun b o e => by
                  have nb : b ≠ F := ne_of_none e nF
                  have w1 := g5 b o (by rw [hid_ne nb]; exact up _ _ e)
                  rw [hid_ne nb] at w1
                  exact w1
                refine ⟨_, rfl, _, rfl, a, _, _, _, rfl, rfl, sameT up5 ha', hy, _, rfl, .ref ay, tA, nm, rfl, ⟨ay, rfl, sameT up5 sy⟩, by omega, fun v H6 e6 hv => ?_⟩
                obtain ⟨av, rfl, hv⟩ := hv
                refine ⟨_, rfl, (by decide : 1 ≤ sizeLine), fun t nt => ?_⟩
                have hbl : (but tA nm).length ≤ 8 := Nat.le_trans (List.length_filter_le _ _) okA.1
                refine cat_names (xs := but tA nm) (ys := [far]) (sameT (same_upd nt) hv) (st_ upd_same) (by show _ + 1 ≤ _; omega) fun z7 H7 e7 h7 => ?_
                unfold tNil
                show rSrt K [.ref z7] _ _
                refine srt_any (.inr h7) fun p8 n8 => ⟨p8, _, rfl, .inl ⟨sl_ upd_same, fun t9 n9 => ?_⟩⟩
                have e9 := (((e6.trans (same_upd nt)).trans e7).trans (same_upd n8)).trans (same_upd (o := .tup ((srt (but tA nm ++ [far])).map V.str)) n9)
                refine ⟨_, rfl, sD (ex tA nm far), ts.map sD, S1.dp ⟨t9, rfl, st_ upd_same⟩, (ht.same (up5.trans e9)).dp, shaped_sD (ok_ex okA.2 (ok_nc okB.2 far hfar)), shaped_teams (fun t z => (gt.each t z).2.2), _, rfl, ?_⟩
                rw [any_sD]
                have hF9 := e9 _ _ hF5
                have hL9 := e9 _ _ hL5
                have hl9 := e9 _ _ hl5
                have g9 := g5.trans (hid_same e9)
                generalize upd (upd H7 p8 (.lst ((srt (but tA nm ++ [far])).map V.str))) t9 (.tup ((srt (but tA nm ++ [far])).map V.str)) = H9 at hF9 hL9 hl9 g9 ⊢
                refine ite2 (fun hc => ?_) (fun hc => ?_)
                · refine ⟨_, rfl, .inl ⟨rfl, _, SqL.of hl9⟩, _, rfl, l, _, _, rfl, rfl, hl9, ?_, ?_⟩
                  · refine big ?_
                    rw [List.length_map]
                    have h1 := List.length_filter_le (fun far => isOne (ex tA nm far) ts) ((nc tA tB).take m)
                    have h2 := nc_le tA tB
                    rw [List.length_take] at h1
                    omega
                  · refine ⟨⟨_, rfl⟩, by rw [upd_ne nlF.symm]; exact hF9, ?_, by rw [upd_ne nL2l]; exact hL9, ?_⟩
                    · intro b o e
                      have nb : b ≠ l := ne_of_none e nl'
                      have w1 := g9 b o e
                      by_cases hb : b = F
                      · rw [hb, hid_at] at e
                        cases e
                      · rw [hid_ne hb] at w1 ⊢
                        rw [upd_ne nb]
                        exact w1
                    · rw [upd_same, take_snoc (show (nc tA tB)[m]? = some far from hm), List.filter_append, List.filter_cons_of_pos (p := fun far => isOne (ex tA nm far) ts) (a := far) hc]
                      simp
                · refine ⟨⟨_, rfl⟩, hF9, g9, hL9, ?_⟩
                  rw [take_snoc (show (nc tA tB)[m]? = some far from hm), List.filter_append, List.filter_cons_of_neg (p := fun far => isOne (ex tA nm far) ts) (a := far) hc]
                  simpa using hl9
              · obtain ⟨⟨v6, rfl⟩, hF5, g5, hL5, hl5⟩ := z
                have ef : ((nc tA tB).take (tB.filter fun p => !isIn p tA).length).filter (fun far => isOne (ex tA nm far) ts) = farL ts tA tB nm := by
                  show ((nc tA tB).take (nc tA tB).length).filter (fun far => isOne (ex tA nm far) ts) = farL ts tA tB nm
                  rw [List.take_length]
                  rfl
                rw [ef] at hl5
                refine ⟨_, rfl, .inl ⟨rfl, _, SqL.of hF5⟩, _, rfl, _, rfl, _, rfl, _, rfl, (by decide : 4 ≤ sizeLine), fun t nt => ?_⟩
                have ntF : t ≠ F := fun e => by
                  rw [e, hF5] at nt
                  cases nt
                have ntl : l ≠ t := ne_of_none hl5 nt
                have hul := dpa_len hDu
                refine ⟨F, us, _, rfl, rfl, by rw [upd_ne ntF.symm]; exact hF5, ?_, ⟨_, _, _, rfl⟩, ?_, us ++ [.ref t], upd_same, ?_⟩
                · have h1 := b3 i (by omega)
                  have h2 := b2 i j (by omega)
                  rw [List.length_append, List.length_append, List.length_map, List.length_take] at hul
                  exact big (by omega)
                · rw [hid_upd]
                  exact (g3.trans g5).trans (hid_same (same_upd nt))
                · rw [hid_upd]
                  have g6 : Same (hid F H') (hid F (upd H5 t (.tup [.int i, .int j, .str nm, .ref l]))) := g5.trans (hid_same (same_upd nt))
                  have one : Dp K (hid F (upd H5 t (.tup [.int i, .int j, .str nm, .ref l]))) (.ref t) (rowD i j nm (farL ts tA tB nm)) := by
                    refine .tup (st_ (by rw [hid_ne ntF]; exact upd_same)) (.cons (.int _) (.cons (.int _) (.cons (.str _) (.cons (.lst (sl_ ?_) (dpStrs _)) .nil))))
                    rw [hid_ne nlF, upd_ne ntl]
                    exact hl5
                  have ek : ((nc tB tA).take (k + 1)).map (fun nm => rowD i j nm (farL ts tA tB nm)) = ((nc tB tA).take k).map (fun nm => rowD i j nm (farL ts tA tB nm)) ++ [rowD i j nm (farL ts tA tB nm)] := by
                    rw [take_snoc (show (nc tB tA)[k]? = some nm from hk), List.map_append]
                    rfl
                  rw [ek, ← List.append_assoc]
                  exact dpa_app (dpsSame g6 _ _ hDu) (.cons one .nil)
          · obtain ⟨⟨v4, v5, v6, rfl⟩, g3, us, hF, hDu⟩ := z
            refine ⟨⟨_, _, _, _, rfl⟩, fun b o e => ?_, us, hF, ?_⟩
            · have nb : b ≠ F := ne_of_none e nF
              have w1 := g3 b o (by rw [hid_ne nb]; exact e3 _ _ (e2 _ _ e))
              rw [hid_ne nb] at w1
              exact w1
            · have e5 : ((nc tB tA).take (tA.filter fun p => !isIn p tB).length).map (fun nm => rowD i j nm (farL ts tA tB nm)) = rowsIJ ts i j := by
                show ((nc tB tA).take (nc tB tA).length).map (fun nm => rowD i j nm (farL ts tA tB nm)) = rowsIJ ts i j
                rw [List.take_length]
                unfold rowsIJ
                rw [hA, hB]
              rw [e5] at hDu
              rw [List.range_succ, List.flatMap_append, ← List.append_assoc]
              simpa using hDu
      · rintro σ2 H2 ⟨⟨v3, v4, v5, v6, rfl⟩, e2, us2, hF2, hD2⟩
        refine ⟨⟨_, _, _, _, _, rfl⟩, e2, us2, hF2, ?_⟩
        rw [List.range_succ, List.flatMap_append]
        have e5 : (List.range (ts.length : Int).toNat).flatMap (fun j => rowsIJ ts i j) = rowsI ts i := by
          rw [Int.toNat_natCast]
          rfl
        rw [e5] at hD2
        simpa using hD2
    · rintro σ1 H1 ⟨⟨v2, v3, v4, v5, v6, rfl⟩, e1, us1, hF1, hD1⟩
      refine ⟨_, rfl, q F us1 H1 e1 hF1 ?_⟩
      rw [Int.toNat_natCast] at hD1
      exact dpsSame (hid_sub F H1) _ _ hD1
end
end K49

namespace K49
open PySem PySem.Spec PyProof.Rows L2 PySem.W Cb Evl
/-- a row without anybody who can take the place -/
def rowE : PyData → Bool
  | .tuple [_, _, _, .list fs] => fs.isEmpty
  | _ => false
theorem rowE_row (i j : Nat) (nm : Str) (far : List Str) : rowE (rowD i j nm far) = far.isEmpty := by
  unfold rowD rowE
  cases far <;> rfl
theorem isEmpty_filter {α : Type} (p : α → Bool) (l : List α) : (l.filter p).isEmpty = !l.any p := by
  induction l with
  | nil => rfl
  | cons x l ih =>
    by_cases h : p x = true
    · rw [List.filter_cons_of_pos h, List.any_cons, h]
      rfl
    · rw [List.filter_cons_of_neg h, List.any_cons, ih]
      simp [h]
theorem getD_mem {ts : List (List Str)} {i : Nat} (h : i < ts.length) : ts.getD i [] ∈ ts := by
  have e : ts.getD i [] = ts[i] := by simp [List.getD, List.getElem?_eq_getElem h]
  rw [e]
  exact List.getElem_mem h
theorem good_same (ts : List (List Str)) : ((rowsL ts).filter rowE).isEmpty = (goodB ts).all id := by
  rw [isEmpty_filter, Bool.eq_iff_iff]
  constructor
  · intro h
    have h1 : ∀ d ∈ rowsL ts, rowE d = false := fun d hd => by
      cases e : rowE d with
      | false => rfl
      | true =>
        have : (rowsL ts).any rowE = true := List.any_eq_true.mpr ⟨d, hd, e⟩
        rw [this] at h
        cases h
    rw [List.all_eq_true]
    intro b hb
    unfold goodB at hb
    rw [List.mem_flatMap] at hb
    obtain ⟨c, hc, hb⟩ := hb
    rw [List.mem_flatMap] at hb
    obtain ⟨o, ho, hb⟩ := hb
    obtain ⟨p, hp, rfl⟩ := List.mem_map.mp hb
    obtain ⟨i, hi, ei⟩ := List.mem_iff_getElem.mp hc
    obtain ⟨j, hj, ej⟩ := List.mem_iff_getElem.mp ho
    have gi : ts.getD i [] = c := by simp [List.getD, List.getElem?_eq_getElem hi, ei]
    have gj : ts.getD j [] = o := by simp [List.getD, List.getElem?_eq_getElem hj, ej]
    have h2 := h1 (rowD i j p (farL ts c o p)) (by
      unfold rowsL rowsI rowsIJ
      refine List.mem_flatMap.mpr ⟨i, List.mem_range.mpr hi, List.mem_flatMap.mpr ⟨j, List.mem_range.mpr hj, ?_⟩⟩
      rw [gi, gj]
      exact List.mem_map.mpr ⟨p, hp, rfl⟩)
    rw [rowE_row] at h2
    unfold farL at h2
    rw [isEmpty_filter] at h2
    show canEx ts c p o = true
    unfold canEx
    simpa using h2
  · intro h
    rw [List.all_eq_true] at h
    have h1 : (rowsL ts).any rowE = false := by
      rw [List.any_eq_false]
      intro d hd
      unfold rowsL at hd
      rw [List.mem_flatMap] at hd
      obtain ⟨i, hi, hd⟩ := hd
      unfold rowsI at hd
      rw [List.mem_flatMap] at hd
      obtain ⟨j, hj, hd⟩ := hd
      unfold rowsIJ at hd
      obtain ⟨p, hp, rfl⟩ := List.mem_map.mp hd
      have hc := getD_mem (List.mem_range.mp hi)
      have ho := getD_mem (List.mem_range.mp hj)
      have h2 := h (canEx ts (ts.getD i []) p (ts.getD j [])) (by
        unfold goodB
        exact List.mem_flatMap.mpr ⟨_, hc, List.mem_flatMap.mpr ⟨_, ho, List.mem_map.mpr ⟨p, hp, rfl⟩⟩⟩)
      rw [rowE_row]
      unfold farL
      rw [isEmpty_filter]
      have h3 : canEx ts (ts.getD i []) p (ts.getD j []) = true := h2
      unfold canEx at h3
      simpa using h3
    rw [h1]
    rfl
theorem row_lay {i j : Nat} {nm : Str} {far : List Str} (h : okS nm) (hf : ∀ n ∈ far, okS n) : PyData.canLay0 (rowD i j nm far) = true ∧ PyData.depth (rowD i j nm far) ≤ 2 := by
  unfold rowD
  refine ⟨?_, ?_⟩
  · have h1 := lay_strs far hf
    simp [PyData.canLay0, PyData.canLayAll0, h1, h.1]
  · simp [PyData.depth, PyData.depthAll, depth_strs]
theorem rows_shaped : ∀ {ds : List PyData}, (∀ d ∈ ds, PyData.canLay0 d = true ∧ PyData.depth d ≤ 2) → PyData.canLayAll0 ds = true ∧ PyData.depthAll ds ≤ 2
  | [], _ => by simp [PyData.canLayAll0, PyData.depthAll]
  | d :: ds, h => by
    obtain ⟨a, b⟩ := rows_shaped (ds := ds) fun x hx => h x (List.mem_cons_of_mem _ hx)
    obtain ⟨c, e⟩ := h d List.mem_cons_self
    rw [PyData.canLayAll0, PyData.depthAll, a, c]
    exact ⟨rfl, Nat.max_le.mpr ⟨e, b⟩⟩
theorem rows_ok {ts : List (List Str)} (gt : Gt ts) : ∀ d ∈ rowsL ts, ∃ i j nm far, d = rowD i j nm far ∧ okS nm ∧ ∀ n ∈ far, okS n := fun d hd => by
  unfold rowsL at hd
  rw [List.mem_flatMap] at hd
  obtain ⟨i, hi, hd⟩ := hd
  unfold rowsI at hd
  rw [List.mem_flatMap] at hd
  obtain ⟨j, hj, hd⟩ := hd
  unfold rowsIJ at hd
  obtain ⟨p, hp, rfl⟩ := List.mem_map.mp hd
  have hc := (gt.each _ (getD_mem (List.mem_range.mp hi))).2.2
  have ho := (gt.each _ (getD_mem (List.mem_range.mp hj))).2.2
  exact ⟨i, j, p, _, rfl, ok_nc hc p hp, fun n hn => ok_nc ho n (List.mem_filter.mp hn).1⟩
theorem dpa_prd {K : Frag} {H : Hp} : ∀ {us : List V} {ds : List PyData}, DpAll K H us ds → Paired (Dp K H) us ds
  | _, [], h => by cases h; exact .nil
  | _, _ :: _, h => by
    cases h with
    | cons a b => exact .cons a (dpa_prd b)
theorem prd_dpa {K : Frag} {H : Hp} : ∀ {us : List V} {ds : List PyData}, Paired (Dp K H) us ds → DpAll K H us ds
  | _, _, .nil => .nil
  | _, _, .cons a b => .cons a (prd_dpa b)
section
variable {K : Frag} {tl : TE} {j : Nat} {vs : List Nat} {σ : Stt} {H : Hp} {tt : TT} {Q : VK} {β : Type} {F : Hp → V → β → Prop}
/-- [x for x in xs if ..], the items told by what they stand for -/
theorem lcL_pair (mono : ∀ H1 H2 v b, Same H1 H2 → F H1 v b → F H2 v b) (bs : List β) (p : β → Bool) (hl : ∀ R : VK, (∀ a H1 us, Same H H1 → SqL K H1 a us → Paired (F H1) us bs → R (.ref a) H1) → tl σ H R) (hn : bs.length ≤ 100000)
    (hj : ∀ x, wipe ((wipe σ vs).set j (some x)) vs = wipe σ vs) (hv : ∀ x, ((wipe σ vs).set j (some x))[j]? = some (some x))
    (ht : ∀ x b, b ∈ bs → ∀ H1, Same H H1 → F H1 x b → ∀ R : Bool → Hp → Prop, (∀ H2, Same H1 H2 → R (p b) H2) → tt ((wipe σ vs).set j (some x)) H1 R)
    (q : ∀ L us H', H L = none → Same H H' → H' L = some (.lst us) → Paired (F H') us (bs.filter p) → Q (.ref L) H') : tLc (iList K tl) (gName j) tt (tVar j) vs σ H Q := by
  refine hl _ fun a H1 us e1 hs hp => ⟨a, rfl, ⟨us, hs⟩, fun L nL => ?_⟩
  have hlen := prd_len hp
  refine lc_list (K := K) (a := a) (xs := us) (fun i H' => Same H1 H' ∧ ∃ ws, H' L = some (.lst ws) ∧ Paired (F H1) ws ((bs.take i).filter p)) ⟨same_upd nL, [], upd_same, .nil⟩ (fun i H' _ z => z.1.seq hs) (fun i x H' hi z => ⟨hj x, ?_⟩) fun H' z => ?_
  · obtain ⟨e2, ws, hw, hpw⟩ := z
    obtain ⟨b, hb, hf⟩ := prd_getL hp hi
    have hwl := prd_len hpw
    have hfl := List.length_filter_le p (bs.take i)
    have hbl := (List.getElem?_eq_some_iff.mp hb).1
    rw [List.length_take] at hfl
    refine ht x b (List.mem_of_getElem? hb) H' (e1.trans e2) (mono _ _ _ _ e2 hf) _ fun H2 e3 => ?_
    rw [take_snoc hb, List.filter_append]
    by_cases h : p b = true
    · rw [if_pos h]
      refine ⟨x, hv x, ws, e3 _ _ hw, big (by omega), same_mut (e2.trans e3) nL, ws ++ [x], upd_same, ?_⟩
      rw [List.filter_cons_of_pos h]
      exact prd_app hpw (.cons hf .nil)
    · rw [if_neg h]
      refine ⟨e2.trans e3, ws, e3 _ _ hw, ?_⟩
      rw [List.filter_cons_of_neg h]
      simpa using hpw
  · obtain ⟨e2, ws, hw, hpw⟩ := z
    rw [hlen, List.take_length] at hpw
    exact q L ws H' (e1.free nL) (e1.trans e2) hw (prd_mono (fun _ _ z => mono _ _ _ _ e2 z) hpw)
end
section
variable {P : Program} {w : World} {K : Frag} {mg : Str → Option Value} {base : Heap}
abbrev s_lgood : Stmt := top 18
abbrev N_lgood : List Str := ["_law_teams", "_law_row_now"]
theorem sc_lgood : FnScope N_lgood ["_law_teams"] (defScope s_lgood) := ⟨rfl, rfl, rfl, by decide +kernel, rfl, by decide +kernel, by decide +kernel⟩
theorem ok_lgood {f : Addr} {fd : FuncData} {k : Nat} (F : Fun K "_law_is_good" "_law_is_good" s_lgood f fd) (D__law_exchanges : Own P w K mg base 2 "_law_exchanges" ["_law_teams"] (sp_exs K)) : FnOk P w K mg base CX0 (k + 3) f fd ["_law_teams"] (sp_good K) := by
  refine F.ok sc_lgood (fun vs H Q E h => ?_) (fun cdv A outer s H vs Q E hr h => ?_)
  · obtain ⟨_, _, rfl, _⟩ := h
    rfl
  · obtain ⟨x, ts, rfl, ht, gt, q⟩ := h
    have hr2 : Room 2 _ := hr.mono (by omega)
    refine ⟨_, (pss_one (ps_ret (pe_cmpR (o_eqD K hr.units) (pe_lc (own := [("_law_row_now", 1)]) (g := gName 1) rfl sc_lgood.nd (p_list K (pe_call D__law_exchanges.G hr2 rfl D__law_exchanges.m D__law_exchanges.kp D__law_exchanges.b .nil pass0 (pa_cons (pv 0) pa_nil))) (blkOk_by (own := [("_law_row_now", 1)]) (N := N_lgood) (sc := defScope s_lgood) (by decide +kernel)) (fun _ _ _ _ _ => (pg_name (i := 1) sc_lgood.nd rfl (Or.inl rfl)))
      (fun _ _ _ _ _ => (pts_one (pt_cmpR (o_eqD K hr.units) (pe_ix (i_tup K) (pv 1) pe_int (fun _ _ => rfl)) (pe_lst pa_nil) (nomark _)))) (fun _ _ _ _ _ => (pv 1))) (pe_lst pa_nil) (nomark _)))), ?_⟩
    unfold tRet tOp
    have ok := rows_ok gt
    have hz : ∀ i, (ts.getD i []).length ≤ 8 := fun i => by
      by_cases hi : i < ts.length
      · exact (gt.each _ (getD_mem hi)).2.1
      · have e : ts.getD i [] = [] := by simp [List.getD, List.getElem?_eq_none (Nat.le_of_not_lt hi)]
        rw [e]
        simp
    have long : (rowsL ts).length ≤ 100000 := by
      have h1 := flat_le 512 (fun i => rowsI ts i) (List.range ts.length) fun i _ => by
        have h2 := flat_le 8 (fun j => rowsIJ ts i j) (List.range ts.length) fun j _ => by
          unfold rowsIJ
          rw [List.length_map]
          exact Nat.le_trans (nc_le _ _) (hz i)
        rw [List.length_range] at h2
        have := gt.many
        exact Nat.le_trans h2 (by omega)
      rw [List.length_range] at h1
      have h3 : ts.length * 512 ≤ 64 * 512 := Nat.mul_le_mul_right _ gt.many
      exact Nat.le_trans h1 (by omega)
    refine lcL_pair (F := Dp K) (fun H1 H2 v b e z => dpSame e _ _ z) (rowsL ts) rowE (fun R hR => ⟨_, rfl, x, ts, rfl, ht, gt, fun F us H' e hF hD => hR F H' us e (sl_ hF) (dpa_prd hD)⟩) long (fun _ => rfl) (fun _ => rfl) (fun v d hd H1 e1 hv R hR => ?_) fun L us H' nL e hL hp => ?_
    · obtain ⟨i, j, nm, far, rfl, okn, okf⟩ := ok d hd
      rw [rowE_row] at hR
      unfold rowD at hv
      cases hv with
      | @tup t ys _ hs ha =>
        cases ha with
        | cons h1 ha =>
          cases ha with
          | cons h2 ha =>
            cases ha with
            | cons h3 ha =>
              cases ha with
              | cons h4 ha =>
                cases ha
                refine ⟨_, rfl, t, _, 3, _, rfl, rfl, hs, atI_nat (j := 3) rfl, Nat.zero_le _, fun l nl => ⟨_, .list [], dpSame (same_upd nl) _ _ h4, .lst (sl_ upd_same) .nil, shaped_strs okf, shaped_nil, _, rfl, ?_⟩⟩
                rw [eqv_strs_nil]
                exact hR _ (same_upd nl)
    · have sh := rows_shaped (ds := (rowsL ts).filter rowE) fun d hd => by
        obtain ⟨i, j, nm, far, rfl, okn, okf⟩ := ok d (List.mem_filter.mp hd).1
        exact row_lay okn okf
      refine ⟨Nat.zero_le _, fun l nl => ⟨.list ((rowsL ts).filter rowE), .list [], dpSame (same_upd nl) _ _ (.lst (sl_ hL) (prd_dpa hp)), .lst (sl_ upd_same) .nil, ?_, shaped_nil, ?_⟩⟩
      · unfold SeqAt.shaped
        rw [PyData.canLay0, sh.1, PyData.depth]
        have := sh.2
        simp
        omega
      · rw [eqv_list_nil, good_same]
        exact q _ (e.trans (same_upd nl))
end
end K49

namespace K49
open PySem PySem.Spec PyProof.Rows L2 PySem.W Cb Evl
/-- x = e, then the rest -/
theorem sq_set {i : Nat} {te : TE} {rest : TS} {D : Ends} {σ : Stt} {H : Hp} (h : te σ H fun x H1 => rest D (σ.set i (some x)) H1) : tSeq (tAsg te (gName i)) rest D σ H := h
/-- sets made of some people, of every size up to i -/
structure Sets (i : Nat) (ns : List Str) (f : List (List Str)) : Prop where
  num : f.length = 2 ^ i
  each : ∀ t ∈ f, t.length ≤ i ∧ ∀ n ∈ t, n ∈ ns
  any : ∀ k, k ≤ i → ∃ t, t ∈ f ∧ t.length = k
theorem sets0 (ns : List Str) : Sets 0 ns [[]] := ⟨rfl, fun t h => by rw [List.mem_singleton.mp h]; exact ⟨Nat.le_refl _, fun n z => absurd z (by simp)⟩, fun k hk => ⟨[], by simp, by simp; omega⟩⟩
theorem Sets.step {i : Nat} {ns : List Str} {f : List (List Str)} {n : Str} (h : Sets i ns f) (hn : n ∈ ns) : Sets (i + 1) ns (f ++ f.map (· ++ [n])) := by
  refine ⟨by rw [List.length_append, List.length_map, h.num, Nat.pow_succ]; omega, fun t ht => ?_, fun k hk => ?_⟩
  · rcases List.mem_append.mp ht with ht | ht
    · have := h.each t ht
      exact ⟨by omega, this.2⟩
    · obtain ⟨u, hu, rfl⟩ := List.mem_map.mp ht
      have := h.each u hu
      refine ⟨by simp; omega, fun m hm => ?_⟩
      rcases List.mem_append.mp hm with hm | hm
      · exact this.2 m hm
      · rw [List.mem_singleton.mp hm]
        exact hn
  · by_cases hki : k ≤ i
    · obtain ⟨t, ht, e⟩ := h.any k hki
      exact ⟨t, List.mem_append.mpr (.inl ht), e⟩
    · obtain ⟨t, ht, e⟩ := h.any i (Nat.le_refl _)
      exact ⟨t ++ [n], List.mem_append.mpr (.inr (List.mem_map.mpr ⟨t, ht, rfl⟩)), by simp; omega⟩
theorem Sets.perm {i : Nat} {ns : List Str} {f g : List (List Str)} (h : Sets i ns f) (p : g.Perm f) : Sets i ns g :=
  ⟨by rw [p.length_eq, h.num], fun t ht => h.each t (p.mem_iff.mp ht), fun k hk => by
    obtain ⟨t, ht, e⟩ := h.any k hk
    exact ⟨t, p.mem_iff.mpr ht, e⟩⟩
section
variable {P : Program} {w : World} {K : Frag} {mg : Str → Option Value} {base : Heap}
/-! ### all sets of some people -/
abbrev s_sets : Stmt := top 16
abbrev N_sets : List Str := ["_law_names_now", "_law_found", "_law_name", "_law_some"]
theorem sc_sets : FnScope N_sets ["_law_names_now"] (defScope s_sets) := ⟨rfl, rfl, rfl, by decide +kernel, rfl, by decide +kernel, by decide +kernel⟩
def sp_sets (K : Frag) : Sp := fun vs H Q _ => ∃ (a : Addr) (ns : List Str), vs = [.ref a] ∧ SqL K H a (ns.map V.str) ∧ ns.length ≤ 10 ∧
  ∀ (F : Addr) (us : List V) (f : List (List Str)) (H' : Hp), Same H H' → H' F = some (.lst us) → Paired (S1 K H') us f → Sets ns.length ns f → Q (.ref F) H'
theorem ok_sets {f : Addr} {fd : FuncData} {k : Nat} (F : Fun K "_law_all_sets" "_law_all_sets" s_sets f fd) (B : Blt mg) : FnOk P w K mg base CX0 (k + 1) f fd ["_law_names_now"] (sp_sets K) := by
  refine F.ok sc_sets (fun vs H Q E h => ?_) (fun cdv A outer s H vs Q E hr h => ?_)
  · obtain ⟨_, _, rfl, _⟩ := h
    rfl
  · obtain ⟨a, ns, rfl, ha, hn, q⟩ := h
    refine ⟨_, (pss_cons (ps_set (i := 1) sc_sets.nd rfl (Or.inl rfl) (pe_lst (pa_cons (pe_tup pa_nil) pa_nil)))
      (pss_cons (ps_for PassesOwn.never rfl (p_list K (pe_callB (c_srt K hr.units) (by rfl) B.sorted (by decide +kernel) (pa_cons (pv 0) pa_nil))) (pg_name (i := 2) sc_sets.nd rfl (Or.inr rfl))
      (pss_one (ps_set (i := 1) sc_sets.nd rfl (Or.inl rfl) (pe_op op_cat (pv 1) (pe_lc (own := [("_law_some", 3)]) (g := gName 3) (tt := tYes) rfl sc_sets.nd (p_list K (pv 1)) (blkOk_by (own := [("_law_some", 3)]) (N := N_sets) (sc := defScope s_sets) (by decide +kernel)) (fun _ _ _ _ _ => (pg_name (i := 3) sc_sets.nd rfl (Or.inl rfl))) (fun _ _ _ _ _ => pts_nil) (fun _ _ _ _ _ => (pe_op (o_catA K) (pv 3) (pe_tup (pa_cons (pv 2) pa_nil)))))))))
      (pss_one (ps_ret (pe_srtLen hr.units B.sorted B.len (by rfl) (by rfl) (pv 1)))))), ?_⟩
    refine sq_set ⟨Nat.zero_le _, fun p np => ⟨(by decide : 1 ≤ sizeLine), fun F0 nF => ?_⟩⟩
    have s1 : Same H (upd H p (.tup [])) := same_upd np
    have s2 := s1.trans (same_upd (o := .lst [.ref p]) nF)
    refine sq_for ?_
    unfold tFor iList tCB tCons tNil
    refine ⟨_, rfl, ?_⟩
    show rSrt K [.ref a] _ _
    refine srt_any (.inl (s2.seq ha)) fun L nL => ⟨L, rfl, ⟨_, sl_ upd_same⟩, ?_⟩
    have s3 := s2.trans (same_upd (o := .lst ((srt ns).map V.str)) nL)
    refine for_list (xs := (srt ns).map V.str) (fun i σ' H' => Same H H' ∧ H' L = some (.lst ((srt ns).map V.str)) ∧ ∃ (v2 : Option V) (F' : Addr) (us : List V) (f : List (List Str)), σ' = [some (.ref a), some (.ref F'), v2, none] ∧ H' F' = some (.lst us) ∧ Paired (S1 K H') us f ∧ Sets i ns f)
      ⟨s3, upd_same, none, F0, [.ref p], [[]], rfl, same_upd nL _ _ upd_same, .cons ⟨p, rfl, st_ (same_upd nL _ _ (same_upd nF _ _ upd_same))⟩ .nil, sets0 ns⟩ (fun i σ' H2 _ z => sl_ z.2.1) (fun i x σ' H2 hi z => ?_) fun σ' H2 z => ?_
    · obtain ⟨e2, hL, v2, F', us, f, rfl, hF, hp, hs⟩ := z
      rw [List.getElem?_map] at hi
      obtain ⟨n, hi2, rfl⟩ := Option.map_eq_some_iff.mp hi
      have hnm : n ∈ ns := (srt_perm ns).mem_iff.mp (List.mem_of_getElem? hi2)
      have hil := (List.getElem?_eq_some_iff.mp hi2).1
      rw [srt_len] at hil
      have hul := prd_len hp
      have hfl := hs.num
      have h10 : 2 ^ i ≤ 2 ^ 10 := Nat.pow_le_pow_right (by decide) (by omega)
      refine ⟨_, rfl, ?_⟩
      refine lcL_rel (K := K) (tl := tVar 1) (j := 3) (vs := [3]) (te := tOp (rCatA K) (tVar 3) (tTup (tCons (tVar 2) tNil))) (xs := us) (F := fun H v b => S1 K H v b) (fun _ _ _ _ e z => e.s1 z) (f.map (· ++ [n])) (fun R hR => ⟨_, rfl, hR F' _ (Same.refl _) (sl_ hF)⟩) (by omega) (by rw [List.length_map]; exact hul) (fun _ => rfl) (fun j x b hx hb H3 e3 R hR => ?_) fun D ws H3 nD e3 hD hp3 => ?_
      · rw [List.getElem?_map] at hb
        obtain ⟨t, ht, rfl⟩ := Option.map_eq_some_iff.mp hb
        obtain ⟨t', ht', hx'⟩ := prd_getL hp hx
        rw [ht] at ht'
        cases ht'
        obtain ⟨ax, rfl, hx'⟩ := hx'
        have := (hs.each t (List.mem_of_getElem? ht)).1
        refine ⟨_, rfl, _, rfl, (by decide : 1 ≤ sizeLine), fun l nl => ?_⟩
        refine cat_names (xs := t) (ys := [n]) (sameT (e3.trans (same_upd nl)) hx') (st_ upd_same) (by simp; omega) fun z H4 e4 hz => hR _ _ ((same_upd nl).trans e4) ⟨z, rfl, hz⟩
      · have hwl := prd_len hp3
        rw [List.length_map] at hwl
        refine ⟨F', D, us, ws, rfl, rfl, e3 _ _ hF, hD, Nat.le_of_lt (big (by omega)), fun z nz => ?_⟩
        have s4 := same_upd (o := .lst (us ++ ws)) nz
        exact ⟨(e2.trans e3).trans s4, s4 _ _ (e3 _ _ hL), some (.str n), z, us ++ ws, f ++ f.map (· ++ [n]), rfl, upd_same, prd_app (prd_mono (fun _ _ z => z.same (e3.trans s4)) hp) (prd_mono (fun _ _ z => z.same s4) hp3), hs.step hnm⟩
    · obtain ⟨e2, hL, v2, F', us, f, rfl, hF, hp, hs⟩ := z
      rw [List.length_map, srt_len] at hs
      obtain ⟨zs, rfl, rfl, hz⟩ := prd_fst hp
      refine ⟨_, rfl, F', zs, rfl, sl_ hF, hz, fun p np => ?_⟩
      have s4 := same_upd (o := .lst ((zs.mergeSort (dataLe false fun b : V × List Str => PyData.int b.2.length)).map (·.1))) np
      exact q p _ ((zs.mergeSort (dataLe false fun b : V × List Str => PyData.int b.2.length)).map (·.2)) _ (e2.trans s4) upd_same (prd_of fun z m => (hz z (List.mem_mergeSort.mp m)).same s4) (hs.perm ((List.mergeSort_perm zs _).map _))
end
end K49

namespace K49
open PySem PySem.Spec PyProof.Rows L2 PySem.W Cb Evl
theorem sq_par {i j : Nat} {ta : TA} {rest : TS} {D : Ends} {σ : Stt} {H : Hp} (h : ta σ H fun vs H1 => ∃ v w, vs = [v, w] ∧ rest D ((σ.set i (some v)).set j (some w)) H1) : tSeq (tPar i j ta) rest D σ H := h
section
variable {K : Frag} {tl : TE} {j : Nat} {vs : List Nat} {σ : Stt} {H : Hp} {Q : VK} {tt : TT} {F : Addr} {us : List V} {ts : List (List Str)}
/-- [t for t in found if ..], some of the crews found -/
theorem lcL_some (hl : ∀ R : VK, R (.ref F) H → tl σ H R) (hF : H F = some (.lst us)) (hp : Paired (S1 K H) us ts) (hn : us.length ≤ 1000) (hj : ∀ x, wipe ((wipe σ vs).set j (some x)) vs = wipe σ vs) (hv : ∀ x, ((wipe σ vs).set j (some x))[j]? = some (some x))
    (ht : ∀ x t, t ∈ ts → ∀ H1, Same H H1 → S1 K H1 x t → ∀ R : Bool → Hp → Prop, (∀ b H2, Same H1 H2 → R b H2) → tt ((wipe σ vs).set j (some x)) H1 R)
    (q : ∀ D ws wts H', H D = none → Same H H' → H' D = some (.lst ws) → Paired (S1 K H') ws wts → (∀ t ∈ wts, t ∈ ts) → Q (.ref D) H') : tLc (iList K tl) (gName j) tt (tVar j) vs σ H Q := by
  refine hl _ ⟨F, rfl, ⟨us, sl_ hF⟩, fun D nD => ?_⟩
  refine lc_list (K := K) (a := F) (xs := us) (fun i H' => Same H H' ∧ ∃ ws wts, H' D = some (.lst ws) ∧ Paired (S1 K H') ws wts ∧ ws.length ≤ i ∧ ∀ t ∈ wts, t ∈ ts) ⟨same_upd nD, [], [], upd_same, .nil, Nat.zero_le _, fun _ z => absurd z (by simp)⟩ (fun i H' _ z => sl_ (z.1 _ _ hF)) (fun i x H' hi z => ⟨hj x, ?_⟩) fun H' z => ?_
  · obtain ⟨e2, ws, wts, hw, hpw, hwi, hm⟩ := z
    obtain ⟨t, ht', hx⟩ := prd_getL hp hi
    have htm : t ∈ ts := List.mem_of_getElem? ht'
    have hil := (List.getElem?_eq_some_iff.mp hi).1
    refine ht x t htm H' e2 (hx.same e2) _ fun b H2 e3 => ?_
    cases b with
    | true =>
      rw [if_pos rfl]
      refine ⟨x, hv x, ws, e3 _ _ hw, big (by omega), same_mut (e2.trans e3) nD, ws ++ [x], wts ++ [t], upd_same, ?_, by simp; omega, fun u hu => ?_⟩
      · have f2 : Fx H2 (upd H2 D (.lst (ws ++ [x]))) := Fx.mut (e3 _ _ hw)
        exact prd_app (f2.s1s (prd_mono (fun _ _ z => z.same e3) hpw)) (.cons (f2.s1 (hx.same (e2.trans e3))) .nil)
      · rcases List.mem_append.mp hu with hu | hu
        · exact hm u hu
        · rw [List.mem_singleton.mp hu]
          exact htm
    | false =>
      rw [if_neg (by simp)]
      exact ⟨e2.trans e3, ws, wts, e3 _ _ hw, prd_mono (fun _ _ z => z.same e3) hpw, by omega, hm⟩
  · obtain ⟨e2, ws, wts, hw, hpw, hwi, hm⟩ := z
    exact q D ws wts H' nD e2 hw hpw hm
end
theorem clamp (x : Int) {n : Nat} (h : 1 ≤ n) : ∃ b : Nat, (if (if x < (n : Int) then x else (n : Int)) > 1 then (if x < (n : Int) then x else (n : Int)) else (1 : Int)) = (b : Int) ∧ 1 ≤ b ∧ b ≤ n := by
  refine ⟨(if (if x < (n : Int) then x else (n : Int)) > 1 then (if x < (n : Int) then x else (n : Int)) else (1 : Int)).toNat, ?_, ?_, ?_⟩ <;> split <;> split <;> omega
def pool : List Str := ["a", "b", "c", "d", "ed", "zzzzzzzz"]
theorem pool_ok : ∀ n ∈ pool, okS n := by
  intro n hn
  have h : (pool.all fun n => PyData.strOk n && decide ((reprText n).length ≤ 20)) = true := by decide +kernel
  have h2 := List.all_eq_true.mp h n hn
  simp only [Bool.and_eq_true, decide_eq_true_eq] at h2
  exact h2
section
variable {P : Program} {w : World} {K : Frag} {mg : Str → Option Value} {base : Heap}
/-! ### drawn crews -/
/-- crews made: some, and fit -/
def sp_made (lo hi : Int) (K : Frag) : Sp := fun vs H Q _ => ∃ (r c : Addr) (m d : Int), vs = [.ref r, .int m] ∧ lo ≤ m ∧ m ≤ hi ∧ d ≤ 1000000 ∧ Rng H r c d ∧ ∀ v ts H', Ch r H H' → Rng H' r c (d + 1000) → S2 K H' v ts → Gt ts → ts ≠ [] → Q v H'
abbrev s_teams : Stmt := top 13
abbrev N_teams : List Str := ["_law_rng", "_law_most", "_law_folk", "_law_found", "_law_amount", "_law_turn", "_law_extra", "_law_some", "_law_rivals", "_law_team"]
theorem sc_teams : FnScope N_teams ["_law_rng", "_law_most"] (defScope s_teams) := ⟨rfl, rfl, rfl, by decide +kernel, rfl, by decide +kernel, by decide +kernel⟩
theorem ok_teams {f : Addr} {fd : FuncData} {k : Nat} (F : Fun K "_law_make_teams" "_law_make_teams" s_teams f fd) (B : Blt mg) (D__law_draw : Own P w K mg base 1 "_law_draw" ["_law_rng", "_law_limit"] sp_draw) (D__law_sample : Own P w K mg base 2 "_law_sample" ["_law_rng", "_law_pool", "_law_amount"] (sp_sample K))
    (D__law_is_within : Own P w K mg base 1 "_law_is_within" ["_law_some", "_law_more"] (sp_within K)) : FnOk P w K mg base CX0 (k + 3) f fd ["_law_rng", "_law_most"] (sp_made 3 5 K) := by
  refine F.ok sc_teams (fun vs H Q E h => ?_) (fun cdv A outer s H vs Q E hr h => ?_)
  · obtain ⟨_, _, _, _, rfl, _⟩ := h
    rfl
  · obtain ⟨r, c, m, d, rfl, hm1, hm2, hd, hR, q⟩ := h
    have hr1 : Room 1 _ := hr.mono (by omega)
    have hr2 : Room 2 _ := hr.mono (by omega)
    refine ⟨_, (pss_cons (ps_set (i := 2) sc_teams.nd rfl (Or.inl rfl) (pe_call D__law_sample.G hr2 rfl D__law_sample.m D__law_sample.kp D__law_sample.b .nil pass0 (pa_cons (pv 0) (pa_cons (pe_lst (pa_cons pe_str (pa_cons pe_str (pa_cons pe_str (pa_cons pe_str (pa_cons pe_str (pa_cons pe_str pa_nil))))))) (pa_cons (pe_op op_add pe_int (pe_call D__law_draw.G hr1 rfl D__law_draw.m D__law_draw.kp D__law_draw.b .nil pass0 (pa_cons (pv 0) (pa_cons (pe_op op_sub (pv 1) pe_int) pa_nil)))) pa_nil)))))
      (pss_cons (ps_par (by rfl) sc_teams.nd (i := 3) (j := 4) rfl rfl (by decide) rfl rfl (pa_cons (pe_lst pa_nil) (pa_cons (pe_ix (i_list K) (pe_lst (pa_cons pe_int (pa_cons pe_int (pa_cons pe_int (pa_cons pe_int (pa_cons pe_int pa_nil)))))) (pe_call D__law_draw.G hr1 rfl D__law_draw.m D__law_draw.kp D__law_draw.b .nil pass0 (pa_cons (pv 0) (pa_cons pe_int pa_nil))) (fun _ _ => rfl)) pa_nil)) (by rfl))
      (pss_cons (ps_for PassesOwn.never rfl (pi_range1 rfl B.range (pa_cons (pe_op op_add pe_int (pe_call D__law_draw.G hr1 rfl D__law_draw.m D__law_draw.kp D__law_draw.b .nil pass0 (pa_cons (pv 0) (pa_cons pe_int pa_nil)))) pa_nil)) (pg_name (i := 5) sc_teams.nd rfl (Or.inl rfl))
      (pss_cons (ps_set (i := 6) sc_teams.nd rfl (Or.inl rfl) (pe_ix (i_list K) (pe_lst (pa_cons pe_int (pa_cons pe_int (pa_cons pe_int (pa_cons pe_int (pa_cons (pe_un un_neg pe_int) pa_nil)))))) (pe_call D__law_draw.G hr1 rfl D__law_draw.m D__law_draw.kp D__law_draw.b .nil pass0 (pa_cons (pv 0) (pa_cons pe_int pa_nil))) (fun _ _ => rfl)))
      (pss_cons (ps_set (i := 7) sc_teams.nd rfl (Or.inr rfl) (pe_callTy (c_tuple K) (by rfl) B.tuple (by decide +kernel) (pa_cons (pe_callB (c_srt K hr.units) (by rfl) B.sorted (by decide +kernel) (pa_cons (pe_call D__law_sample.G hr2 rfl D__law_sample.m D__law_sample.kp D__law_sample.b .nil pass0 (pa_cons (pv 0) (pa_cons (pv 2) (pa_cons (pe_callB (call_max2 rfl) (by rfl) B.max (by decide +kernel) (pa_cons pe_int (pa_cons (pe_callB (call_min2 rfl) (by rfl) B.min (by decide +kernel) (pa_cons (pe_callB (c_len K) (by rfl) B.len (by decide +kernel) (pa_cons (pv 2) pa_nil)) (pa_cons (pe_op op_add (pv 4) (pv 6)) pa_nil))) pa_nil))) pa_nil)))) pa_nil)) pa_nil)))
      (pss_cons (ps_setLc (i := 8) (own := [("_law_team", 9)]) (g := gName 9) rfl sc_teams.nd rfl rfl (sw_true rfl rfl rfl (by decide +kernel)) (p_list K (pv 3)) (blkOk_by (own := [("_law_team", 9)]) (N := N_teams) (sc := defScope s_teams) (by decide +kernel)) (fun _ _ _ _ _ => (pg_name (i := 9) sc_teams.nd rfl (Or.inl rfl))) (fun _ _ _ _ _ => (pts_one (PW.pt (pw_or (pt_val (pe_call D__law_is_within.G hr1 rfl D__law_is_within.m D__law_is_within.kp D__law_is_within.b .nil pass0 (pa_cons (pv 9) (pa_cons (pv 7) pa_nil)))) (pw_or1 (pt_val (pe_call D__law_is_within.G hr1 rfl D__law_is_within.m D__law_is_within.kp D__law_is_within.b .nil pass0 (pa_cons (pv 7) (pa_cons (pv 9) pa_nil))))))))) (fun _ _ _ _ _ => (pv 9)))
      (pss_one (ps_if (pt_cmpR (o_eqD K hr.units) (pv 8) (pe_lst pa_nil) (nomark _)) (pss_one (ps_expr (pe_bm PySem.F.plainAttrs_list PySem.F.slot_list_append PySem.F.type_list_append mt_append (pv 3) (pa_cons (pv 7) pa_nil)))) pss_nil))))))
      (pss_one (ps_ret (pe_callTy (c_tuple K) (by rfl) B.tuple (by decide +kernel) (pa_cons (pe_callB (c_srt K hr.units) (by rfl) B.sorted (by decide +kernel) (pa_cons (pv 3) pa_nil)) pa_nil))))))), ?_⟩
    -- folk
    refine sq_set ⟨_, rfl, (by decide : 6 ≤ sizeLine), fun p np => ⟨_, rfl, _, rfl, _, _, rfl, rfl, r, c, m - 2, d, rfl, by omega, by omega, by omega, hR.same (same_upd np), fun z H1 c1 g1 z0 z1 => ?_⟩⟩
    obtain ⟨j, rfl⟩ : ∃ j : Nat, z = (j : Int) := ⟨z.toNat, by omega⟩
    have n1 : H p = none := np
    refine ⟨_, _, rfl, rfl, r, c, p, d + 1, pool, 3 + j, by rw [Int.natCast_add]; rfl, .inl (sl_ (c1.lst upd_same)), by show 3 + j ≤ 6; omega, by decide, g1, by omega, fun l folk H2 nl c2 g2 hl hfl hfm => ?_⟩
    have cA : Ch r H H2 := ((Ch.new np).trans c1).trans c2
    have okf : ∀ n ∈ folk, okS n := fun n hn => pool_ok n (hfm n hn)
    -- found, amount
    refine sq_par ⟨Nat.zero_le _, fun F nF => ⟨(by decide : 5 ≤ sizeLine), fun p2 np2 => ⟨_, rfl, r, c, 5, d + 1 + (3 + j : Nat), rfl, by decide, by decide, by omega, (g2.same (same_upd nF)).same (same_upd np2), fun z3 H3 c3 g3 z30 z31 => ?_⟩⟩⟩
    obtain ⟨j3, rfl⟩ : ∃ j : Nat, z3 = (j : Int) := ⟨z3.toNat, by omega⟩
    have hj3 : j3 < ([2, 2, 2, 1, 3] : List Int).length := by show j3 < 5; omega
    refine ⟨p2, ([2, 2, 2, 1, 3] : List Int).map V.int, _, .int ([2, 2, 2, 1, 3] : List Int)[j3], rfl, rfl, sl_ (c3.lst upd_same), atI_nat (by rw [List.getElem?_map, List.getElem?_eq_getElem hj3]; rfl), _, _, rfl, ?_⟩
    generalize ([2, 2, 2, 1, 3] : List Int)[j3] = am
    have cB : Ch r H H3 := ((cA.trans (Ch.new nF)).trans (Ch.new np2)).trans c3
    have hF3 : H3 F = some (.lst []) := c3.lst (same_upd np2 _ _ upd_same)
    have hl3 : H3 l = some (.lst (folk.map V.str)) := c3.lst (same_upd np2 _ _ (same_upd nF _ _ hl))
    -- for turn
    refine sq_for ?_
    refine ⟨_, rfl, r, c, 6, d + 1 + (3 + j : Nat) + 1, rfl, by decide, by decide, by omega, g3, fun z4 H4 c4 g4 z40 z41 => ⟨_, _, rfl, rfl, 4 + z4, rfl, by omega, by omega, ?_⟩⟩
    have nFH : H F = none := cA.free nF
    have nlH : H l = none := ((Ch.new np).trans c1).free nl
    have hlF : l ≠ F := fun e => by
      rw [e, nF] at hl
      cases hl
    refine for_range (lo := 0) (n := (4 + z4).toNat) (fun i σ' H' => ∃ (v5 v6 v7 v8 : Option V) (us : List V) (ts : List (List Str)), σ' = [some (.ref r), some (.int m), some (.ref l), some (.ref F), some (.int am), v5, v6, v7, v8, none] ∧ Ch r H H' ∧ Rng H' r c (d + 20 + 10 * i) ∧
      H' l = some (.lst (folk.map V.str)) ∧ H' F = some (.lst us) ∧ Paired (S1 K H') us ts ∧ us.length ≤ i ∧ (∀ t ∈ ts, t ≠ [] ∧ t.length ≤ 8 ∧ ∀ n ∈ t, okS n) ∧ (0 < i → ts ≠ []))
      ⟨none, none, none, none, [], [], rfl, cB.trans c4, g4.le (by omega), c4.lst hl3, c4.lst hF3, .nil, Nat.zero_le _, fun _ z => absurd z (by simp), fun z => absurd z (by simp)⟩ (fun i σ' H5 hi z => ?_) fun σ' H5 z => ?_
    · obtain ⟨v5, v6, v7, v8, us, ts, rfl, cC, gC, hlC, hFC, hpC, huC, okC, neC⟩ := z
      have hi9 : i < 10 := by omega
      -- extra
      refine sq_set ⟨1, rfl, (by decide : 5 ≤ sizeLine), fun p5 np5 => ⟨_, rfl, r, c, 5, d + 20 + 10 * i, rfl, by decide, by decide, by omega, gC.same (same_upd np5), fun z6 H6 c6 g6 z60 z61 => ?_⟩⟩
      obtain ⟨j6, rfl⟩ : ∃ j : Nat, z6 = (j : Int) := ⟨z6.toNat, by omega⟩
      have hj6 : j6 < ([0, 0, 0, 1, -1] : List Int).length := by show j6 < 5; omega
      refine ⟨p5, ([0, 0, 0, 1, -1] : List Int).map V.int, _, .int ([0, 0, 0, 1, -1] : List Int)[j6], rfl, rfl, sl_ (c6.lst upd_same), atI_nat (by rw [List.getElem?_map, List.getElem?_eq_getElem hj6]; rfl), ?_⟩
      generalize ([0, 0, 0, 1, -1] : List Int)[j6] = ex
      have cD : Ch r H5 H6 := (Ch.new np5).trans c6
      have hl6 := cD.lst hlC
      have hF6 := cD.lst hFC
      have hlfe : (folk.map V.str).length = folk.length := List.length_map _
      have hfl1 : 1 ≤ (folk.map V.str).length := by omega
      obtain ⟨b, hb, hb1, hb2⟩ := clamp (am + ex) hfl1
      rw [hlfe] at hb2
      -- some
      refine sq_set ⟨_, rfl, _, rfl, _, rfl, l, folk.map V.str, rfl, .inl (sl_ hl6), _, rfl, _, rfl, _, _, rfl, rfl, _, _, rfl, _, _, rfl, r, c, l, d + 20 + 10 * i + 1, folk, b, by rw [hb]; rfl, .inl (sl_ hl6), hb2, by omega, g6, by omega, fun l7 out H7 nl7 c7 g7 hl7 ho7 hm7 => ?_⟩
      unfold tNil
      show rSrt K [.ref l7] _ _
      refine srt_any (.inl (sl_ hl7)) fun p8 np8 => ⟨p8, _, rfl, .inl ⟨sl_ upd_same, fun t nt => ?_⟩⟩
      have s8 : Same H7 (upd (upd H7 p8 (.lst ((srt out).map V.str))) t (.tup ((srt out).map V.str))) := (same_upd np8).trans (same_upd nt)
      have ht8 : S1 K (upd (upd H7 p8 (.lst ((srt out).map V.str))) t (.tup ((srt out).map V.str))) (.ref t) (srt out) := ⟨t, rfl, st_ upd_same⟩
      generalize upd (upd H7 p8 (.lst ((srt out).map V.str))) t (.tup ((srt out).map V.str)) = H8 at s8 ht8
      have cE : Ch r H5 H8 := (cD.trans c7).trans (Ch.of s8)
      have hl8 := cE.lst hlC
      have hF8 := cE.lst hFC
      have g8 : Rng H8 r c (d + 20 + 10 * i + 1 + b) := g7.same s8
      have hp8 : Paired (S1 K H8) us ts := cE.s1s hpC
      have ulen := prd_len hpC
      have sl8 : (srt out).length = b := by rw [srt_len, ho7]
      have okso : ∀ n ∈ srt out, okS n := fun n hn => okf n (hm7 n ((srt_perm out).mem_iff.mp hn))
      have fit : srt out ≠ [] ∧ (srt out).length ≤ 8 ∧ ∀ n ∈ srt out, okS n := ⟨fun e => by rw [e] at sl8; simp at sl8; omega, by omega, okso⟩
      -- rivals
      refine sq_set ?_
      refine lcL_some (F := F) (us := us) (ts := ts) (fun R hR => ⟨_, rfl, hR⟩) hF8 hp8 (by omega) (fun _ => rfl) (fun _ => rfl) (fun x u hu H9 e9 hx R hR => ?_) fun D ws wts H9 nD e9 hD hpw hsub => ?_
      · have fu := okC u hu
        refine ⟨_, rfl, _, rfl, x, .ref t, u, srt out, rfl, hx, ht8.same e9, by omega, fu.2.2, fun b1 H10 e10 => ⟨b1, rfl, ite2 (fun _ => hR true H10 e10) (fun _ => ?_)⟩⟩
        exact ⟨_, rfl, _, rfl, .ref t, x, srt out, u, rfl, (ht8.same e9).same e10, hx.same e10, by omega, okso, fun b2 H11 e11 => ⟨b2, rfl, hR b2 H11 (e10.trans e11)⟩⟩
      · have okw : ∀ t ∈ wts, ∀ n ∈ t, okS n := fun t ht => (okC t (hsub t ht)).2.2
        refine ⟨_, rfl, Nat.zero_le _, fun l9 nl9 => ⟨.list (wts.map sD), .list [], .lst (sl_ (same_upd nl9 _ _ hD)) (s1s_dp (prd_mono (fun _ _ z => z.same (same_upd nl9)) hpw)), .lst (sl_ upd_same) .nil, shaped_teams okw, shaped_nil, _, rfl, ?_⟩⟩
        rw [eqv_list_nil]
        have sN : Same H8 (upd H9 l9 (.lst [])) := e9.trans (same_upd nl9)
        generalize upd H9 l9 (.lst []) = HN at sN
        have cN : Ch r H HN := (cC.trans cE).trans (Ch.of sN)
        have gN : Rng HN r c (d + 20 + 10 * i + 1 + b) := g8.same sN
        have hlN := sN _ _ hl8
        have hFN := sN _ _ hF8
        have hpN : Paired (S1 K HN) us ts := prd_mono (fun _ _ z => z.same sN) hp8
        refine ite2 (fun _ => ?_) (fun hne => ?_)
        · refine ⟨_, rfl, .inl ⟨rfl, _, SqL.of hFN⟩, _, rfl, F, us, _, rfl, rfl, hFN, big (by omega), ?_⟩
          have fF : Fx HN (upd HN F (.lst (us ++ [.ref t]))) := Fx.mut hFN
          refine ⟨some (.int (0 + i)), some (.int ex), some (.ref t), some (.ref D), us ++ [.ref t], ts ++ [srt out], rfl, cN.upd nFH, ?_, ?_, upd_same, prd_app (fF.s1s hpN) (.cons (fF.s1 (ht8.same sN)) .nil), by simp; omega, fun u hu => ?_, fun _ z => by simp at z⟩
          · exact (gN.mut nFH hR).le (by omega)
          · rw [upd_ne hlF]
            exact hlN
          · rcases List.mem_append.mp hu with hu | hu
            · exact okC u hu
            · rw [List.mem_singleton.mp hu]
              exact fit
        · refine ⟨some (.int (0 + i)), some (.int ex), some (.ref t), some (.ref D), us, ts, rfl, cN, gN.le (by omega), hlN, hFN, hpN, by omega, okC, fun _ z => ?_⟩
          subst z
          cases wts with
          | nil => exact hne rfl
          | cons u _ => exact absurd (hsub u List.mem_cons_self) (by simp)
    · obtain ⟨v5, v6, v7, v8, us, ts, rfl, cC, gC, hlC, hFC, hpC, huC, okC, neC⟩ := z
      have ulen := prd_len hpC
      unfold tRet tCB tCons tNil
      refine ⟨_, rfl, ?_⟩
      show rSrt K [.ref F] _ _
      refine srt_teams (sl_ hFC) hpC (fun t ht => (okC t ht).1) fun p8 ys np8 hps => ⟨p8, _, rfl, .inl ⟨sl_ upd_same, fun t nt => ?_⟩⟩
      have s8 := (same_upd (o := .lst ys) np8).trans (same_upd (o := .tup ys) nt)
      refine q (.ref t) (srtT ts) _ (cC.trans (Ch.of s8)) ((gC.same s8).le (by omega)) ⟨t, ys, rfl, st_ upd_same, prd_mono (fun _ _ z => z.same s8) hps⟩ ⟨?_, fun t ht => okC t ((srtT_perm ts).mem_iff.mp ht)⟩ fun e => ?_
      · rw [(srtT_perm ts).length_eq]
        omega
      · have e2 := (srtT_perm ts).length_eq
        rw [e] at e2
        refine neC (by omega) (List.eq_nil_of_length_eq_zero e2.symm)
end
end K49

namespace K49
open PySem PySem.Spec PyProof.Rows L2 PySem.W Cb Evl
theorem sq_asg {te : TE} {g : TG} {rest : TS} {D : Ends} {σ : Stt} {H : Hp} (h : te σ H fun x H1 => g x σ H1 (rest D)) : tSeq (tAsg te g) rest D σ H := h
section
variable {K : Frag} {tl : TE} {j : Nat} {vs : List Nat} {σ : Stt} {H : Hp} {tt : TT} {Q : VK} {β : Type} {F : Hp → V → β → Prop}
/-- the same, the items known when the list is made only -/
theorem lcL_pairX (mono : ∀ H1 H2 v b, Same H1 H2 → F H1 v b → F H2 v b) (Φ : List β → Prop) (p : β → Bool) (hl : ∀ R : VK, (∀ bs a H1 us, Φ bs → Same H H1 → SqL K H1 a us → Paired (F H1) us bs → R (.ref a) H1) → tl σ H R) (hn : ∀ bs, Φ bs → bs.length ≤ 100000)
    (hj : ∀ x, wipe ((wipe σ vs).set j (some x)) vs = wipe σ vs) (hv : ∀ x, ((wipe σ vs).set j (some x))[j]? = some (some x))
    (ht : ∀ x b H1, Same H H1 → F H1 x b → ∀ R : Bool → Hp → Prop, (∀ H2, Same H1 H2 → R (p b) H2) → tt ((wipe σ vs).set j (some x)) H1 R)
    (q : ∀ bs L us H', Φ bs → H L = none → Same H H' → H' L = some (.lst us) → Paired (F H') us (bs.filter p) → Q (.ref L) H') : tLc (iList K tl) (gName j) tt (tVar j) vs σ H Q := by
  refine hl _ fun bs a H1 us hΦ e1 hs hp => ⟨a, rfl, ⟨us, hs⟩, fun L nL => ?_⟩
  have hlen := prd_len hp
  have hn := hn bs hΦ
  refine lc_list (K := K) (a := a) (xs := us) (fun i H' => Same H1 H' ∧ ∃ ws, H' L = some (.lst ws) ∧ Paired (F H1) ws ((bs.take i).filter p)) ⟨same_upd nL, [], upd_same, .nil⟩ (fun i H' _ z => z.1.seq hs) (fun i x H' hi z => ⟨hj x, ?_⟩) fun H' z => ?_
  · obtain ⟨e2, ws, hw, hpw⟩ := z
    obtain ⟨b, hb, hf⟩ := prd_getL hp hi
    have hwl := prd_len hpw
    have hfl := List.length_filter_le p (bs.take i)
    have hbl := (List.getElem?_eq_some_iff.mp hb).1
    rw [List.length_take] at hfl
    refine ht x b H' (e1.trans e2) (mono _ _ _ _ e2 hf) _ fun H2 e3 => ?_
    rw [take_snoc hb, List.filter_append]
    by_cases h : p b = true
    · rw [if_pos h]
      refine ⟨x, hv x, ws, e3 _ _ hw, big (by omega), same_mut (e2.trans e3) nL, ws ++ [x], upd_same, ?_⟩
      rw [List.filter_cons_of_pos h]
      exact prd_app hpw (.cons hf .nil)
    · rw [if_neg h]
      refine ⟨e2.trans e3, ws, e3 _ _ hw, ?_⟩
      rw [List.filter_cons_of_neg h]
      simpa using hpw
  · obtain ⟨e2, ws, hw, hpw⟩ := z
    rw [hlen, List.take_length] at hpw
    exact q bs L ws H' hΦ (e1.free nL) (e1.trans e2) hw (prd_mono (fun _ _ z => mono _ _ _ _ e2 z) hpw)
end
section
variable {K : Frag} {H : Hp}
/-- the crews of the groups so far; n people are left -/
structure Gd (m n : Nat) (ts : List (List Str)) : Prop where
  some : ts ≠ []
  num : ts.length * 2 ^ n ≤ 64
  each : ∀ t ∈ ts, t.length + n ≤ 5 ∧ (∀ x ∈ t, okS x) ∧ (n < m → t ≠ [])
structure GW (K : Frag) (H : Hp) (r c : Addr) (m d : Int) (L : Addr) (n : Nat) (F : Addr) (rest : List Str) (us : List V) (ts : List (List Str)) (H' : Hp) : Prop where
  len : rest.length = n
  ch : Ch r H H'
  rng : Rng H' r c (d + 60 - 10 * n)
  atL : H' L = some (.lst (rest.map V.str))
  atF : H' F = some (.lst us)
  ne : F ≠ L
  ok : ∀ x ∈ rest, okS x
  prd : Paired (S1 K H') us ts
  gd : Gd m.toNat n ts
def GWs (K : Frag) (H : Hp) (r c : Addr) (m d : Int) (L : Addr) (n : Nat) (σ : Stt) (H' : Hp) : Prop := ∃ (v4 v5 v6 v7 v8 : Option V) (F : Addr) (rest : List Str) (us : List V) (ts : List (List Str)), σ = [some (.ref r), some (.int m), some (.ref L), some (.ref F), v4, v5, v6, v7, v8, none, none] ∧ GW K H r c m d L n F rest us ts H'
end
section
variable {P : Program} {w : World} {K : Frag} {mg : Str → Option Value} {base : Heap}
abbrev s_mgood : Stmt := top 15
abbrev N_mgood : List Str := ["_law_rng", "_law_most", "_law_rest", "_law_found", "_law_group", "_law_amount", "_law_some", "_law_longer", "_law_team", "_law_k", "_law_part"]
theorem sc_mgood : FnScope N_mgood ["_law_rng", "_law_most"] (defScope s_mgood) := ⟨rfl, rfl, rfl, by decide +kernel, rfl, by decide +kernel, by decide +kernel⟩
theorem ok_mgood {f : Addr} {fd : FuncData} {k : Nat} (F : Fun K "_law_make_good" "_law_make_good" s_mgood f fd) (B : Blt mg) (D__law_draw : Own P w K mg base 1 "_law_draw" ["_law_rng", "_law_limit"] sp_draw) (D__law_sample : Own P w K mg base 2 "_law_sample" ["_law_rng", "_law_pool", "_law_amount"] (sp_sample K))
    (D__law_all_sets : Own P w K mg base 1 "_law_all_sets" ["_law_names_now"] (sp_sets K)) : FnOk P w K mg base CX0 (k + 3) f fd ["_law_rng", "_law_most"] (sp_made 2 5 K) := by
  refine F.ok sc_mgood (fun vs H Q E h => ?_) (fun cdv A outer s H vs Q E hr h => ?_)
  · obtain ⟨_, _, _, _, rfl, _⟩ := h
    rfl
  · obtain ⟨r, c, m, d, rfl, hm1, hm2, hd, hR, q⟩ := h
    have hr1 : Room 1 _ := hr.mono (by omega)
    have hr2 : Room 2 _ := hr.mono (by omega)
    refine ⟨_, (pss_cons (ps_asg (pe_tup (pa_cons (pe_call D__law_sample.G hr2 rfl D__law_sample.m D__law_sample.kp D__law_sample.b .nil pass0 (pa_cons (pv 0) (pa_cons (pe_lst (pa_cons pe_str (pa_cons pe_str (pa_cons pe_str (pa_cons pe_str (pa_cons pe_str (pa_cons pe_str pa_nil))))))) (pa_cons (pv 1) pa_nil)))) (pa_cons (pe_lst (pa_cons (pe_tup pa_nil) pa_nil)) pa_nil))) (show PG _ _ (gTup K 2 _) from pg_tup rfl (pgs_cons (pg_name (i := 2) sc_mgood.nd rfl (Or.inr rfl)) (pgs_cons (pg_name (i := 3) sc_mgood.nd rfl (Or.inl rfl)) pgs_nil))))
      (pss_cons (ps_while PassesOwn.never (pt_cmpR (o_neD K hr.units) (pv 2) (pe_lst pa_nil) (nomark _))
      (pss_cons (ps_set (i := 4) sc_mgood.nd rfl (Or.inl rfl) (pe_callB (c_srt K hr.units) (by rfl) B.sorted (by decide +kernel) (pa_cons (pe_lc (own := [("_law_k", 9)]) (g := gName 9) (tt := tYes) rfl sc_mgood.nd (pi_range1 rfl B.range (pa_cons (pe_callB (call_min2 rfl) (by rfl) B.min (by decide +kernel) (pa_cons (pe_callB (c_len K) (by rfl) B.len (by decide +kernel) (pa_cons (pv 2) pa_nil)) (pa_cons (pe_op op_add pe_int (pe_call D__law_draw.G hr1 rfl D__law_draw.m D__law_draw.kp D__law_draw.b .nil pass0 (pa_cons (pv 0) (pa_cons pe_int pa_nil)))) pa_nil))) pa_nil)) (blkOk_by (own := [("_law_k", 9)]) (N := N_mgood) (sc := defScope s_mgood) (by decide +kernel)) (fun _ _ _ _ _ => (pg_name (i := 9) sc_mgood.nd rfl (Or.inl rfl))) (fun _ _ _ _ _ => pts_nil) (fun _ _ _ _ _ => (show PE _ _ (tBM0 K "list" rPop _) from pe_bm0 PySem.F.plainAttrs_list PySem.F.slot_list_pop PySem.F.type_list_pop mt_pop (pv 2)))) pa_nil)))
      (pss_cons (ps_set (i := 5) sc_mgood.nd rfl (Or.inr rfl) (pe_op op_add pe_int (pe_call D__law_draw.G hr1 rfl D__law_draw.m D__law_draw.kp D__law_draw.b .nil pass0 (pa_cons (pv 0) (pa_cons (pe_callB (c_len K) (by rfl) B.len (by decide +kernel) (pa_cons (pv 4) pa_nil)) pa_nil)))))
      (pss_cons (ps_setLc (i := 6) (own := [("_law_part", 10)]) (g := gName 10) rfl sc_mgood.nd rfl rfl (sw_true rfl rfl rfl (by decide +kernel)) (p_list K (pe_call D__law_all_sets.G hr1 rfl D__law_all_sets.m D__law_all_sets.kp D__law_all_sets.b .nil pass0 (pa_cons (pv 4) pa_nil))) (blkOk_by (own := [("_law_part", 10)]) (N := N_mgood) (sc := defScope s_mgood) (by decide +kernel)) (fun _ _ _ _ _ => (pg_name (i := 10) sc_mgood.nd rfl (Or.inl rfl))) (fun _ _ _ _ _ => (pts_one (pt_cmpR op_eq (pe_callB (c_len K) (by rfl) B.len (by decide +kernel) (pa_cons (pv 10) pa_nil)) (pv 5) (nomark _)))) (fun _ _ _ _ _ => (pv 10)))
      (pss_cons (ps_set (i := 7) sc_mgood.nd rfl (Or.inl rfl) (pe_lst pa_nil))
      (pss_cons (ps_for PassesOwn.never rfl (p_list K (pv 3)) (pg_name (i := 8) sc_mgood.nd rfl (Or.inr rfl))
      (pss_one (ps_expr (pe_bm PySem.F.plainAttrs_list PySem.F.slot_list_extend PySem.F.type_list_extend mt_extend (pv 7) (pa_cons (pe_lc (own := [("_law_part", 10)]) (g := gName 10) (tt := tYes) rfl sc_mgood.nd (p_list K (pv 6)) (blkOk_by (own := [("_law_part", 10)]) (N := N_mgood) (sc := defScope s_mgood) (by decide +kernel)) (fun _ _ _ _ _ => (pg_name (i := 10) sc_mgood.nd rfl (Or.inl rfl))) (fun _ _ _ _ _ => pts_nil) (fun _ _ _ _ _ => (pe_callTy (c_tuple K) (by rfl) B.tuple (by decide +kernel) (pa_cons (pe_callB (c_srt K hr.units) (by rfl) B.sorted (by decide +kernel) (pa_cons (pe_op (o_catA K) (pv 8) (pv 10)) pa_nil)) pa_nil)))) pa_nil)))))
      (pss_one (ps_set (i := 3) sc_mgood.nd rfl (Or.inl rfl) (pv 7)))))))))
      (pss_one (ps_ret (pe_callTy (c_tuple K) (by rfl) B.tuple (by decide +kernel) (pa_cons (pe_callB (c_srt K hr.units) (by rfl) B.sorted (by decide +kernel) (pa_cons (pv 3) pa_nil)) pa_nil)))))), ?_⟩
    obtain ⟨mn, rfl⟩ : ∃ n : Nat, m = (n : Int) := ⟨m.toNat, by omega⟩
    -- rest, found
    refine sq_asg ⟨_, rfl, (by decide : 6 ≤ sizeLine), fun p np => ⟨_, rfl, r, c, p, d, pool, mn, rfl, .inl (sl_ upd_same), by show mn ≤ 6; omega, by decide, hR.same (same_upd np), by omega, fun L rest H1 nL c1 g1 hL hlen hmem => ⟨Nat.zero_le _, fun e0 ne0 => ⟨(by decide : 1 ≤ sizeLine), fun F0 nF0 => ⟨(by decide : 2 ≤ sizeLine), fun tp ntp => ⟨tp, _, rfl, st_ upd_same, rfl, _, _, rfl, _, _, rfl, rfl, ?_⟩⟩⟩⟩⟩⟩
    have nLH : H L = none := Classical.byContradiction fun z => by
      cases hq : H L with
      | none => exact z hq
      | some o => exact absurd ((same_upd np _ _ hq).symm.trans nL) (by simp)
    have se : Same H1 (upd (upd (upd H1 e0 (.tup [])) F0 (.lst [.ref e0])) tp (.tup [.ref L, .ref F0])) := ((same_upd ne0).trans (same_upd nF0)).trans (same_upd ntp)
    have hF0 : (upd (upd (upd H1 e0 (.tup [])) F0 (.lst [.ref e0])) tp (.tup [.ref L, .ref F0])) F0 = some (.lst [.ref e0]) := same_upd ntp _ _ upd_same
    have he0 : S1 K (upd (upd (upd H1 e0 (.tup [])) F0 (.lst [.ref e0])) tp (.tup [.ref L, .ref F0])) (.ref e0) [] := ⟨e0, rfl, st_ (same_upd ntp _ _ (same_upd nF0 _ _ upd_same))⟩
    have nF0L : F0 ≠ L := fun e => by
      rw [e, same_upd ne0 _ _ hL] at nF0
      cases nF0
    generalize upd (upd (upd H1 e0 (.tup [])) F0 (.lst [.ref e0])) tp (.tup [.ref L, .ref F0]) = H2 at se hF0 he0
    have c2 : Ch r H H2 := ((Ch.new np).trans c1).trans (Ch.of se)
    refine sq_while ?_
    refine ⟨GWs K H r c mn d L, ⟨mn, none, none, none, none, none, F0, rest, [.ref e0], [[]], rfl, ⟨hlen, c2, (g1.same se).le (by omega), se _ _ hL, hF0, nF0L, fun x hx => pool_ok x (hmem x hx), .cons he0 .nil, ⟨by simp, ?_, fun t ht => ?_⟩⟩⟩, ?_⟩
    · have : 2 ^ mn ≤ 2 ^ 5 := Nat.pow_le_pow_right (by decide) (by omega)
      show 1 * 2 ^ mn ≤ 64
      omega
    · rw [List.mem_singleton.mp ht]
      exact ⟨by simp; omega, fun x z => absurd z (by simp), fun z => absurd z (by simp)⟩
    rintro n σ1 H3 ⟨v4, v5, v6, v7, v8, F, rest, us, ts, rfl, G⟩
    refine ⟨_, rfl, Nat.zero_le _, fun l0 nl0 => ⟨.list (rest.map .str), .list [], .lst (sl_ (same_upd nl0 _ _ G.atL)) (dpStrs _), .lst (sl_ upd_same) .nil, shaped_strs G.ok, shaped_nil, _, rfl, ?_⟩⟩
    rw [eqv_strs_nil]
    have s0 : Same H3 (upd H3 l0 (.lst [])) := same_upd nl0
    generalize upd H3 l0 (.lst []) = H4 at s0
    have G4 : GW K H r c mn d L n F rest us ts H4 := ⟨G.len, G.ch.trans (Ch.of s0), G.rng.same s0, s0 _ _ G.atL, s0 _ _ G.atF, G.ne, G.ok, prd_mono (fun _ _ z => z.same s0) G.prd, G.gd⟩
    clear G s0 nl0
    refine ite2 (fun hne => ?_) (fun hee => ?_)
    · refine ⟨fun σ' H' => ∃ m', m' < n ∧ GWs K H r c mn d L m' σ' H', fun _ _ z => z, ?_⟩
      have hn1 : 1 ≤ n := by
        rw [← G4.len]
        cases rest with
        | nil => exact absurd hne (by simp)
        | cons _ _ => simp
      obtain ⟨t0, ht0⟩ := List.exists_mem_of_ne_nil _ G4.gd.some
      have hn5 := (G4.gd.each t0 ht0).1
      have hlen : (rest.map V.str).length = n := by rw [List.length_map, G4.len]
      -- group
      refine sq_set ⟨_, rfl, L, _, rfl, .inl (sl_ G4.atL), _, rfl, r, c, 3, d + 60 - 10 * n, rfl, by decide, by decide, by omega, G4.rng, fun z H5 c5 g5 z0 z1 => ?_⟩
      obtain ⟨j, rfl⟩ : ∃ j : Nat, z = (j : Int) := ⟨z.toNat, by omega⟩
      obtain ⟨g, hg, hg1, hg2, hg3⟩ : ∃ g : Nat, (if 1 + (j : Int) < ((rest.map V.str).length : Int) then 1 + (j : Int) else ((rest.map V.str).length : Int)) = (g : Int) ∧ 1 ≤ g ∧ g ≤ n ∧ g ≤ 3 := by
        rw [hlen]
        refine ⟨min (1 + j) n, ?_, by omega, by omega, by omega⟩
        split <;> omega
      refine ⟨_, _, rfl, rfl, _, _, rfl, (g : Int), by rw [hg], by omega, by omega, fun D nD => ?_⟩
      have cc5 := G4.ch.trans c5
      have hL5 := c5.lst G4.atL
      have hF5 := c5.lst G4.atF
      have p5 := c5.s1s G4.prd
      have nDH : H D = none := cc5.free nD
      have nDL : D ≠ L := fun e => by
        rw [e, hL5] at nD
        cases nD
      have nDF : D ≠ F := fun e => by
        rw [e, hF5] at nD
        cases nD
      refine lc_range (lo := 0) (n := (g : Int).toNat) (fun i H' => Ch r H H' ∧ Rng H' r c (d + 60 - 10 * n + 1) ∧ ∃ rest' out : List Str, H' L = some (.lst (rest'.map V.str)) ∧ H' F = some (.lst us) ∧ H' D = some (.lst (out.map V.str)) ∧ Paired (S1 K H') us ts ∧ rest'.length + i = n ∧ out.length = i ∧ (∀ s ∈ rest', s ∈ rest) ∧ ∀ s ∈ out, s ∈ rest) ?_ ?_ ?_
      · exact ⟨cc5.upd nDH, g5.mut nDH hR, rest, [], by rw [upd_ne nDL.symm]; exact hL5, by rw [upd_ne nDF.symm]; exact hF5, upd_same, (Fx.of (same_upd nD)).s1s p5, by rw [G4.len]; rfl, rfl, fun _ z => z, fun _ z => absurd z (by simp)⟩
      · rintro i H6 hi ⟨cc, gg, rest', out, h1, h2, h3, h4, l1, l2, m1, m2⟩
        refine ⟨rfl, ?_⟩
        unfold tYes
        refine iteT ?_
        have hpos : rest'.length - 1 < rest'.length := by omega
        refine ⟨_, rfl, .inl ⟨rfl, _, SqL.of h1⟩, L, _, .str rest'[rest'.length - 1], rfl, rfl, h1, ?_, out.map V.str, ?_, ?_, ?_⟩
        · rw [List.length_map, List.getElem?_map, List.getElem?_eq_getElem hpos]
          rfl
        · rw [upd_ne nDL]
          exact h3
        · rw [List.length_map]
          exact big (by omega)
        · have hd1 : (rest'.map V.str).dropLast = rest'.dropLast.map V.str := by simp
          have f1 : Fx H6 (upd H6 L (.lst (rest'.map V.str).dropLast)) := Fx.mut h1
          have f2 : Fx (upd H6 L (.lst (rest'.map V.str).dropLast)) (upd (upd H6 L (.lst (rest'.map V.str).dropLast)) D (.lst (out.map V.str ++ [.str rest'[rest'.length - 1]]))) := Fx.mut (xs := out.map V.str) (by rw [upd_ne nDL]; exact h3)
          refine ⟨(cc.upd nLH).upd nDH, (gg.mut nLH hR).mut nDH hR, rest'.dropLast, out ++ [rest'[rest'.length - 1]], ?_, ?_, ?_, (f1.trans f2).s1s h4, ?_, ?_, fun s hs => m1 s (List.dropLast_subset _ hs), fun s hs => ?_⟩
          · rw [upd_ne nDL.symm, upd_same, hd1]
          · rw [upd_ne nDF.symm, upd_ne G4.ne]
            exact h2
          · rw [upd_same, List.map_append]
            rfl
          · rw [List.length_dropLast]
            omega
          · rw [List.length_append]
            simp
            omega
          · rcases List.mem_append.mp hs with hs | hs
            · exact m2 s hs
            · rw [List.mem_singleton.mp hs]
              exact m1 _ (List.getElem_mem hpos)
      · rintro H6 ⟨cc, gg, rest', out, h1, h2, h3, h4, l1, l2, m1, m2⟩
        have hgg : (g : Int).toNat = g := by omega
        rw [hgg] at l1 l2
        unfold tNil
        show rSrt K [.ref D] _ _
        refine srt_strs (sl_ h3) fun p7 np7 => ?_
        have s7 : Same H6 (upd H6 p7 (.lst ((srt out).map V.str))) := same_upd np7
        have h7 : (upd H6 p7 (.lst ((srt out).map V.str))) p7 = some (.lst ((srt out).map V.str)) := upd_same
        generalize upd H6 p7 (.lst ((srt out).map V.str)) = H7 at s7 h7
        have glen : (srt out).length = g := by rw [srt_len, l2]
        have glen2 : ((srt out).map V.str).length = g := by rw [List.length_map, glen]
        have okg : ∀ x ∈ srt out, okS x := fun x hx => G4.ok x (m2 x ((srt_perm out).mem_iff.mp hx))
        -- amount
        refine sq_set ⟨_, rfl, _, rfl, p7, _, rfl, .inl (sl_ h7), r, c, _, d + 60 - 10 * n + 1, rfl, by omega, by omega, by omega, gg.same s7, fun z8 H8 c8 g8 z80 z81 => ⟨_, _, rfl, rfl, ?_⟩⟩
        rw [glen2] at z81
        obtain ⟨j8, rfl⟩ : ∃ j : Nat, z8 = (j : Int) := ⟨z8.toNat, by omega⟩
        -- some
        have h2g : 2 ^ g ≤ 2 ^ 3 := Nat.pow_le_pow_right (by decide) hg3
        refine sq_set ?_
        refine lcL_pairX (F := S1 K) (fun _ _ _ _ e z => z.same e) (fun sets => Sets g (srt out) sets) (fun t => decide (t.length = 1 + j8)) (fun R hR => ⟨_, rfl, p7, srt out, rfl, sl_ (c8.lst h7), by omega, fun S0 ps sets H9 e9 hS0 hps hsets => hR sets S0 H9 ps (by rw [glen] at hsets; exact hsets) e9 (sl_ hS0) hps⟩) (fun bs h => by rw [h.num]; omega) (fun _ => rfl) (fun _ => rfl) (fun x t H10 e10 hx R hR => ?_) fun sets S us6 H10 hsets nS e10 hS hp6 => ?_
        · obtain ⟨ax, rfl, hx⟩ := hx
          refine ⟨_, rfl, ax, _, rfl, .inr hx, _, rfl, rfl, _, rfl, ?_⟩
          have e2 : decide (V.int ((t.map V.str).length : Int) = V.int (1 + (j8 : Int))) = decide (t.length = 1 + j8) := by
            rw [List.length_map]
            by_cases h : t.length = 1 + j8
            · rw [decide_eq_true h, h, Int.natCast_add]
              simp
            · rw [decide_eq_false h]
              refine decide_eq_false fun e => ?_
              injection e with e
              omega
          rw [e2]
          exact hR _ (Same.refl _)
        · generalize hparts : sets.filter (fun t => decide (t.length = 1 + j8)) = parts at hp6
          have okp : ∀ t ∈ parts, t.length = 1 + j8 ∧ ∀ x ∈ t, okS x := fun t ht => by
            rw [← hparts] at ht
            obtain ⟨h1, h2⟩ := List.mem_filter.mp ht
            exact ⟨of_decide_eq_true h2, fun x hx => okg x ((hsets.each t h1).2 x hx)⟩
          have pne : 0 < parts.length := by
            obtain ⟨t, ht, e⟩ := hsets.any (1 + j8) (by omega)
            have : t ∈ parts := by
              rw [← hparts]
              exact List.mem_filter.mpr ⟨ht, decide_eq_true e⟩
            exact List.length_pos_of_mem this
          have pnum : parts.length ≤ 2 ^ g := by
            rw [← hparts, ← hsets.num]
            exact List.length_filter_le _ _
          have s6 : Ch r H6 H10 := ((Ch.of s7).trans c8).trans (Ch.of e10)
          have cc10 := cc.trans s6
          have L10 := s6.lst h1
          have F10 := s6.lst h2
          have P10 := s6.s1s h4
          have g10 : Rng H10 r c (d + 60 - 10 * n + 1 + 1) := g8.same e10
          have p6l := prd_len hp6
          have pul := prd_len h4
          -- longer = []
          refine sq_lst fun l nl => ?_
          have sl := same_upd (o := .lst []) nl
          have nlH : H l = none := cc10.free nl
          have nlL : l ≠ L := fun e => by
            rw [e, L10] at nl
            cases nl
          have nlF : l ≠ F := fun e => by
            rw [e, F10] at nl
            cases nl
          have nlS : l ≠ S := fun e => by
            rw [e, hS] at nl
            cases nl
          have tnum := G4.gd.num
          have t64 : ts.length ≤ 64 := Nat.le_trans (Nat.le_mul_of_pos_right _ (Nat.two_pow_pos n)) tnum
          refine sq_for ?_
          refine ⟨_, rfl, F, rfl, ⟨us, sl_ (sl _ _ F10)⟩, for_list (xs := us) (fun i σ' H' => ∃ (v8 : Option V) (ws : List V) (wts : List (List Str)), σ' = [some (.ref r), some (.int mn), some (.ref L), some (.ref F), some (.ref p7), some (.int (1 + (j8 : Int))), some (.ref S), some (.ref l), v8, none, none] ∧
            Ch r H H' ∧ Rng H' r c (d + 60 - 10 * n + 1 + 1) ∧ H' L = some (.lst (rest'.map V.str)) ∧ H' F = some (.lst us) ∧ H' S = some (.lst us6) ∧ Paired (S1 K H') us ts ∧ Paired (S1 K H') us6 parts ∧ H' l = some (.lst ws) ∧ Paired (S1 K H') ws wts ∧ wts.length = i * parts.length ∧
            ∀ t ∈ wts, t.length + (n - g) ≤ 5 ∧ (∀ x ∈ t, okS x) ∧ t ≠ [])
            ⟨v8, [], [], rfl, cc10.upd nlH, g10.mut nlH hR, sl _ _ L10, sl _ _ F10, sl _ _ hS, (Fx.of sl).s1s P10, (Fx.of sl).s1s hp6, upd_same, .nil, by simp, fun _ z => absurd z (by simp)⟩ (fun i σ' H' _ z => ?_) (fun i x σ' H' hi z => ?_) fun σ' H' z => ?_⟩
          · obtain ⟨v8, ws, wts, rfl, z⟩ := z
            exact sl_ z.2.2.2.1
          · obtain ⟨v8, ws, wts, rfl, k1, k2, k3, k4, k5, k6, k7, k8, k9, k10, k11⟩ := z
            obtain ⟨t, ht, hx⟩ := prd_getL k6 hi
            have htm := List.mem_of_getElem? ht
            have hte := G4.gd.each t htm
            have hil := (List.getElem?_eq_some_iff.mp hi).1
            have wl := prd_len k9
            have ip : i * parts.length ≤ 64 * 8 := Nat.mul_le_mul (by omega) (by omega)
            refine ⟨_, rfl, .inl ⟨rfl, _, SqL.of k8⟩, ?_⟩
            refine lcL_rel (K := K) (tl := tVar 6) (j := 10) (vs := [10]) (te := tCB (rTupleOf K) (tCons (tCB (rSrt K) (tCons (tOp (rCatA K) (tVar 8) (tVar 10)) tNil)) tNil)) (xs := us6) (F := fun H v b => S1 K H v b) (fun _ _ _ _ e z => e.s1 z) (parts.map fun u => srt (t ++ u)) (fun R hR => ⟨_, rfl, hR S _ (Same.refl _) (sl_ k5)⟩) (by omega) (by rw [List.length_map]; exact p6l) (fun _ => rfl) (fun a y b hy hb H11 e11 R hR => ?_) fun D3 ws3 H11 nD3 e11 hD3 hp3 => ?_
            · rw [List.getElem?_map] at hb
              obtain ⟨u, hu, rfl⟩ := Option.map_eq_some_iff.mp hb
              obtain ⟨u', hu', hy'⟩ := prd_getL k7 hy
              rw [hu] at hu'
              cases hu'
              have hup := okp u (List.mem_of_getElem? hu)
              obtain ⟨ax, rfl, hx2⟩ := hx.same e11
              obtain ⟨ay, rfl, hy2⟩ := hy'.same e11
              refine ⟨_, rfl, _, rfl, cat_names (xs := t) (ys := u) hx2 hy2 (by omega) fun z H12 e12 hz => ?_⟩
              unfold tNil
              show rSrt K [.ref z] _ _
              refine srt_any (.inr hz) fun p13 np13 => ⟨p13, _, rfl, .inl ⟨sl_ upd_same, fun t14 nt14 => ?_⟩⟩
              exact hR _ _ ((e12.trans (same_upd np13)).trans (same_upd nt14)) ⟨t14, rfl, st_ upd_same⟩
            · have w3 := prd_len hp3
              rw [List.length_map] at w3
              refine ⟨l, D3, ws, ws3, rfl, rfl, e11 _ _ k8, hD3, Nat.le_of_lt (big (by omega)), ?_⟩
              have f3 : Fx H' (upd H11 l (.lst (ws ++ ws3))) := (Fx.of e11).trans (Fx.mut (e11 _ _ k8))
              have f4 : Fx H11 (upd H11 l (.lst (ws ++ ws3))) := Fx.mut (e11 _ _ k8)
              refine ⟨some x, ws ++ ws3, wts ++ parts.map fun u => srt (t ++ u), rfl, (k1.trans (Ch.of e11)).upd nlH, (k2.same e11).mut nlH hR, by rw [upd_ne nlL.symm]; exact e11 _ _ k3, by rw [upd_ne nlF.symm]; exact e11 _ _ k4, by rw [upd_ne nlS.symm]; exact e11 _ _ k5, f3.s1s k6, f3.s1s k7, upd_same, prd_app (f3.s1s k9) (f4.s1s hp3), ?_, fun u hu => ?_⟩
              · rw [List.length_append, List.length_map, k10, Nat.succ_mul]
              · rcases List.mem_append.mp hu with hu | hu
                · exact k11 u hu
                · obtain ⟨u, hu2, rfl⟩ := List.mem_map.mp hu
                  have hup := okp u hu2
                  refine ⟨?_, fun x hx => ?_, fun e => ?_⟩
                  · rw [srt_len, List.length_append]
                    omega
                  · rcases List.mem_append.mp ((srt_perm _).mem_iff.mp hx) with hx | hx
                    · exact hte.2.1 x hx
                    · exact hup.2 x hx
                  · have e2 : t.length + u.length = 0 := by
                      rw [← List.length_append, ← srt_len, e]
                      rfl
                    have := hup.1
                    omega
          · obtain ⟨v8, ws, wts, rfl, k1, k2, k3, k4, k5, k6, k7, k8, k9, k10, k11⟩ := z
            rw [pul] at k10
            refine ⟨_, rfl, n - g, by omega, _, _, _, _, _, l, rest', ws, wts, rfl, ⟨by omega, k1, k2.le (by omega), k3, k8, nlL, fun x hx => G4.ok x (m1 x hx), k9, ⟨fun e => ?_, ?_, fun t ht => ⟨(k11 t ht).1, (k11 t ht).2.1, fun _ => (k11 t ht).2.2⟩⟩⟩⟩
            · rw [e] at k10
              have h0 : 0 < ts.length := List.length_pos_of_mem ht0
              have h1 := Nat.mul_pos h0 pne
              simp at k10
              omega
            · have h1 : ts.length * parts.length * 2 ^ (n - g) ≤ ts.length * 2 ^ g * 2 ^ (n - g) := Nat.mul_le_mul_right _ (Nat.mul_le_mul_left _ pnum)
              have h2 : 2 ^ g * 2 ^ (n - g) = 2 ^ n := by
                rw [← Nat.pow_add]
                congr 1
                omega
              rw [Nat.mul_assoc (ts.length) (2 ^ g), h2] at h1
              rw [k10]
              exact Nat.le_trans h1 tnum
    · have hn0 : n = 0 := by
        rw [← G4.len]
        cases rest with
        | nil => rfl
        | cons _ _ => exact absurd rfl hee
      subst hn0
      unfold tRet tCB tCons tNil
      refine ⟨_, rfl, ?_⟩
      show rSrt K [.ref F] _ _
      have ne := G4.gd.each
      refine srt_teams (sl_ G4.atF) G4.prd (fun t ht => (ne t ht).2.2 (by omega)) fun p8 ys np8 hps => ⟨p8, _, rfl, .inl ⟨sl_ upd_same, fun t nt => ?_⟩⟩
      have s8 := (same_upd (o := .lst ys) np8).trans (same_upd (o := .tup ys) nt)
      refine q (.ref t) (srtT ts) _ (G4.ch.trans (Ch.of s8)) ((G4.rng.same s8).le (by omega)) ⟨t, ys, rfl, st_ upd_same, prd_mono (fun _ _ z => z.same s8) hps⟩ ⟨?_, fun t ht => ?_⟩ fun e => ?_
      · rw [(srtT_perm ts).length_eq]
        have := G4.gd.num
        omega
      · have := ne t ((srtT_perm ts).mem_iff.mp ht)
        exact ⟨this.2.2 (by omega), by omega, this.2.1⟩
      · have e2 := (srtT_perm ts).length_eq
        rw [e] at e2
        exact G4.gd.some (List.eq_nil_of_length_eq_zero e2.symm)
end
end K49

/-! Data in the heap, environments of data, steps between them. -/
namespace Dd
open PySem PySem.Spec PyProof.Rows L2 PySem.W Cb
abbrev PD := PyData
structure Zz where
  P : Program
  K : Frag
  w : World
abbrev zof (X : Cx) : Zz := ⟨X.prog, X.K, X.w⟩
/-- an object known as it is -/
def DO (a : Addr) (o : Obj) : HO := .ext fun h => h.get? a = some o
/-- the object is a dict with these keys (ints, texts) and values -/
structure DkO (Z : Zz) (o : Obj) (vs : List (Key × Value)) : Prop where
  ex : o.ExactDict
  len : vs.length ≤ sizeLine
  data : ∃ (es : Array DictEntry) (ep : Nat), o.data = .dict es ep ∧ KeysOf (mixKind Z.P Z.w) es ∧ Pairs (mixKind Z.P Z.w) es.toList vs
  nd : (vs.map (·.1)).Nodup
/-! ### what a value stands for -/
def kD : Key → PD
  | .inl i => .int i
  | .inr s => .str s
/-- a list that may be read: known to its object -/
def LsK (K : Frag) (H : Hp) (a : Addr) (xs : List V) : Prop := Rd H a (.lst xs) ∨ ∃ (its : Array Value) (n : Nat), K.lookup a = some { cls := .type "list", data := .seq its n } ∧ its.size ≤ sizeLine ∧ Vals xs its.toList
theorem LsK.sq {K : Frag} {H : Hp} {a : Addr} {xs : List V} (h : LsK K H a xs) : SqL K H a xs := by
  rcases h with h | ⟨its, n, h, hz, r⟩
  · exact .inl h
  · exact .inr ⟨_, its, n, h, rfl, rfl, rfl, hz, r⟩
theorem LsK.sub {K : Frag} {H H' : Hp} {a : Addr} {xs : List V} (e : Same H H') (h : LsK K H a xs) : LsK K H' a xs := by
  rcases h with (h | ⟨o, h⟩) | h
  · exact .inl (.inl (e _ _ h))
  · exact .inl (.inr ⟨o, e _ _ h⟩)
  · exact .inr h
theorem LsK.obj {X : Cx} {pins : List (Addr × Obj)} {σ : L2.St} {H : Hp} {s : Shared} {a : Addr} {xs : List V} (I : Inv X pins σ H s) (h : LsK X.K H a xs) : xs.length ≤ sizeLine ∧ ∃ (its : List Value) (n : Nat), Vals xs its ∧ s.heap.get? a = some { cls := .type "list", data := .seq its.toArray n } := by
  rcases h with h | ⟨its, n, h, hz, r⟩
  · exact h.ok I.hok
  · refine ⟨?_, its.toList, n, r, by simpa using I.kIn a _ h⟩
    have h1 := r.length
    have h2 : its.toList.length = its.size := Array.length_toList
    omega
mutual
inductive Is (Z : Zz) (H : Hp) : V → PD → Prop
  | non : Is Z H .non .none
  | bl (b : Bool) : Is Z H (.bl b) (.bool b)
  | int (i : Int) : Is Z H (.int i) (.int i)
  | str (x : Str) : Is Z H (.str x) (.str x)
  | lst {a : Addr} {xs : List V} {ds : List PD} : LsK Z.K H a xs → IsAll Z H xs ds → Is Z H (.ref a) (.list ds)
  | tup {a : Addr} {xs : List V} {ds : List PD} : SqT Z.K H a xs → IsAll Z H xs ds → Is Z H (.ref a) (.tuple ds)
  | dct {a : Addr} {o : Obj} {vs : List (Key × Value)} {kvs : List (Key × V)} {es : List (PD × PD)} : H a = some (DO a o) → (a == sysModules) = false → DkO Z o vs → KV kvs vs → IsKv Z H kvs es → Is Z H (.ref a) (.dict es)
inductive IsAll (Z : Zz) (H : Hp) : List V → List PD → Prop
  | nil : IsAll Z H [] []
  | cons {v : V} {vs : List V} {d : PD} {ds : List PD} : Is Z H v d → IsAll Z H vs ds → IsAll Z H (v :: vs) (d :: ds)
inductive IsKv (Z : Zz) (H : Hp) : List (Key × V) → List (PD × PD) → Prop
  | nil : IsKv Z H [] []
  | cons {k : Key} {v : V} {kvs : List (Key × V)} {d : PD} {es : List (PD × PD)} : Is Z H v d → IsKv Z H kvs es → IsKv Z H ((k, v) :: kvs) ((kD k, d) :: es)
end
theorem sqT_sub {K : Frag} {H H' : Hp} {a : Addr} {xs : List V} (e : Same H H') (h : SqT K H a xs) : SqT K H' a xs := sameT e h
theorem sqL_sub {K : Frag} {H H' : Hp} {a : Addr} {xs : List V} (e : Same H H') (h : SqL K H a xs) : SqL K H' a xs := by
  rcases h with (h | ⟨o, h⟩) | h
  · exact .inl (.inl (e _ _ h))
  · exact .inl (.inr ⟨o, e _ _ h⟩)
  · exact .inr h
mutual
theorem Is.sub {Z : Zz} {H H' : Hp} (e : Same H H') : ∀ (d : PD) (v : V), Is Z H v d → Is Z H' v d
  | .none, _, h => by cases h; exact .non
  | .bool _, _, h => by cases h; exact .bl _
  | .int _, _, h => by cases h; exact .int _
  | .str _, _, h => by cases h; exact .str _
  | .list ds, _, h => by
    cases h with
    | lst hs ha => exact .lst (LsK.sub e hs) (IsAll.sub e ds _ ha)
  | .tuple ds, _, h => by
    cases h with
    | tup hs ha => exact .tup (sqT_sub e hs) (IsAll.sub e ds _ ha)
  | .dict es, _, h => by
    cases h with
    | dct hs h1 h2 h3 ha => exact .dct (e _ _ hs) h1 h2 h3 (IsKv.sub e es _ ha)
theorem IsAll.sub {Z : Zz} {H H' : Hp} (e : Same H H') : ∀ (ds : List PD) (vs : List V), IsAll Z H vs ds → IsAll Z H' vs ds
  | [], _, h => by cases h; exact .nil
  | d :: ds, _, h => by
    cases h with
    | cons h1 h2 => exact .cons (Is.sub e d _ h1) (IsAll.sub e ds _ h2)
theorem IsKv.sub {Z : Zz} {H H' : Hp} (e : Same H H') : ∀ (es : List (PD × PD)) (kvs : List (Key × V)), IsKv Z H kvs es → IsKv Z H' kvs es
  | [], _, h => by cases h; exact .nil
  | (d1, d2) :: es, _, h => by
    cases h with
    | cons h1 h2 => exact .cons (Is.sub e d2 _ h1) (IsKv.sub e es _ h2)
end
theorem Is.to {Z : Zz} {H H' : Hp} {v : V} {d : PD} (h : Is Z H v d) (e : Same H H') : Is Z H' v d := Is.sub e d v h
theorem IsAll.to {Z : Zz} {H H' : Hp} {vs : List V} {ds : List PD} (h : IsAll Z H vs ds) (e : Same H H') : IsAll Z H' vs ds := IsAll.sub e ds vs h
theorem IsAll.len {Z : Zz} {H : Hp} : ∀ {vs : List V} {ds : List PD}, IsAll Z H vs ds → vs.length = ds.length
  | _, _, .nil => rfl
  | _, _, .cons _ t => congrArg Nat.succ t.len
theorem IsAll.app {Z : Zz} {H : Hp} : ∀ {vs : List V} {ds : List PD} {us : List V} {es : List PD}, IsAll Z H vs ds → IsAll Z H us es → IsAll Z H (vs ++ us) (ds ++ es)
  | _, _, _, _, .nil, s => s
  | _, _, _, _, .cons r t, s => .cons r (t.app s)
theorem IsAll.get {Z : Zz} {H : Hp} : ∀ {vs : List V} {ds : List PD} {i : Nat} {v : V}, IsAll Z H vs ds → vs[i]? = some v → ∃ d, ds[i]? = some d ∧ Is Z H v d
  | _, _, _, _, .nil, e => by simp at e
  | _, _, 0, _, .cons r _, e => by simp at e; subst e; exact ⟨_, rfl, r⟩
  | _, _, i + 1, v, .cons _ t, e => by
    obtain ⟨d, h1, h2⟩ := IsAll.get (i := i) (v := v) t (by simpa using e)
    exact ⟨d, by simpa using h1, h2⟩
theorem IsAll.getD {Z : Zz} {H : Hp} : ∀ {vs : List V} {ds : List PD} {i : Nat} {d : PD}, IsAll Z H vs ds → ds[i]? = some d → ∃ v, vs[i]? = some v ∧ Is Z H v d
  | _, _, _, _, .nil, e => by simp at e
  | _, _, 0, _, .cons r _, e => by simp at e; subst e; exact ⟨_, rfl, r⟩
  | _, _, i + 1, v, .cons _ t, e => by
    obtain ⟨d, h1, h2⟩ := IsAll.getD (i := i) (d := v) t (by simpa using e)
    exact ⟨d, by simpa using h1, h2⟩
theorem IsAll.set {Z : Zz} {H : Hp} : ∀ {vs : List V} {ds : List PD} {v : V} {d : PD} (i : Nat), IsAll Z H vs ds → Is Z H v d → IsAll Z H (vs.set i v) (ds.set i d)
  | _, _, _, _, _, .nil, _ => .nil
  | _, _, _, _, 0, .cons _ t, h => .cons h t
  | _, _, _, _, i + 1, .cons r t, h => .cons r (t.set i h)
theorem IsAll.take {Z : Zz} {H : Hp} : ∀ {vs : List V} {ds : List PD} (n : Nat), IsAll Z H vs ds → IsAll Z H (vs.take n) (ds.take n)
  | _, _, 0, _ => .nil
  | _, _, _ + 1, .nil => .nil
  | _, _, n + 1, .cons r t => .cons r (t.take n)
theorem IsAll.drop {Z : Zz} {H : Hp} : ∀ {vs : List V} {ds : List PD} (n : Nat), IsAll Z H vs ds → IsAll Z H (vs.drop n) (ds.drop n)
  | _, _, 0, h => h
  | _, _, _ + 1, .nil => .nil
  | _, _, n + 1, .cons r t => t.drop n
theorem IsAll.rev {Z : Zz} {H : Hp} : ∀ {vs : List V} {ds : List PD}, IsAll Z H vs ds → IsAll Z H vs.reverse ds.reverse
  | _, _, .nil => .nil
  | _, _, .cons r t => by rw [List.reverse_cons, List.reverse_cons]; exact t.rev.app (.cons r .nil)
theorem IsAll.erase {Z : Zz} {H : Hp} : ∀ {vs : List V} {ds : List PD} (i : Nat), IsAll Z H vs ds → IsAll Z H (vs.eraseIdx i) (ds.eraseIdx i)
  | _, _, _, .nil => .nil
  | _, _, 0, .cons _ t => t
  | _, _, i + 1, .cons r t => .cons r (t.erase i)
theorem IsAll.dropLast {Z : Zz} {H : Hp} {vs : List V} {ds : List PD} (h : IsAll Z H vs ds) : IsAll Z H vs.dropLast ds.dropLast := by
  rw [List.dropLast_eq_take, List.dropLast_eq_take, h.len]
  exact h.take _
theorem IsAll.pairs {Z : Zz} {H : Hp} : ∀ {vs : List V} {ds : List PD}, IsAll Z H vs ds → ∃ bs : List (V × PD), bs.map (·.1) = vs ∧ bs.map (·.2) = ds ∧ ∀ b ∈ bs, Is Z H b.1 b.2
  | _, _, .nil => ⟨[], rfl, rfl, fun _ z => by simp at z⟩
  | _, _, .cons (v := v) (d := d) r t => by
    obtain ⟨bs, h1, h2, h3⟩ := t.pairs
    refine ⟨(v, d) :: bs, by rw [List.map_cons, h1], by rw [List.map_cons, h2], fun b hb => ?_⟩
    rcases List.mem_cons.mp hb with e | hb
    · rw [e]; exact r
    · exact h3 b hb
theorem isAll_of {Z : Zz} {H : Hp} : ∀ {bs : List (V × PD)}, (∀ b ∈ bs, Is Z H b.1 b.2) → IsAll Z H (bs.map (·.1)) (bs.map (·.2))
  | [], _ => .nil
  | b :: bs, h => .cons (h b List.mem_cons_self) (isAll_of fun c hc => h c (List.mem_cons_of_mem _ hc))
theorem isStrs {Z : Zz} {H : Hp} : ∀ ns : List Str, IsAll Z H (ns.map V.str) (ns.map PyData.str)
  | [] => .nil
  | n :: ns => .cons (.str n) (isStrs ns)
theorem isAll_strs {Z : Zz} {H : Hp} : ∀ {ns : List Str} {vs : List V}, IsAll Z H vs (ns.map PyData.str) → vs = ns.map V.str
  | [], _, h => by cases h; rfl
  | n :: ns, _, h => by
    cases h with
    | cons h1 h2 =>
      cases h1
      rw [isAll_strs h2]
      rfl
theorem isAll_ints {Z : Zz} {H : Hp} : ∀ {ns : List Int} {vs : List V}, IsAll Z H vs (ns.map PyData.int) → vs = ns.map V.int
  | [], _, h => by cases h; rfl
  | n :: ns, _, h => by
    cases h with
    | cons h1 h2 =>
      cases h1
      rw [isAll_ints h2]
      rfl
theorem isAll_bls {Z : Zz} {H : Hp} : ∀ {ns : List Bool} {vs : List V}, IsAll Z H vs (ns.map PyData.bool) → vs = ns.map V.bl
  | [], _, h => by cases h; rfl
  | n :: ns, _, h => by
    cases h with
    | cons h1 h2 =>
      cases h1
      rw [isAll_bls h2]
      rfl
mutual
theorem Is.dp {Z : Zz} {H : Hp} : ∀ (d : PD) (v : V), d.hasDict = false → Is Z H v d → Dp Z.K H v d
  | .none, _, _, h => by cases h; exact .non
  | .bool _, _, _, h => by cases h; exact .bl _
  | .int _, _, _, h => by cases h; exact .int _
  | .str _, _, _, h => by cases h; exact .str _
  | .list ds, _, n, h => by
    cases h with
    | lst hs ha => exact .lst hs.sq (IsAll.dp ds _ (by rw [PyData.hasDict] at n; exact n) ha)
  | .tuple ds, _, n, h => by
    cases h with
    | tup hs ha => exact .tup hs (IsAll.dp ds _ (by rw [PyData.hasDict] at n; exact n) ha)
  | .dict _, _, n, _ => by rw [PyData.hasDict] at n; cases n
theorem IsAll.dp {Z : Zz} {H : Hp} : ∀ (ds : List PD) (vs : List V), PyData.hasDictAll ds = false → IsAll Z H vs ds → DpAll Z.K H vs ds
  | [], _, _, h => by cases h; exact .nil
  | d :: ds, _, n, h => by
    rw [PyData.hasDictAll, Bool.or_eq_false_iff] at n
    cases h with
    | cons h1 h2 => exact .cons (Is.dp d _ n.1 h1) (IsAll.dp ds _ n.2 h2)
end
end Dd

/-! Environments: names that hold data, names that hold an object of their own; what stays, what changes. -/
namespace Dd
open PySem PySem.Spec PyProof.Rows L2 PySem.W Cb
abbrev Stt := L2.St
open Classical in
noncomputable def hide (O : Addr → Prop) (H : Hp) : Hp := fun b => if O b then none else H b
theorem hide_out {O : Addr → Prop} {H : Hp} {b : Addr} (n : ¬ O b) : hide O H b = H b := if_neg n
theorem of_hide {O : Addr → Prop} {H : Hp} {b : Addr} {o : HO} (h : hide O H b = some o) : ¬ O b ∧ H b = some o := by
  unfold hide at h
  split at h
  · cases h
  · rename_i n
    exact ⟨n, h⟩
theorem hide_same {O : Addr → Prop} {H : Hp} : Same (hide O H) H := fun b o h => (of_hide h).2
theorem hide_to {O O' : Addr → Prop} {H H' : Hp} (h : ∀ b o, ¬ O b → H b = some o → ¬ O' b ∧ H' b = some o) : Same (hide O H) (hide O' H') := fun b o e => by
  obtain ⟨n, e⟩ := of_hide e
  obtain ⟨n', e'⟩ := h b o n e
  rw [hide_out n']
  exact e'
theorem hide_less {O O' : Addr → Prop} {H : Hp} (h : ∀ b, O' b → O b) : Same (hide O H) (hide O' H) := hide_to fun b o n e => ⟨fun z => n (h b z), e⟩
/-- an object of one's own -/
inductive MO where
  | lst (ds : List PD)
  | dk (es : List (Key × PD))
  | dn (es : List (NestedKey × PD))
/-- a name: nothing, data, an object (one's own, or handed in; o: one's own; l: locked) -/
inductive Sl where
  | un
  | val (d : PD)
  | mut (o l : Bool) (m : MO)
abbrev Rho := List Sl
/-- the object is a dict whose keys are tuples of any depth -/
structure DnO (Z : Zz) (o : Obj) (xs : List (NestedKey × Addr × Value)) : Prop where
  ex : o.ExactDict
  len : xs.length ≤ sizeLine
  data : ∃ (es : Array DictEntry) (ep : Nat), o.data = .dict es ep ∧ es.toList = xs.map (entryOfKey (nestedKind Z.P Z.w))
  nd : (xs.map (·.1)).Nodup
/-- an entry: the key, its tuple, the value -/
abbrev NE := NestedKey × Addr × V × Value
def neX (y : NE) : NestedKey × Addr × Value := (y.1, y.2.1, y.2.2.2)
def IsK (Z : Zz) (H : Hp) (kvs : List (Key × V)) (es : List (Key × PD)) : Prop := Paired (fun (p : Key × V) (q : Key × PD) => p.1 = q.1 ∧ Is Z H p.2 q.2) kvs es
structure IsE (Z : Zz) (H : Hp) (y : NE) (q : NestedKey × PD) : Prop where
  key : y.1 = q.1
  dp : y.1.depth ≤ 8
  tup : ∃ ks, y.1 = .tup ks
  kd : Is Z H (.ref y.2.1) y.1.data
  rv : RelV y.2.2.1 y.2.2.2
  vd : Is Z H y.2.2.1 q.2
def IsN (Z : Zz) (H : Hp) (ys : List NE) (es : List (NestedKey × PD)) : Prop := Paired (IsE Z H) ys es
/-- the object at a is m, its items read in Hh -/
def ObM (Z : Zz) (Hh H : Hp) (a : Addr) : MO → Prop
  | .lst ds => ∃ xs, H a = some (.lst xs) ∧ IsAll Z Hh xs ds
  | .dk es => ∃ o vs kvs, H a = some (DO a o) ∧ (a == sysModules) = false ∧ DkO Z o vs ∧ KV kvs vs ∧ IsK Z Hh kvs es
  | .dn es => ∃ o ys, H a = some (DO a o) ∧ (a == sysModules) = false ∧ DnO Z o (ys.map neX) ∧ IsN Z Hh ys es
theorem IsK.to {Z : Zz} {H H' : Hp} {kvs : List (Key × V)} {es : List (Key × PD)} (h : IsK Z H kvs es) (e : Same H H') : IsK Z H' kvs es := prd_mono (fun _ _ z => ⟨z.1, z.2.to e⟩) h
theorem IsN.to {Z : Zz} {H H' : Hp} {xs : List NE} {es : List (NestedKey × PD)} (h : IsN Z H xs es) (e : Same H H') : IsN Z H' xs es := prd_mono (fun _ _ z => ⟨z.key, z.dp, z.tup, z.kd.to e, z.rv, z.vd.to e⟩) h
theorem ObM.to {Z : Zz} {Hh Hh' H H' : Hp} {a : Addr} : ∀ {m : MO}, ObM Z Hh H a m → Same Hh Hh' → (∀ o, H a = some o → H' a = some o) → ObM Z Hh' H' a m
  | .lst _, ⟨xs, h, r⟩, e, k => ⟨xs, k _ h, r.to e⟩
  | .dk _, ⟨o, vs, kvs, h, h1, h2, h3, r⟩, e, k => ⟨o, vs, kvs, k _ h, h1, h2, h3, r.to e⟩
  | .dn _, ⟨o, ys, h, h1, h2, r⟩, e, k => ⟨o, ys, k _ h, h1, h2, r.to e⟩
theorem ObM.there {Z : Zz} {Hh H : Hp} {a : Addr} : ∀ {m : MO}, ObM Z Hh H a m → H a ≠ none
  | .lst _, ⟨xs, h, r⟩, z => by rw [h] at z; cases z
  | .dk _, ⟨o, vs, kvs, h, r⟩, z => by rw [h] at z; cases z
  | .dn _, ⟨o, ys, h, r⟩, z => by rw [h] at z; cases z
/-! ### what is hidden, what may be touched -/
def At (σ : Stt) (i : Nat) (a : Addr) : Prop := σ[i]? = some (some (.ref a))
def Hid (O : Addr → Prop) (ρ : Rho) (σ : Stt) (b : Addr) : Prop := O b ∨ ∃ (i : Nat) (o l : Bool) (m : MO), ρ[i]? = some (Sl.mut o l m) ∧ At σ i b
def Tch (ρ : Rho) (σ : Stt) (b : Addr) : Prop := ∃ (i : Nat) (o : Bool) (m : MO), ρ[i]? = some (Sl.mut o false m) ∧ At σ i b
structure Rel (Z : Zz) (O : Addr → Prop) (ρ : Rho) (σ : Stt) (H : Hp) : Prop where
  len : ρ.length = σ.length
  vals : ∀ (i : Nat) (d : PD), ρ[i]? = some (Sl.val d) → ∃ v, σ[i]? = some (some v) ∧ Is Z (hide (Hid O ρ σ) H) v d
  muts : ∀ (i : Nat) (o l : Bool) (m : MO), ρ[i]? = some (Sl.mut o l m) → ∃ a, At σ i a ∧ (O a ↔ o = false) ∧ ObM Z (hide (Hid O ρ σ) H) H a m
  apart : ∀ (i j : Nat) (o o' l l' : Bool) (m m' : MO) (a : Addr), ρ[i]? = some (Sl.mut o l m) → ρ[j]? = some (Sl.mut o' l' m') → At σ i a → At σ j a → i = j
  odom : ∀ a, O a → H a ≠ none
structure Stp (ρ : Rho) (σ : Stt) (H : Hp) (ρ' : Rho) (σ' : Stt) (H' : Hp) : Prop where
  keep : ∀ b o, ¬ Tch ρ σ b → H b = some o → H' b = some o
  dom : ∀ b, H b ≠ none → H' b ≠ none
  own : ∀ (i : Nat) (o l : Bool) (m : MO) (a : Addr), ρ'[i]? = some (Sl.mut o l m) → At σ' i a → (∃ m2, ρ[i]? = some (Sl.mut o l m2) ∧ At σ i a) ∨ (o = true ∧ l = false ∧ H a = none)
  hold : ∀ (i : Nat) (o l : Bool) (m : MO), ρ[i]? = some (Sl.mut o l m) → (o = false ∨ l = true) → σ'[i]? = σ[i]? ∧ ∃ m', ρ'[i]? = some (Sl.mut o l m') ∧ (l = true → m' = m)
theorem At.inj {σ : Stt} {i : Nat} {a b : Addr} (h : At σ i a) (h' : At σ i b) : a = b := by
  unfold At at h h'
  rw [h] at h'
  cases h'
  rfl
section
variable {Z : Zz} {O : Addr → Prop} {ρ ρ1 ρ' : Rho} {σ σ1 σ' : Stt} {H H1 H' : Hp}
theorem Stp.refl : Stp ρ σ H ρ σ H := ⟨fun _ _ _ h => h, fun _ h => h, fun i o l m a h1 h2 => .inl ⟨m, h1, h2⟩, fun i o l m h _ => ⟨rfl, m, h, fun _ => rfl⟩⟩
/-- what is touched behind a step was touched before, or is new -/
theorem Stp.tch (s : Stp ρ σ H ρ' σ' H') {b : Addr} (h : Tch ρ' σ' b) : Tch ρ σ b ∨ H b = none := by
  obtain ⟨i, o, m, h1, h2⟩ := h
  rcases s.own i o false m b h1 h2 with ⟨m2, h3, h4⟩ | ⟨_, _, h3⟩
  · exact .inl ⟨i, o, m2, h3, h4⟩
  · exact .inr h3
theorem Stp.trans (s : Stp ρ σ H ρ1 σ1 H1) (t : Stp ρ1 σ1 H1 ρ' σ' H') : Stp ρ σ H ρ' σ' H' where
  keep := fun b o n e => t.keep b o (fun z => by
    rcases s.tch z with z | z
    · exact n z
    · rw [z] at e; cases e) (s.keep b o n e)
  dom := fun b h => t.dom b (s.dom b h)
  own := fun i o l m a h1 h2 => by
    rcases t.own i o l m a h1 h2 with ⟨m2, h3, h4⟩ | ⟨h3, h4, h5⟩
    · exact s.own i o l m2 a h3 h4
    · exact .inr ⟨h3, h4, Classical.byContradiction fun z => s.dom a z h5⟩
  hold := fun i o l m h hol => by
    obtain ⟨e1, m1, h1, k1⟩ := s.hold i o l m h hol
    obtain ⟨e2, m2, h2, k2⟩ := t.hold i o l m1 h1 hol
    exact ⟨e2.trans e1, m2, h2, fun z => (k2 z).trans (k1 z)⟩
/-- hidden behind a step: hidden before, or new -/
theorem Stp.hid (s : Stp ρ σ H ρ' σ' H') {b : Addr} (h : Hid O ρ' σ' b) : Hid O ρ σ b ∨ H b = none := by
  rcases h with h | ⟨i, o, l, m, h1, h2⟩
  · exact .inl (.inl h)
  · rcases s.own i o l m b h1 h2 with ⟨m2, h3, h4⟩ | ⟨_, _, h3⟩
    · exact .inl (.inr ⟨i, o, l, m2, h3, h4⟩)
    · exact .inr h3
theorem tch_hid {b : Addr} (h : Tch ρ σ b) : Hid O ρ σ b := by
  obtain ⟨i, o, m, h1, h2⟩ := h
  exact .inr ⟨i, o, false, m, h1, h2⟩
/-- what is read stays readable -/
theorem Stp.same (s : Stp ρ σ H ρ' σ' H') : Same (hide (Hid O ρ σ) H) (hide (Hid O ρ' σ') H') := hide_to fun b o n e => by
  refine ⟨fun z => ?_, s.keep b o (fun z => n (tch_hid z)) e⟩
  rcases s.hid z with z | z
  · exact n z
  · rw [z] at e; cases e
/-- .. also with one more address hidden that was not there -/
theorem Stp.sameN (s : Stp ρ σ H ρ' σ' H') {a : Addr} (na : H a = none) : Same (hide (Hid O ρ σ) H) (hide (fun b => Hid O ρ' σ' b ∨ b = a) H') := hide_to fun b o n e => by
  refine ⟨fun z => ?_, s.keep b o (fun z => n (tch_hid z)) e⟩
  rcases z with z | z
  · rcases s.hid z with z | z
    · exact n z
    · rw [z] at e; cases e
  · subst z
    rw [na] at e
    cases e
theorem Stp.is (s : Stp ρ σ H ρ' σ' H') {v : V} {d : PD} (h : Is Z (hide (Hid O ρ σ) H) v d) : Is Z (hide (Hid O ρ' σ') H') v d := h.to s.same
theorem Stp.isAll (s : Stp ρ σ H ρ' σ' H') {v : List V} {d : List PD} (h : IsAll Z (hide (Hid O ρ σ) H) v d) : IsAll Z (hide (Hid O ρ' σ') H') v d := h.to s.same
/-- a new object alone: everything else as it was -/
theorem hid_new {p : Addr} {o : HO} (R : Rel Z O ρ σ H) (np : H p = none) : Same (hide (Hid O ρ σ) H) (hide (Hid O ρ σ) (upd H p o)) := hide_to fun b u n e => ⟨n, by rw [upd_ne (ne_of_none e np)]; exact e⟩
theorem Rel.hidThere (R : Rel Z O ρ σ H) {b : Addr} (h : Hid O ρ σ b) : H b ≠ none := by
  rcases h with h | ⟨i, o, l, m, h1, h2⟩
  · exact R.odom b h
  · obtain ⟨a, h3, _, h4⟩ := R.muts i o l m h1
    rw [h2.inj h3]
    exact h4.there
/-- the heap grows, nothing that was there changes -/
theorem Rel.grow (R : Rel Z O ρ σ H) (k : Same H H') : Rel Z O ρ σ H' := by
  have sm : Same (hide (Hid O ρ σ) H) (hide (Hid O ρ σ) H') := hide_to fun b o n e => ⟨n, k b o e⟩
  refine ⟨R.len, fun i d h => ?_, fun i o l m h => ?_, R.apart, fun a h => ?_⟩
  · obtain ⟨v, h1, h2⟩ := R.vals i d h
    exact ⟨v, h1, h2.to sm⟩
  · obtain ⟨a, h1, h2, h3⟩ := R.muts i o l m h
    exact ⟨a, h1, h2, h3.to sm fun o e => k _ _ e⟩
  · intro z
    have := R.odom a h
    cases e : H a with
    | none => exact this e
    | some o => rw [k a o e] at z; cases z
theorem dom_same (k : Same H H') : ∀ b, H b ≠ none → H' b ≠ none := fun b h z => by
  cases e : H b with
  | none => exact h e
  | some o => rw [k b o e] at z; cases z
theorem Stp.grow (k : Same H H') : Stp ρ σ H ρ σ H' := ⟨fun b o _ e => k b o e, dom_same k, fun i o l m a h1 h2 => .inl ⟨m, h1, h2⟩, fun i o l m h _ => ⟨rfl, m, h, fun _ => rfl⟩⟩
end
end Dd

/-! Expressions by data: judgements and their combinators. -/
namespace Dd
open PySem PySem.Spec PyProof.Rows L2 PySem.W Cb
/-- a result: data, a new object, the object in a slot -/
inductive RV where
  | d (x : PD)
  | m (m : MO)
  | s (i : Nat)
/-- .. looked at -/
inductive BV where
  | d (x : PD)
  | m (m : MO)
abbrev WE := Rho → (RV → Rho → Prop) → Prop
abbrev WT := Rho → (Bool → Rho → Prop) → Prop
abbrev WA := Rho → (List RV → Rho → Prop) → Prop
/-- a step of an expression: no new objects of one's own in the slots -/
structure Est (ρ : Rho) (σ : Stt) (H : Hp) (ρ' : Rho) (H' : Hp) : Prop extends Stp ρ σ H ρ' σ H' where
  nm : ∀ (i : Nat) (o l : Bool) (m : MO), ρ'[i]? = some (Sl.mut o l m) → ∃ m2, ρ[i]? = some (Sl.mut o l m2)
def hidA (O : Addr → Prop) (ρ : Rho) (σ : Stt) (a : Addr) : Addr → Prop := fun b => Hid O ρ σ b ∨ b = a
def RvOk (Z : Zz) (O : Addr → Prop) (ρ' : Rho) (σ : Stt) (H H' : Hp) (v : V) : RV → Prop
  | .d d => Is Z (hide (Hid O ρ' σ) H') v d
  | .m mo => ∃ a, v = .ref a ∧ H a = none ∧ ¬ Hid O ρ' σ a ∧ ObM Z (hide (hidA O ρ' σ a) H') H' a mo
  | .s i => σ[i]? = some (some v)
def RvX (Z : Zz) (O : Addr → Prop) (ρ' : Rho) (σ : Stt) (H' : Hp) (v : V) : RV → Prop
  | .m _ => ∀ a, v = .ref a → Rel Z (fun b => O b ∨ b = a) ρ' σ H'
  | _ => True
def RvF (Z : Zz) (O : Addr → Prop) (ρ' : Rho) (σ : Stt) (H H' : Hp) (v : V) (r : RV) : Prop := RvOk Z O ρ' σ H H' v r ∧ RvX Z O ρ' σ H' v r
def RvsOk (Z : Zz) (O : Addr → Prop) (ρ' : Rho) (σ : Stt) (H H' : Hp) : List V → List RV → Prop
  | [], [] => True
  | v :: vs, r :: rs => RvOk Z O ρ' σ H H' v r ∧ RvsOk Z O ρ' σ H H' vs rs
  | _, _ => False
def res (r : RV) (ρ : Rho) : Option BV := match r with
  | .d x => some (.d x)
  | .m m => some (.m m)
  | .s i => match ρ[i]? with
    | some (.val d) => some (.d d)
    | some (.mut _ _ m) => some (.m m)
    | _ => none
/-- U: what is hidden -/
def BvOk (Z : Zz) (U : Addr → Prop) (H : Hp) (v : V) : BV → Prop
  | .d d => Is Z (hide U H) v d
  | .m mo => ∃ a, v = .ref a ∧ ObM Z (hide (fun b => U b ∨ b = a) H) H a mo
def NvOk (Z : Zz) (U : Addr → Prop) (H H' : Hp) (v : V) : RV → Prop
  | .d d => Is Z (hide U H') v d
  | .m mo => ∃ a, v = .ref a ∧ H a = none ∧ ObM Z (hide (fun b => U b ∨ b = a) H') H' a mo
  | .s _ => False
def BvsOk (Z : Zz) (U : Addr → Prop) (H : Hp) : List V → List BV → Prop
  | [], [] => True
  | v :: vs, r :: rs => BvOk Z U H v r ∧ BvsOk Z U H vs rs
  | _, _ => False
def resAll (ρ : Rho) : List RV → Option (List BV)
  | [] => some []
  | r :: rs => match res r ρ, resAll ρ rs with
    | some b, some bs => some (b :: bs)
    | _, _ => none
section
variable {Z : Zz} {O : Addr → Prop} {ρ ρ1 ρ' : Rho} {σ σ1 σ' : Stt} {H H1 H' : Hp} {v : V}
theorem Est.refl : Est ρ σ H ρ H := ⟨Stp.refl, fun i o l m h => ⟨m, h⟩⟩
theorem Est.trans (s : Est ρ σ H ρ1 H1) (t : Est ρ1 σ H1 ρ' H') : Est ρ σ H ρ' H' := ⟨s.toStp.trans t.toStp, fun i o l m h => by
  obtain ⟨m1, h1⟩ := t.nm i o l m h
  exact s.nm i o l m1 h1⟩
theorem Est.grow (k : Same H H') : Est ρ σ H ρ H' := ⟨Stp.grow k, fun i o l m h => ⟨m, h⟩⟩
/-- a new address is in no slot as an object of one's own -/
theorem Est.newT (s : Est ρ σ H ρ1 H1) (R : Rel Z O ρ σ H) {a : Addr} (na : H a = none) : ¬ Tch ρ1 σ a := fun ⟨i, o, m, h1, h2⟩ => by
  obtain ⟨m2, h3⟩ := s.nm i o false m h1
  exact R.hidThere (.inr ⟨i, o, false, m2, h3, h2⟩) na
theorem Est.newH (s : Est ρ σ H ρ1 H1) (R : Rel Z O ρ σ H) {a : Addr} (na : H a = none) : ¬ Hid O ρ1 σ a := fun z => by
  rcases z with z | ⟨i, o, l, m, h1, h2⟩
  · exact R.odom a z na
  · obtain ⟨m2, h3⟩ := s.nm i o l m h1
    exact R.hidThere (.inr ⟨i, o, l, m2, h3, h2⟩) na
theorem Stp.sameA (s : Stp ρ σ H ρ' σ' H') {a : Addr} (h : H a ≠ none) : Same (hide (hidA O ρ σ a) H) (hide (hidA O ρ' σ' a) H') := hide_to fun b o n e => by
  refine ⟨fun z => ?_, s.keep b o (fun z => n (.inl (tch_hid z))) e⟩
  rcases z with z | z
  · rcases s.hid z with z | z
    · exact n (.inl z)
    · rw [z] at e; cases e
  · exact n (.inr z)
theorem RvOk.step (R : Rel Z O ρ σ H) (s : Est ρ σ H ρ1 H1) (t : Est ρ1 σ H1 ρ' H') : ∀ {r : RV}, RvOk Z O ρ1 σ H H1 v r → RvOk Z O ρ' σ H H' v r
  | .d _, h => t.toStp.is h
  | .m _, ⟨a, e, na, nh, h⟩ => ⟨a, e, na, fun z => (t.toStp.hid z).elim nh h.there, h.to (t.toStp.sameA h.there) fun o q => t.keep a o (s.newT R na) q⟩
  | .s _, h => h
theorem RvsOk.step (R : Rel Z O ρ σ H) (s : Est ρ σ H ρ1 H1) (t : Est ρ1 σ H1 ρ' H') : ∀ {vs : List V} {rs : List RV}, RvsOk Z O ρ1 σ H H1 vs rs → RvsOk Z O ρ' σ H H' vs rs
  | [], [], _ => trivial
  | _ :: _, _ :: _, ⟨h1, h2⟩ => ⟨h1.step R s t, RvsOk.step R s t h2⟩
theorem RvOk.back (k : ∀ b, H b ≠ none → H1 b ≠ none) : ∀ {r : RV}, RvOk Z O ρ' σ H1 H' v r → RvOk Z O ρ' σ H H' v r
  | .d _, h => h
  | .m _, ⟨a, e, na, nh, h⟩ => ⟨a, e, Classical.byContradiction fun z => k a z na, nh, h⟩
  | .s _, h => h
theorem RvsOk.back (k : ∀ b, H b ≠ none → H1 b ≠ none) : ∀ {vs : List V} {rs : List RV}, RvsOk Z O ρ' σ H1 H' vs rs → RvsOk Z O ρ' σ H H' vs rs
  | [], [], _ => trivial
  | _ :: _, _ :: _, ⟨h1, h2⟩ => ⟨h1.back k, RvsOk.back k h2⟩
theorem RvOk.look (R : Rel Z O ρ' σ H') : ∀ {r : RV} {b : BV}, RvOk Z O ρ' σ H H' v r → res r ρ' = some b → BvOk Z (Hid O ρ' σ) H' v b
  | .d _, _, h, e => by cases e; exact h
  | .m _, _, ⟨a, e1, _, _, h⟩, e => by cases e; exact ⟨a, e1, h⟩
  | .s i, b, h, e => by
    have e : (match ρ'[i]? with
      | some (.val d) => some (BV.d d)
      | some (.mut _ _ m) => some (BV.m m)
      | _ => none) = some b := e
    have this : σ[i]? = some (some v) := h
    split at e
    · rename_i d he
      cases e
      obtain ⟨u, h1, h2⟩ := R.vals _ _ he
      rw [h1] at this
      cases this
      exact h2
    · rename_i o l m he
      cases e
      obtain ⟨a, h1, _, h2⟩ := R.muts _ _ _ _ he
      have h1' : σ[i]? = some (some (.ref a)) := h1
      rw [h1'] at this
      cases this
      refine ⟨a, rfl, h2.to (hide_to fun b o n e => ⟨fun z => ?_, e⟩) fun _ e => e⟩
      rcases z with z | z
      · exact n z
      · subst z
        exact n (.inr ⟨i, _, _, _, he, h1⟩)
    · cases e
theorem RvsOk.look (R : Rel Z O ρ' σ H') : ∀ {vs : List V} {rs : List RV} {bs : List BV}, RvsOk Z O ρ' σ H H' vs rs → resAll ρ' rs = some bs → BvsOk Z (Hid O ρ' σ) H' vs bs
  | [], [], _, _, e => by cases e; trivial
  | v :: vs, r :: rs, bs, ⟨h1, h2⟩, e => by
    unfold resAll at e
    split at e
    · rename_i b cs e1 e2
      cases e
      exact ⟨h1.look R e1, RvsOk.look R h2 e2⟩
    · cases e
theorem NvOk.rv (R : Rel Z O ρ σ H) : ∀ {r : RV}, NvOk Z (Hid O ρ σ) H H' v r → RvOk Z O ρ σ H H' v r
  | .d _, h => h
  | .m _, ⟨a, e, na, h⟩ => ⟨a, e, na, fun z => R.hidThere z na, h⟩
  | .s _, h => h.elim
end
section
variable {Z : Zz} {O : Addr → Prop} {ρ : Rho} {σ : Stt} {H H1 H' : Hp} {v : V}
/-- a new object apart: all else is known without it -/
theorem Rel.growX (R : Rel Z O ρ σ H) (k : Same H H') {a : Addr} (na : H a = none) (ha : H' a ≠ none) : Rel Z (fun b => O b ∨ b = a) ρ σ H' := by
  have sm : Same (hide (Hid O ρ σ) H) (hide (Hid (fun b => O b ∨ b = a) ρ σ) H') := hide_to fun b o n e => by
    refine ⟨fun z => ?_, k b o e⟩
    rcases z with (z | z) | z
    · exact n (.inl z)
    · subst z
      rw [na] at e
      cases e
    · exact n (.inr z)
  refine ⟨R.len, fun i d h => ?_, fun i o l m h => ?_, R.apart, fun b h => ?_⟩
  · obtain ⟨v, h1, h2⟩ := R.vals i d h
    exact ⟨v, h1, h2.to sm⟩
  · obtain ⟨b, h1, h2, h3⟩ := R.muts i o l m h
    have nb : b ≠ a := fun z => by
      subst z
      exact h3.there na
    exact ⟨b, h1, ⟨fun z => z.elim h2.mp fun z => (nb z).elim, fun z => .inl (h2.mpr z)⟩, h3.to sm fun o e => k _ _ e⟩
  · rcases h with h | h
    · exact dom_same k b (R.odom b h)
    · rw [h]
      exact ha
theorem nv_x (R : Rel Z O ρ σ H) (k : Same H H') : ∀ {r : RV}, NvOk Z (Hid O ρ σ) H H' v r → RvX Z O ρ σ H' v r
  | .d _, _ => trivial
  | .m _, ⟨a, e, na, h⟩ => fun b e2 => by
    rw [e] at e2
    cases e2
    exact R.growX k na h.there
theorem nv_f (R : Rel Z O ρ σ H) (k : Same H H') {r : RV} (h : NvOk Z (Hid O ρ σ) H H' v r) (b : ∀ a, H1 a ≠ none → H a ≠ none) : RvF Z O ρ σ H1 H' v r := ⟨(h.rv R).back b, nv_x R k h⟩
theorem RvF.back {ρ' : Rho} {r : RV} (h : RvF Z O ρ' σ H H' v r) (b : ∀ a, H1 a ≠ none → H a ≠ none) : RvF Z O ρ' σ H1 H' v r := ⟨h.1.back b, h.2⟩
end
/-! ### the new objects of an argument list -/
def tmpOf : List V → List RV → List Addr
  | .ref a :: vs, .m _ :: rs => a :: tmpOf vs rs
  | _ :: vs, _ :: rs => tmpOf vs rs
  | _, _ => []
def OT (O : Addr → Prop) (l : List Addr) : Addr → Prop := fun b => O b ∨ b ∈ l
theorem OT_nil (O : Addr → Prop) : OT O [] = O := by
  funext b
  unfold OT
  simp
theorem OT_app (O : Addr → Prop) (l l2 : List Addr) : OT (OT O l) l2 = OT O (l ++ l2) := by
  funext b
  unfold OT
  simp only [List.mem_append, or_assoc]
theorem OT_one (O : Addr → Prop) (a : Addr) : OT O [a] = fun b => O b ∨ b = a := by
  funext b
  unfold OT
  simp
def RvC (Z : Zz) (O : Addr → Prop) (ρ' : Rho) (σ : Stt) (H' : Hp) (v : V) : RV → Prop
  | .d d => Is Z (hide (Hid O ρ' σ) H') v d
  | .m mo => ∃ a, v = .ref a ∧ ObM Z (hide (Hid O ρ' σ) H') H' a mo
  | .s i => σ[i]? = some (some v)
def RvsC (Z : Zz) (O : Addr → Prop) (ρ' : Rho) (σ : Stt) (H' : Hp) : List V → List RV → Prop
  | [], [] => True
  | v :: vs, r :: rs => RvC Z O ρ' σ H' v r ∧ RvsC Z O ρ' σ H' vs rs
  | _, _ => False
structure RvsF (Z : Zz) (O : Addr → Prop) (ρ' : Rho) (σ : Stt) (H H' : Hp) (vs : List V) (rs : List RV) : Prop where
  rel : Rel Z (OT O (tmpOf vs rs)) ρ' σ H'
  each : RvsC Z (OT O (tmpOf vs rs)) ρ' σ H' vs rs
  nd : (tmpOf vs rs).Nodup
  new : ∀ a ∈ tmpOf vs rs, H a = none
section
variable {Z : Zz} {O : Addr → Prop} {ρ ρ1 ρ' : Rho} {σ : Stt} {H H1 H' : Hp} {v : V}
theorem Rel.drop {l : List Addr} (R : Rel Z (OT O l) ρ σ H) (n : ∀ a ∈ l, ¬ Hid O ρ σ a) : Rel Z O ρ σ H := by
  have sm : Same (hide (Hid (OT O l) ρ σ) H) (hide (Hid O ρ σ) H) := hide_less fun b z => z.imp (fun z => .inl z) id
  refine ⟨R.len, fun i d h => ?_, fun i o l m h => ?_, R.apart, fun b h => R.odom b (.inl h)⟩
  · obtain ⟨v, h1, h2⟩ := R.vals i d h
    exact ⟨v, h1, h2.to sm⟩
  · obtain ⟨b, h1, h2, h3⟩ := R.muts i o l m h
    exact ⟨b, h1, ⟨fun z => h2.mp (.inl z), fun z => (h2.mpr z).elim id fun z => (n b z (.inr ⟨i, o, l, m, h, h1⟩)).elim⟩, h3.to sm fun _ e => e⟩
theorem tmp_one {r : RV} (h : RvF Z O ρ' σ H H' v r) (R : Rel Z O ρ' σ H') : Rel Z (OT O (tmpOf [v] [r])) ρ' σ H' ∧ (∀ a ∈ tmpOf [v] [r], H a = none ∧ H' a ≠ none) := by
  match r, h with
  | .d d, h =>
    have e : tmpOf [v] [RV.d d] = [] := by cases v <;> rfl
    rw [e, OT_nil]
    exact ⟨R, fun a z => by cases z⟩
  | .s i, h =>
    have e : tmpOf [v] [RV.s i] = [] := by cases v <;> rfl
    rw [e, OT_nil]
    exact ⟨R, fun a z => by cases z⟩
  | .m mo, ⟨⟨a, e, na, nh, ob⟩, x⟩ =>
    subst e
    show Rel Z (OT O [a]) ρ' σ H' ∧ _
    rw [OT_one]
    refine ⟨x a rfl, fun b hb => ?_⟩
    have e : b = a := by simpa [tmpOf] using hb
    subst e
    exact ⟨na, ob.there⟩
theorem tmp_cons (v : V) (r : RV) (vs : List V) (rs : List RV) : tmpOf (v :: vs) (r :: rs) = tmpOf [v] [r] ++ tmpOf vs rs := by
  cases v <;> cases r <;> rfl
theorem rvsF_cons {r : RV} {vs : List V} {rs : List RV} (R : Rel Z O ρ σ H) (s : Est ρ σ H ρ1 H1) (h : RvF Z O ρ1 σ H H1 v r) (t : Est ρ1 σ H1 ρ' H') (hs : RvsF Z (OT O (tmpOf [v] [r])) ρ' σ H1 H' vs rs) (R1 : Rel Z O ρ1 σ H1) : RvsF Z O ρ' σ H H' (v :: vs) (r :: rs) := by
  obtain ⟨_, n1⟩ := tmp_one h R1
  obtain ⟨g1, g2, g3, g4⟩ := hs
  rw [OT_app, ← tmp_cons] at g1 g2
  refine ⟨g1, ⟨?_, g2⟩, ?_, fun a ha => ?_⟩
  · have out : ∀ b o, H1 b = some o → b ∉ tmpOf vs rs := fun b o e z => by
      rw [g4 b z] at e
      cases e
    match r, h, n1 with
    | .d d, h, _ =>
      refine Is.to h.1 (hide_to fun b o n e => ⟨fun z => ?_, t.keep b o (fun z => n (tch_hid z)) e⟩)
      have e0 : tmpOf (v :: vs) (RV.d d :: rs) = tmpOf vs rs := by cases v <;> rfl
      rw [e0] at z
      rcases z with (z | z) | z
      · exact n (.inl z)
      · exact out b o e z
      · rcases t.toStp.hid (O := O) (.inr z) with z | z
        · exact n z
        · rw [z] at e; cases e
    | .s i, h, _ => exact h.1
    | .m mo, ⟨⟨a, e, na, nh, ob⟩, x⟩, _ =>
      subst e
      refine ⟨a, rfl, ob.to (hide_to fun b o n e => ⟨fun z => ?_, t.keep b o (fun z => n (.inl (tch_hid z))) e⟩) fun o q => t.keep a o (s.newT R na) q⟩
      rcases z with (z | z) | z
      · exact n (.inl (.inl z))
      · rcases List.mem_cons.mp (show b ∈ a :: tmpOf vs rs from z) with z | z
        · exact n (.inr z)
        · exact out b o e z
      · rcases t.toStp.hid (O := O) (.inr z) with z | z
        · exact n (.inl z)
        · rw [z] at e; cases e
  · rw [tmp_cons]
    refine List.nodup_append.mpr ⟨?_, g3, fun a ha b hb e => ?_⟩
    · cases v <;> cases r <;> simp [tmpOf]
    · subst e
      exact (n1 a ha).2 (g4 a hb)
  · rw [tmp_cons] at ha
    rcases List.mem_append.mp ha with z | z
    · exact (n1 a z).1
    · exact Classical.byContradiction fun q => s.dom a q (g4 a z)
end
/-! ### the judgements -/
def tM (Z : Zz) (w : WE) : TE := fun σ H Q => ∃ (O : Addr → Prop) (ρ : Rho) (K : RV → Rho → Prop), Rel Z O ρ σ H ∧ w ρ K ∧ ∀ r ρ' v H', K r ρ' → Rel Z O ρ' σ H' → Est ρ σ H ρ' H' → RvF Z O ρ' σ H H' v r → Q v H'
def tMA (Z : Zz) (w : WA) : TA := fun σ H Q => ∃ (O : Addr → Prop) (ρ : Rho) (K : List RV → Rho → Prop), Rel Z O ρ σ H ∧ w ρ K ∧ ∀ rs ρ' vs H', K rs ρ' → Rel Z O ρ' σ H' → Est ρ σ H ρ' H' → RvsOk Z O ρ' σ H H' vs rs → RvsF Z O ρ' σ H H' vs rs → Q vs H'
def tMT (Z : Zz) (w : WT) : TT := fun σ H Q => ∃ (O : Addr → Prop) (ρ : Rho) (K : Bool → Rho → Prop), Rel Z O ρ σ H ∧ w ρ K ∧ ∀ b ρ' H', K b ρ' → Rel Z O ρ' σ H' → Est ρ σ H ρ' H' → Q b H'
abbrev DE (Z : Zz) (X : Cx) (e : Expr) (w : WE) : Prop := PE X e (tM Z w)
abbrev DA (Z : Zz) (X : Cx) (es : List Expr) (w : WA) : Prop := PA X es (tMA Z w)
abbrev DT (Z : Zz) (X : Cx) (e : Expr) (w : WT) : Prop := PT X e (tMT Z w)
theorem PEweak {X : Cx} {e : Expr} {t t' : TE} (h : PE X e t) (k : ∀ σ H Q, t' σ H Q → t σ H Q) : PE X e t' := ⟨fun pins s σ H Q I z => h.run pins s σ H Q I (k σ H Q z)⟩
theorem PAweak {X : Cx} {e : List Expr} {t t' : TA} (h : PA X e t) (k : ∀ σ H Q, t' σ H Q → t σ H Q) : PA X e t' := ⟨fun pos pins s σ H Q I z => h.run pos pins s σ H Q I (k σ H Q z)⟩
theorem PTweak {X : Cx} {e : Expr} {t t' : TT} (h : PT X e t) (k : ∀ σ H Q, t' σ H Q → t σ H Q) : PT X e t' := ⟨fun pins s σ H Q I z => h.run pins s σ H Q I (k σ H Q z)⟩
theorem PWweak {X : Cx} {e : Expr} {t t' : TT} (h : PW X e t) (k : ∀ σ H Q, t' σ H Q → t σ H Q) : PW X e t' := ⟨fun wh pins s σ H Q I z => h.run wh pins s σ H Q I (k σ H Q z)⟩
section
variable {Z : Zz} {X : Cx}
/-! ### names, constants -/
@[simp] def dVar (i : Nat) : WE := fun ρ K => match ρ[i]? with
  | some (.val d) => K (.d d) ρ
  | some (.mut _ _ _) => K (.s i) ρ
  | _ => False
theorem de_var {i : Nat} {x : Str} {pos : Pos} (hN : X.N[i]? = some x) (hv : Vis X.env.scope x) (hd : (x == ("__debug__" : Str)) = false := by decide) (hcd : (x == ("__classdict__" : Str)) = false := by decide) : DE Z X (.Name x pos) (dVar i) := by
  refine PEweak (pe_var (i := i) hN hv hd hcd) fun σ H Q ⟨O, ρ, K, R, h, q⟩ => ?_
  unfold dVar at h
  split at h
  · rename_i d e
    obtain ⟨v, h1, h2⟩ := R.vals _ _ e
    exact ⟨v, h1, q _ _ _ _ h R Est.refl ⟨h2, trivial⟩⟩
  · rename_i o l m e
    obtain ⟨a, h1, _⟩ := R.muts _ _ _ _ e
    exact ⟨_, h1, q _ _ _ _ h R Est.refl ⟨h1, trivial⟩⟩
  · exact h.elim
@[simp] def dC (d : PD) : WE := fun ρ K => K (.d d) ρ
theorem de_int {i j pos} : DE Z X (.Constant (.int i) j pos) (dC (.int i)) := PEweak pe_int fun σ H Q ⟨O, ρ, K, R, h, q⟩ => q _ _ _ _ h R Est.refl ⟨(Is.int i), trivial⟩
theorem de_bl {b j pos} : DE Z X (.Constant (.bool b) j pos) (dC (.bool b)) := PEweak pe_bl fun σ H Q ⟨O, ρ, K, R, h, q⟩ => q _ _ _ _ h R Est.refl ⟨(Is.bl b), trivial⟩
theorem de_non {j pos} : DE Z X (.Constant .none j pos) (dC .none) := PEweak pe_non fun σ H Q ⟨O, ρ, K, R, h, q⟩ => q _ _ _ _ h R Est.refl ⟨Is.non, trivial⟩
theorem de_str {x j pos} : DE Z X (.Constant (.str x) j pos) (dC (.str x)) := PEweak pe_str fun σ H Q ⟨O, ρ, K, R, h, q⟩ => q _ _ _ _ h R Est.refl ⟨(Is.str x), trivial⟩
/-! ### data out of an object of one's own: it is never changed again -/
@[simp] def toD (r : RV) (ρ : Rho) (K : PD → Rho → Prop) : Prop := match r with
  | .d d => K d ρ
  | .m (.lst ds) => K (.list ds) ρ
  | .m (.dk es) => K (.dict (es.map fun p => (kD p.1, p.2))) ρ
  | .m (.dn _) => False
  | .s i => match ρ[i]? with
    | some (.val d) => K d ρ
    | some (.mut true false (.lst ds)) => K (.list ds) (ρ.set i (.val (.list ds)))
    | _ => False
theorem isKv_of {H : Hp} : ∀ {kvs : List (Key × V)} {es : List (Key × PD)}, IsK Z H kvs es → IsKv Z H kvs (es.map fun p => (kD p.1, p.2))
  | _, _, .nil => .nil
  | _, _, .cons (a := a) (b := b) r t => by
    obtain ⟨k, v⟩ := a
    obtain ⟨k', d⟩ := b
    obtain ⟨e, h⟩ := r
    have e : k = k' := e
    subst e
    exact .cons h (isKv_of t)
theorem freeze_hid {O : Addr → Prop} {ρ : Rho} {σ : Stt} {i : Nat} {d : PD} {b : Addr} (h : Hid O (ρ.set i (.val d)) σ b) : Hid O ρ σ b := by
  rcases h with h | ⟨j, o, l, m, h1, h2⟩
  · exact .inl h
  · by_cases e : i = j
    · subst e
      by_cases hl : i < ρ.length
      · rw [List.getElem?_set_self hl] at h1
        cases h1
      · rw [List.getElem?_eq_none (by rw [List.length_set]; omega)] at h1
        cases h1
    · rw [List.getElem?_set_ne e] at h1
      exact .inr ⟨j, o, l, m, h1, h2⟩
/-- an object of one's own becomes data -/
theorem freeze_ok {O : Addr → Prop} {ρ : Rho} {σ : Stt} {H : Hp} {i : Nat} {ds : List PD} {a : Addr} (R : Rel Z O ρ σ H) (hi : ρ[i]? = some (Sl.mut true false (.lst ds))) (ha : At σ i a) :
    Rel Z O (ρ.set i (.val (.list ds))) σ H ∧ Est ρ σ H (ρ.set i (.val (.list ds))) H ∧ Is Z (hide (Hid O (ρ.set i (.val (.list ds))) σ) H) (.ref a) (.list ds) := by
  have il : i < ρ.length := (List.getElem?_eq_some_iff.mp hi).1
  have back : ∀ {j : Nat} {o l : Bool} {m : MO}, (ρ.set i (.val (.list ds)))[j]? = some (Sl.mut o l m) → j ≠ i ∧ ρ[j]? = some (Sl.mut o l m) := fun {j o l m} h => by
    by_cases e : i = j
    · subst e
      rw [List.getElem?_set_self il] at h
      cases h
    · rw [List.getElem?_set_ne e] at h
      exact ⟨fun z => e z.symm, h⟩
  have sm : Same (hide (Hid O ρ σ) H) (hide (Hid O (ρ.set i (.val (.list ds))) σ) H) := hide_less fun b => freeze_hid
  obtain ⟨a', h1, hO, xs, h2, h3⟩ := R.muts _ _ _ _ hi
  cases ha.inj h1
  have nh : ¬ Hid O (ρ.set i (.val (.list ds))) σ a := fun z => by
    rcases z with z | ⟨j, o, l, m, z1, z2⟩
    · have := hO.mp z
      cases this
    · obtain ⟨nj, z3⟩ := back z1
      exact nj (R.apart j i _ _ _ _ _ _ a z3 hi z2 h1)
  have new : Is Z (hide (Hid O (ρ.set i (.val (.list ds))) σ) H) (.ref a) (.list ds) := .lst (.inl (.inl (by rw [hide_out nh]; exact h2))) (h3.to sm)
  refine ⟨⟨by rw [List.length_set]; exact R.len, fun j d h => ?_, fun j o l m h => ?_, fun j k o o' l l' m m' b h1 h2 h3 h4 => ?_, R.odom⟩, ⟨⟨fun _ _ _ e => e, fun _ h => h, fun j o l m b h1 h2 => .inl ⟨m, (back h1).2, h2⟩, fun j o l m h hol => ⟨rfl, m, ?_, fun _ => rfl⟩⟩, fun j o l m h => ⟨m, (back h).2⟩⟩, new⟩
  · by_cases e : i = j
    · subst e
      rw [List.getElem?_set_self il] at h
      cases h
      exact ⟨_, h1, new⟩
    · rw [List.getElem?_set_ne e] at h
      obtain ⟨v, h4, h5⟩ := R.vals _ _ h
      exact ⟨v, h4, h5.to sm⟩
  · obtain ⟨b, h4, h5, h6⟩ := R.muts _ _ _ _ (back h).2
    exact ⟨b, h4, h5, h6.to sm fun _ e => e⟩
  · exact R.apart j k _ _ _ _ _ _ b (back h1).2 (back h2).2 h3 h4
  · have e : i ≠ j := fun e => by
      subst e
      rw [hi] at h
      cases h
      rcases hol with z | z <;> cases z
    rw [List.getElem?_set_ne e]
    exact h
theorem toD_ok {O : Addr → Prop} {ρ : Rho} {σ : Stt} {H0 H : Hp} {v : V} {K : PD → Rho → Prop} (R : Rel Z O ρ σ H) : ∀ {r : RV}, RvOk Z O ρ σ H0 H v r → toD r ρ K →
    ∃ d ρ', K d ρ' ∧ Rel Z O ρ' σ H ∧ Est ρ σ H ρ' H ∧ Is Z (hide (Hid O ρ' σ) H) v d
  | .d d, h, hk => ⟨d, ρ, hk, R, Est.refl, h⟩
  | .m (.lst ds), ⟨a, e, _, nh, xs, h1, h2⟩, hk => ⟨_, ρ, hk, R, Est.refl, by rw [e]; exact .lst (.inl (.inl (by rw [hide_out nh]; exact h1))) (h2.to (hide_less fun b z => .inl z))⟩
  | .m (.dk es), ⟨a, e, _, nh, o, vs, kvs, h1, g1, g2, g3, h2⟩, hk => ⟨_, ρ, hk, R, Est.refl, by rw [e]; exact .dct (by rw [hide_out nh]; exact h1) g1 g2 g3 (isKv_of (h2.to (hide_less fun b z => .inl z)))⟩
  | .m (.dn _), _, hk => hk.elim
  | .s i, h, hk => by
    have hk : (match ρ[i]? with
      | some (.val d) => K d ρ
      | some (.mut true false (.lst ds)) => K (.list ds) (ρ.set i (.val (.list ds)))
      | _ => False) := hk
    have this : σ[i]? = some (some v) := h
    split at hk
    · rename_i d he
      obtain ⟨u, h1, h2⟩ := R.vals _ _ he
      rw [h1] at this
      cases this
      exact ⟨d, ρ, hk, R, Est.refl, h2⟩
    · rename_i ds he
      obtain ⟨a, h1, _⟩ := R.muts _ _ _ _ he
      have h1' : σ[i]? = some (some (.ref a)) := h1
      rw [h1'] at this
      cases this
      obtain ⟨R', s, n⟩ := freeze_ok R he h1
      exact ⟨_, _, hk, R', s, n⟩
    · exact hk.elim
/-- the value as data -/
@[simp] def dF (w : WE) : WE := fun ρ K => w ρ fun r ρ1 => toD r ρ1 fun d ρ2 => K (.d d) ρ2
theorem de_F {e : Expr} {w : WE} (h : DE Z X e w) : DE Z X e (dF w) := PEweak h fun σ H Q ⟨O, ρ, K, R, hw, q⟩ => ⟨O, ρ, _, R, hw, fun r ρ' v H' hk R' s hv => by
  obtain ⟨d, ρ2, hk2, R2, s2, hi⟩ := toD_ok R' hv.1 hk
  exact q _ _ _ _ hk2 R2 (s.trans s2) ⟨hi, trivial⟩⟩
end
end Dd

/-! Expressions by data: operations, calls of built-ins, displays, tests. -/
namespace Dd
open PySem PySem.Spec PyProof.Rows L2 PySem.W Cb
/-- a result looked at -/
@[simp] def lk (r : RV) (ρ : Rho) (k : BV → Prop) : Prop := match r with
  | .d x => k (.d x)
  | .m m => k (.m m)
  | .s i => match ρ[i]? with
    | some (.val d) => k (.d d)
    | some (.mut _ _ m) => k (.m m)
    | _ => False
theorem lk_res {ρ : Rho} {k : BV → Prop} : ∀ {r : RV}, lk r ρ k → ∃ b, res r ρ = some b ∧ k b
  | .d x, h => ⟨_, rfl, h⟩
  | .m x, h => ⟨_, rfl, h⟩
  | .s i, h => by
    unfold lk at h
    unfold res
    simp only at h ⊢
    split at h
    · rename_i e; exact ⟨_, by simp only [e], h⟩
    · rename_i e; exact ⟨_, by simp only [e], h⟩
    · exact h.elim
@[simp] def lks : List RV → Rho → (List BV → Prop) → Prop
  | [], _, k => k []
  | r :: rs, ρ, k => lk r ρ fun b => lks rs ρ fun bs => k (b :: bs)
theorem lks_res {ρ : Rho} : ∀ {rs : List RV} {k : List BV → Prop}, lks rs ρ k → ∃ bs, resAll ρ rs = some bs ∧ k bs
  | [], _, h => ⟨[], rfl, h⟩
  | r :: rs, k, h => by
    obtain ⟨b, e1, h⟩ := lk_res (show lk r ρ fun b => lks rs ρ fun bs => k (b :: bs) from h)
    obtain ⟨bs, e2, h⟩ := lks_res h
    refine ⟨b :: bs, ?_, h⟩
    unfold resAll
    simp only [e1, e2]
/-! ### operations on values -/
abbrev B2 := BV → BV → (RV → Prop) → Prop
abbrev BC := List BV → (RV → Prop) → Prop
def rD (Z : Zz) (B : B2) : R2 := fun x y H Q => ∃ (U : Addr → Prop) (b1 b2 : BV) (K : RV → Prop), (∀ a, U a → H a ≠ none) ∧ BvOk Z U H x b1 ∧ BvOk Z U H y b2 ∧ B b1 b2 K ∧ ∀ r v H', K r → Same H H' → NvOk Z U H H' v r → Q v H'
def rDC (Z : Zz) (B : BC) : List V → Hp → VK → Prop := fun vs H Q => ∃ (U : Addr → Prop) (bs : List BV) (K : RV → Prop), (∀ a, U a → H a ≠ none) ∧ BvsOk Z U H vs bs ∧ B bs K ∧ ∀ r v H', K r → Same H H' → NvOk Z U H H' v r → Q v H'
def rDM (Z : Zz) (B : BC) : V → List V → Hp → VK → Prop := fun x vs H Q => rDC Z B (x :: vs) H Q
section
variable {Z : Zz} {X : Cx}
@[simp] def d2 (B : B2) (wa wb : WE) : WE := fun ρ K => wa ρ fun r1 ρ1 => wb ρ1 fun r2 ρ2 => lk r1 ρ2 fun b1 => lk r2 ρ2 fun b2 => B b1 b2 fun r => K r ρ2
theorem d2_ok {B : B2} {wa wb : WE} {σ : Stt} {H : Hp} {Q : VK} (h : tM Z (d2 B wa wb) σ H Q) : tOp (rD Z B) (tM Z wa) (tM Z wb) σ H Q := by
  obtain ⟨O, ρ, K, R, h, q⟩ := h
  refine ⟨O, ρ, _, R, h, fun r1 ρ1 v1 H1 hk1 R1 s1 ok1 => ⟨O, ρ1, _, R1, hk1, fun r2 ρ2 v2 H2 hk2 R2 s2 ok2 => ?_⟩⟩
  obtain ⟨b1, e1, hk2⟩ := lk_res hk2
  obtain ⟨b2, e2, hB⟩ := lk_res hk2
  refine ⟨Hid O ρ2 σ, b1, b2, _, fun a => R2.hidThere, (ok1.1.step R s1 s2).look R2 e1, ok2.1.look R2 e2, hB, fun r v H' hk sm nv => ?_⟩
  exact q r ρ2 v H' hk (R2.grow sm) ((s1.trans s2).trans (Est.grow sm)) (nv_f R2 sm nv (s1.trans s2).dom)
theorem de_op {op : Operator} {B : B2} {a b : Expr} {wa wb : WE} {pos : Pos} (ho : OpR X (binaryOp op) (rD Z B)) (ha : DE Z X a wa) (hb : DE Z X b wb) : DE Z X (.BinOp a op b pos) (d2 B wa wb) := PEweak (pe_op ho ha hb) fun _ _ _ => d2_ok
theorem de_cmp {op : CmpOp} {B : B2} {a b : Expr} {wa wb : WE} {pos : Pos} (ho : OpR X (compareOp op) (rD Z B)) (ha : DE Z X a wa) (hb : DE Z X b wb) (hm : behindInMarks op b = false) : DE Z X (.Compare a [op] [b] pos) (d2 B wa wb) := PEweak (pe_cmpR ho ha hb hm) fun _ _ _ => d2_ok
theorem de_ix {B : B2} {a b : Expr} {wa wb : WE} {pos : Pos} (ho : IxR X (rD Z B)) (ha : DE Z X a wa) (hb : DE Z X b wb) (hs : PlainIx b) : DE Z X (.Subscript a b pos) (d2 B wa wb) := PEweak (pe_ix ho ha hb hs) fun _ _ _ => d2_ok
/-- a bool as a test -/
@[simp] def dTb (w : WE) : WT := fun ρ K => w ρ fun r ρ1 => match r with
  | .d (.bool c) => K c ρ1
  | _ => False
theorem tb_ok {w : WE} {σ : Stt} {H : Hp} {Q : Bool → Hp → Prop} (h : tMT Z (dTb w) σ H Q) : tM Z w σ H fun x H' => ∃ c, x = .bl c ∧ Q c H' := by
  obtain ⟨O, ρ, K, R, h, q⟩ := h
  refine ⟨O, ρ, _, R, h, fun r ρ1 v H1 hk R1 s ok => ?_⟩
  match r, hk with
  | .d (.bool c), hk =>
    have ok : Is Z _ v (.bool c) := ok.1
    cases ok
    exact ⟨c, rfl, q _ _ _ hk R1 s⟩
theorem dt_cmp {op : CmpOp} {B : B2} {a b : Expr} {wa wb : WE} {pos : Pos} (ho : OpR X (compareOp op) (rD Z B)) (ha : DE Z X a wa) (hb : DE Z X b wb) (hm : behindInMarks op b = false) : DT Z X (.Compare a [op] [b] pos) (dTb (d2 B wa wb)) := by
  refine PTweak (pt_cmpR ho ha hb hm) fun σ H Q h => ?_
  obtain ⟨O, ρ, K, R, h, q⟩ := tb_ok h
  exact d2_ok ⟨O, ρ, K, R, h, q⟩
theorem dt_val {e : Expr} {w : WE} (h : DE Z X e w) (he : ∀ whole, isTrue e X.env whole = (do let v ← whole; standAt e.pos; holding [v] (truthy v)) := by intro _; rfl) : DT Z X e (dTb w) := PTweak (pt_val h he) fun _ _ _ => tb_ok
/-! ### truth -/
@[simp] def truB : BV → (Bool → Prop) → Prop
  | .d .none, k => k false
  | .d (.bool b), k => k b
  | .d (.int i), k => k (i != 0)
  | .d (.str y), k => y.length ≤ sizeLine ∧ k ((y.length : Int) != 0)
  | .d (.list ds), k => k (!ds.isEmpty)
  | .d (.tuple ds), k => k (!ds.isEmpty)
  | .m (.lst ds), k => k (!ds.isEmpty)
  | _, _ => False
theorem IsAll.empty {H : Hp} {vs : List V} {ds : List PD} (h : IsAll Z H vs ds) : vs.isEmpty = ds.isEmpty := by cases h <;> rfl
theorem bv_sub {U : Addr → Prop} {a : Addr} {H : Hp} : Same (hide (fun b => U b ∨ b = a) H) H := hide_same
theorem tru_of {U : Addr → Prop} {H : Hp} {v : V} : ∀ {b : BV} {k : Bool → Prop}, BvOk Z U H v b → truB b k → ∃ c, TruV Z.K v H c ∧ k c
  | .d .none, k, h, t => by
    have h : Is Z (hide U H) v .none := h
    cases h; exact ⟨_, rfl, t⟩
  | .d (.bool b), k, h, t => by
    have h : Is Z (hide U H) v (.bool b) := h
    cases h; exact ⟨_, rfl, t⟩
  | .d (.int i), k, h, t => by
    have h : Is Z (hide U H) v (.int i) := h
    cases h; exact ⟨_, rfl, t⟩
  | .d (.str y), k, h, t => by
    have h : Is Z (hide U H) v (.str y) := h
    cases h; exact ⟨_, ⟨t.1, rfl⟩, t.2⟩
  | .d (.list ds), k, h, t => by
    have h : Is Z (hide U H) v (.list ds) := h
    cases h with
    | lst hs ha => exact ⟨_, .inl ⟨_, sqL_sub hide_same hs.sq, rfl⟩, by rw [ha.empty]; exact t⟩
  | .d (.tuple ds), k, h, t => by
    have h : Is Z (hide U H) v (.tuple ds) := h
    cases h with
    | tup hs ha => exact ⟨_, .inr (.inl ⟨_, sqT_sub hide_same hs, rfl⟩), by rw [ha.empty]; exact t⟩
  | .m (.lst ds), k, ⟨a, e, xs, h, ha⟩, t => by
    subst e
    exact ⟨_, .inl ⟨xs, .inl (.inl h), rfl⟩, by rw [ha.empty]; exact t⟩
  | .d (.dict _), _, _, t => (show False from t).elim
  | .m (.dk _), _, _, t => (show False from t).elim
  | .m (.dn _), _, _, t => (show False from t).elim
@[simp] def dTru (w : WE) : WT := fun ρ K => w ρ fun r ρ1 => lk r ρ1 fun b => truB b fun c => K c ρ1
theorem dt_tru {e : Expr} {w : WE} (h : DE Z X e w) (he : ∀ whole, isTrue e X.env whole = (do let v ← whole; standAt e.pos; holding [v] (truthy v)) := by intro _; rfl) (hk : X.K = Z.K := by rfl) : DT Z X e (dTru w) := by
  refine PTweak (pt_truth h he) fun σ H Q ⟨O, ρ, K, R, hw, q⟩ => ⟨O, ρ, _, R, hw, fun r ρ1 v H1 hk1 R1 s ok => ?_⟩
  obtain ⟨b, e1, ht⟩ := lk_res hk1
  obtain ⟨c, h1, h2⟩ := tru_of (ok.1.look R1 e1) ht
  rw [hk]
  exact ⟨c, h1, q _ _ _ h2 R1 s⟩
/-! ### and, or, not, if -/
abbrev DW (Z : Zz) (X : Cx) (e : Expr) (w : WT) : Prop := PW X e (tMT Z w)
@[simp] def dAnd (t u : WT) : WT := fun ρ K => t ρ fun b ρ1 => if b = true then u ρ1 K else K false ρ1
@[simp] def dOr (t u : WT) : WT := fun ρ K => t ρ fun b ρ1 => if b = true then K true ρ1 else u ρ1 K
@[simp] def dNot (t : WT) : WT := fun ρ K => t ρ fun b ρ1 => K (!b) ρ1
variable {a b : Expr} {rest : List Expr} {pos : Pos} {t u : WT} {wa wb : WE}
theorem dw_and1 (ha : DT Z X a t) : DW Z X (.BoolOp .And [a] pos) t := pw_and1 ha
theorem dw_or1 (ha : DT Z X a t) : DW Z X (.BoolOp .Or [a] pos) t := pw_or1 ha
theorem dw_and (ha : DT Z X a t) (hb : DW Z X (.BoolOp .And (b :: rest) pos) u) : DW Z X (.BoolOp .And (a :: b :: rest) pos) (dAnd t u) := PWweak (pw_and ha hb) fun σ H Q ⟨O, ρ, K, R, h, q⟩ => ⟨O, ρ, _, R, h, fun c ρ1 H1 hk R1 s => by
  cases c with
  | true => exact ⟨O, ρ1, K, R1, hk, fun c2 ρ2 H2 hk2 R2 s2 => q _ _ _ hk2 R2 (s.trans s2)⟩
  | false => exact q _ _ _ hk R1 s⟩
theorem dw_or (ha : DT Z X a t) (hb : DW Z X (.BoolOp .Or (b :: rest) pos) u) : DW Z X (.BoolOp .Or (a :: b :: rest) pos) (dOr t u) := PWweak (pw_or ha hb) fun σ H Q ⟨O, ρ, K, R, h, q⟩ => ⟨O, ρ, _, R, h, fun c ρ1 H1 hk R1 s => by
  cases c with
  | false => exact ⟨O, ρ1, K, R1, hk, fun c2 ρ2 H2 hk2 R2 s2 => q _ _ _ hk2 R2 (s.trans s2)⟩
  | true => exact q _ _ _ hk R1 s⟩
theorem dt_not (ha : DT Z X a t) : DT Z X (.UnaryOp .Not a pos) (dNot t) := PTweak (pt_not ha) fun σ H Q ⟨O, ρ, K, R, h, q⟩ => ⟨O, ρ, _, R, h, fun c ρ1 H1 hk R1 s => q _ _ _ hk R1 s⟩
theorem DW.dt (h : DW Z X a t) : DT Z X a t := h.pt
@[simp] def dAndV (wa wb : WE) : WE := fun ρ K => wa ρ fun r ρ1 => match r with
  | .d (.bool c) => if c = true then wb ρ1 K else K (.d (.bool false)) ρ1
  | _ => False
@[simp] def dOrV (wa wb : WE) : WE := fun ρ K => wa ρ fun r ρ1 => match r with
  | .d (.bool c) => if c = true then K (.d (.bool true)) ρ1 else wb ρ1 K
  | _ => False
@[simp] def dNotV (wa : WE) : WE := fun ρ K => wa ρ fun r ρ1 => match r with
  | .d (.bool c) => K (.d (.bool (!c))) ρ1
  | _ => False
theorem de_one {op} {w : WE} (h : DE Z X a w) : DE Z X (.BoolOp op [a] pos) w := pe_one h
theorem de_and (ha : DE Z X a wa) (hb : DE Z X (.BoolOp .And (b :: rest) pos) wb) : DE Z X (.BoolOp .And (a :: b :: rest) pos) (dAndV wa wb) := PEweak (pe_and ha hb) fun σ H Q ⟨O, ρ, K, R, h, q⟩ => ⟨O, ρ, _, R, h, fun r ρ1 v H1 hk R1 s ok => by
  match r, hk with
  | .d (.bool c), hk =>
    have ok : Is Z _ v (.bool c) := ok.1
    cases ok
    refine ⟨c, rfl, ?_⟩
    cases c with
    | true => exact ⟨O, ρ1, K, R1, hk, fun r2 ρ2 v2 H2 hk2 R2 s2 ok2 => q _ _ _ _ hk2 R2 (s.trans s2) (ok2.back s.dom)⟩
    | false => exact q _ _ _ _ hk R1 s ⟨Is.bl false, trivial⟩⟩
theorem de_or (ha : DE Z X a wa) (hb : DE Z X (.BoolOp .Or (b :: rest) pos) wb) : DE Z X (.BoolOp .Or (a :: b :: rest) pos) (dOrV wa wb) := PEweak (pe_or ha hb) fun σ H Q ⟨O, ρ, K, R, h, q⟩ => ⟨O, ρ, _, R, h, fun r ρ1 v H1 hk R1 s ok => by
  match r, hk with
  | .d (.bool c), hk =>
    have ok : Is Z _ v (.bool c) := ok.1
    cases ok
    refine ⟨c, rfl, ?_⟩
    cases c with
    | false => exact ⟨O, ρ1, K, R1, hk, fun r2 ρ2 v2 H2 hk2 R2 s2 ok2 => q _ _ _ _ hk2 R2 (s.trans s2) (ok2.back s.dom)⟩
    | true => exact q _ _ _ _ hk R1 s ⟨Is.bl true, trivial⟩⟩
theorem de_not (ha : DE Z X a wa) : DE Z X (.UnaryOp .Not a pos) (dNotV wa) := PEweak (pe_not ha) fun σ H Q ⟨O, ρ, K, R, h, q⟩ => ⟨O, ρ, _, R, h, fun r ρ1 v H1 hk R1 s ok => by
  match r, hk with
  | .d (.bool c), hk =>
    have ok : Is Z _ v (.bool c) := ok.1
    cases ok
    exact ⟨c, rfl, q _ _ _ _ hk R1 s ⟨Is.bl _, trivial⟩⟩⟩
@[simp] def dIf (t : WT) (wa wb : WE) : WE := fun ρ K => t ρ fun c ρ1 => if c = true then wa ρ1 K else wb ρ1 K
theorem de_if {c : Expr} (hc : DT Z X c t) (ha : DE Z X a wa) (hb : DE Z X b wb) : DE Z X (.IfExp c a b pos) (dIf t wa wb) := PEweak (pe_ifExp hc ha hb) fun σ H Q ⟨O, ρ, K, R, h, q⟩ => ⟨O, ρ, _, R, h, fun d ρ1 H1 hk R1 s => by
  cases d with
  | true => exact ⟨O, ρ1, K, R1, hk, fun r2 ρ2 v2 H2 hk2 R2 s2 ok2 => q _ _ _ _ hk2 R2 (s.trans s2) (ok2.back s.dom)⟩
  | false => exact ⟨O, ρ1, K, R1, hk, fun r2 ρ2 v2 H2 hk2 R2 s2 ok2 => q _ _ _ _ hk2 R2 (s.trans s2) (ok2.back s.dom)⟩⟩
/-- -a -/
@[simp] def dNeg (wa : WE) : WE := fun ρ K => wa ρ fun r ρ1 => match r with
  | .d (.int i) => K (.d (.int (-i))) ρ1
  | _ => False
theorem de_neg (ha : DE Z X a wa) : DE Z X (.UnaryOp .USub a pos) (dNeg wa) := PEweak (pe_un un_neg ha) fun σ H Q ⟨O, ρ, K, R, h, q⟩ => ⟨O, ρ, _, R, h, fun r ρ1 v H1 hk R1 s ok => by
  match r, hk with
  | .d (.int i), hk =>
    have ok : Is Z _ v (.int i) := ok.1
    cases ok
    exact ⟨i, rfl, q _ _ _ _ hk R1 s ⟨Is.int _, trivial⟩⟩⟩
/-! ### argument lists, displays -/
@[simp] def aNil : WA := fun ρ K => K [] ρ
@[simp] def aCons (w : WE) (ws : WA) : WA := fun ρ K => w ρ fun r ρ1 => ws ρ1 fun rs ρ2 => K (r :: rs) ρ2
theorem da_nil : DA Z X [] aNil := PAweak pa_nil fun σ H Q ⟨O, ρ, K, R, h, q⟩ => q _ _ _ _ h R Est.refl trivial ⟨by rw [show tmpOf [] [] = [] from rfl, OT_nil]; exact R, trivial, List.nodup_nil, fun a z => by cases z⟩
theorem rvsOk_less {O : Addr → Prop} {l : List Addr} {ρ' : Rho} {σ : Stt} {H H' : Hp} : ∀ {vs : List V} {rs : List RV}, RvsOk Z (OT O l) ρ' σ H H' vs rs → RvsOk Z O ρ' σ H H' vs rs
  | [], [], _ => trivial
  | v :: vs, .d d :: rs, ⟨h, t⟩ => ⟨Is.to h (hide_less fun b z => z.imp (fun z => .inl z) id), rvsOk_less t⟩
  | v :: vs, .s i :: rs, ⟨h, t⟩ => ⟨h, rvsOk_less t⟩
  | v :: vs, .m mo :: rs, ⟨⟨a, e, na, nh, ob⟩, t⟩ => ⟨⟨a, e, na, fun z => nh (z.imp (fun z => .inl z) id), ob.to (hide_less fun b z => z.imp (fun z => z.imp (fun z => .inl z) id) id) fun _ e => e⟩, rvsOk_less t⟩
theorem da_cons {e : Expr} {es : List Expr} {w : WE} {ws : WA} (he : DE Z X e w) (hr : DA Z X es ws) (hs : starEach (e :: es) X.env = (false, eval e X.env) :: starEach es X.env := by rfl) : DA Z X (e :: es) (aCons w ws) :=
  PAweak (pa_cons he hr hs) fun σ H Q ⟨O, ρ, K, R, h, q⟩ => ⟨O, ρ, _, R, h, fun r ρ1 v H1 hk R1 s ok => by
    obtain ⟨R1', n1⟩ := tmp_one ok R1
    refine ⟨_, ρ1, _, R1', hk, fun rs ρ2 vs H2 hk2 R2 s2 ok2 f2 => ?_⟩
    have R2' : Rel Z O ρ2 σ H2 := R2.drop fun a ha => (s.trans s2).newH R (n1 a ha).1
    exact q _ _ _ _ hk2 R2' (s.trans s2) ⟨ok.1.step R s s2, RvsOk.back s.dom (rvsOk_less ok2)⟩ (rvsF_cons R s ok s2 f2 R1)⟩
/-- all data -/
@[simp] def allD : List RV → Option (List PD)
  | [] => some []
  | .d x :: rs => match allD rs with
    | some ds => some (x :: ds)
    | none => none
  | _ :: _ => none
theorem allD_ok {O : Addr → Prop} {ρ : Rho} {σ : Stt} {H H' : Hp} : ∀ {rs : List RV} {ds : List PD} {vs : List V}, allD rs = some ds → RvsOk Z O ρ σ H H' vs rs → IsAll Z (hide (Hid O ρ σ) H') vs ds
  | [], _, [], e, _ => by cases e; exact .nil
  | .d x :: rs, ds, v :: vs, e, ⟨h1, h2⟩ => by
    unfold allD at e
    split at e
    · rename_i es e1
      cases e
      exact .cons h1 (allD_ok e1 h2)
    · cases e
@[simp] def wds (rs : List RV) (k : List PD → Prop) : Prop := match allD rs with
  | some ds => ds.length ≤ 1000 ∧ k ds
  | none => False
@[simp] def dTup (w : WA) : WE := fun ρ K => w ρ fun rs ρ1 => wds rs fun ds => K (.d (.tuple ds)) ρ1
@[simp] def dLst (w : WA) : WE := fun ρ K => w ρ fun rs ρ1 => wds rs fun ds => K (.m (.lst ds)) ρ1
theorem sl1000 {n : Nat} (h : n ≤ 1000) : n ≤ sizeLine := Nat.le_trans h (by decide)
theorem nv_tup {U : Addr → Prop} {H : Hp} {p : Addr} {vs : List V} {ds : List PD} (hU : ∀ a, U a → H a ≠ none) (np : H p = none) (h : IsAll Z (hide U H) vs ds) : NvOk Z U H (upd H p (.tup vs)) (.ref p) (.d (.tuple ds)) :=
  Is.tup (.inl (.inl (by rw [hide_out fun z => hU _ z np]; exact upd_same))) (h.to (hide_to fun b o n e => ⟨n, by rw [upd_ne (ne_of_none e np)]; exact e⟩))
theorem nv_lst {U : Addr → Prop} {H : Hp} {p : Addr} {vs : List V} {ds : List PD} (np : H p = none) (h : IsAll Z (hide U H) vs ds) : NvOk Z U H (upd H p (.lst vs)) (.ref p) (.m (.lst ds)) :=
  ⟨p, rfl, np, vs, upd_same, h.to (hide_to fun b o n e => ⟨fun z => z.elim n fun z => ne_of_none e np z, by rw [upd_ne (ne_of_none e np)]; exact e⟩)⟩
theorem de_tup {es : List Expr} {k : Nat} {w : WA} (h : DA Z X es w) : DE Z X (.Tuple es k pos) (dTup w) := PEweak (pe_tup h) fun σ H Q ⟨O, ρ, K, R, hw, q⟩ => ⟨O, ρ, _, R, hw, fun rs ρ1 vs H1 hk R1 s ok _ => by
  have hk : wds rs fun ds => K (.d (.tuple ds)) ρ1 := hk
  unfold wds at hk
  split at hk
  · rename_i ds e
    have hv := allD_ok e ok
    refine ⟨sl1000 (by rw [hv.len]; exact hk.1), fun p np => ?_⟩
    exact q _ _ _ _ hk.2 (R1.grow (same_upd np)) (s.trans (Est.grow (same_upd np))) (nv_f R1 (same_upd np) (nv_tup (U := Hid O ρ1 σ) (H := H1) (fun a => R1.hidThere) np hv) s.dom)
  · exact hk.elim⟩
theorem de_lst {es : List Expr} {w : WA} (h : DA Z X es w) : DE Z X (.List es pos) (dLst w) := PEweak (pe_lst h) fun σ H Q ⟨O, ρ, K, R, hw, q⟩ => ⟨O, ρ, _, R, hw, fun rs ρ1 vs H1 hk R1 s ok _ => by
  have hk : wds rs fun ds => K (.m (.lst ds)) ρ1 := hk
  unfold wds at hk
  split at hk
  · rename_i ds e
    have hv := allD_ok e ok
    refine ⟨sl1000 (by rw [hv.len]; exact hk.1), fun p np => ?_⟩
    exact q _ _ _ _ hk.2 (R1.grow (same_upd np)) (s.trans (Est.grow (same_upd np))) (nv_f R1 (same_upd np) (nv_lst (U := Hid O ρ1 σ) (H := H1) np hv) s.dom)
  · exact hk.elim⟩
/-! ### calls of built-ins -/
@[simp] def dCB (B : BC) (w : WA) : WE := fun ρ K => w ρ fun rs ρ1 => lks rs ρ1 fun bs => B bs fun r => K r ρ1
theorem dcb_ok {B : BC} {w : WA} {σ : Stt} {H : Hp} {Q : VK} (h : tM Z (dCB B w) σ H Q) : tCB (rDC Z B) (tMA Z w) σ H Q := by
  obtain ⟨O, ρ, K, R, hw, q⟩ := h
  refine ⟨O, ρ, _, R, hw, fun rs ρ1 vs H1 hk R1 s ok _ => ?_⟩
  obtain ⟨bs, e, hB⟩ := lks_res hk
  exact ⟨Hid O ρ1 σ, bs, _, fun a => R1.hidThere, ok.look R1 e, hB, fun r v H' hk sm nv => q r ρ1 v H' hk (R1.grow sm) (s.trans (Est.grow sm)) (nv_f R1 sm nv s.dom)⟩
theorem de_callB {B : BC} {w : WA} {x : Str} {id : String} {p pos : Pos} {e : Expr} {es : List Expr} (hc : CallR X (.builtin id) (rDC Z B)) (hg : Gl X x) (hm : X.mg x = none) (hv : bootBuiltins x = some (.builtin id)) (ha : DA Z X (e :: es) w) (hn : x ≠ "__name__" := by decide) (hdb : (x == ("__debug__" : Str)) = false := by decide)
    (he : starEach (e :: es) X.env = (false, eval e X.env) :: starEach es X.env := by rfl) (hpl : (backTo pos (starEach es X.env)).any (·.1) = false := by rfl) : DE Z X (.Call (.Name x p) (e :: es) [] pos) (dCB B w) := PEweak (pe_callB hc hg hm hv ha hn hdb he hpl) fun _ _ _ => dcb_ok
theorem de_callTy {B : BC} {w : WA} {x : Str} {T : String} {p pos : Pos} {e : Expr} {es : List Expr} (hc : CallR X (.type T) (rDC Z B)) (hg : Gl X x) (hm : X.mg x = none) (hv : bootBuiltins x = some (.type T)) (ha : DA Z X (e :: es) w) (hn : x ≠ "__name__" := by decide) (hdb : (x == ("__debug__" : Str)) = false := by decide)
    (he : starEach (e :: es) X.env = (false, eval e X.env) :: starEach es X.env := by rfl) (hpl : (backTo pos (starEach es X.env)).any (·.1) = false := by rfl) : DE Z X (.Call (.Name x p) (e :: es) [] pos) (dCB B w) := PEweak (pe_callTy hc hg hm hv ha hn hdb he hpl) fun _ _ _ => dcb_ok
end
end Dd

/-! Operations on data. -/
namespace Dd
open PySem PySem.Spec PyProof.Rows L2 PySem.W Cb
/-! ### views -/
@[simp] def lstB : BV → Option (List PD)
  | .d (.list ds) => some ds
  | .m (.lst ds) => some ds
  | _ => none
@[simp] def seqB : BV → Option (List PD)
  | .d (.list ds) => some ds
  | .d (.tuple ds) => some ds
  | .m (.lst ds) => some ds
  | _ => none
@[simp] def datB : BV → Option PD
  | .d x => some x
  | .m (.lst ds) => some (.list ds)
  | _ => none
section
variable {Z : Zz} {U : Addr → Prop} {H : Hp} {v : V}
theorem lstB_ok : ∀ {b : BV} {ds : List PD}, BvOk Z U H v b → lstB b = some ds → ∃ a xs, v = .ref a ∧ LsK Z.K H a xs ∧ IsAll Z (hide U H) xs ds
  | .d (.list es), ds, h, e => by
    cases e
    have h : Is Z (hide U H) v (.list es) := h
    cases h with
    | lst hs ha => exact ⟨_, _, rfl, LsK.sub hide_same hs, ha⟩
  | .m (.lst es), ds, ⟨a, e1, xs, h, ha⟩, e => by
    cases e
    exact ⟨a, xs, e1, .inl (.inl h), ha.to (hide_less fun b z => .inl z)⟩
  | .m (.dk _), _, _, e => by cases e
  | .m (.dn _), _, _, e => by cases e
theorem seqB_ok : ∀ {b : BV} {ds : List PD}, BvOk Z U H v b → seqB b = some ds → ∃ a xs, v = .ref a ∧ (LsK Z.K H a xs ∨ SqT Z.K H a xs) ∧ IsAll Z (hide U H) xs ds
  | .d (.list es), ds, h, e => by
    obtain ⟨a, xs, h1, h2, h3⟩ := lstB_ok (ds := ds) h e
    exact ⟨a, xs, h1, .inl h2, h3⟩
  | .m (.lst es), ds, h, e => by
    obtain ⟨a, xs, h1, h2, h3⟩ := lstB_ok (ds := ds) h e
    exact ⟨a, xs, h1, .inl h2, h3⟩
  | .d (.tuple es), ds, h, e => by
    cases e
    have h : Is Z (hide U H) v (.tuple es) := h
    cases h with
    | tup hs ha => exact ⟨_, _, rfl, .inr (sqT_sub hide_same hs), ha⟩
  | .m (.dk _), _, _, e => by cases e
  | .m (.dn _), _, _, e => by cases e
theorem datB_ok : ∀ {b : BV} {d : PD}, BvOk Z U H v b → datB b = some d → Is Z H v d
  | .d x, d, h, e => by cases e; exact Is.to h hide_same
  | .m (.lst es), d, ⟨a, e1, xs, h, ha⟩, e => by
    cases e
    rw [e1]
    exact .lst (.inl (.inl h)) (ha.to hide_same)
  | .m (.dk _), _, _, e => by cases e
  | .m (.dn _), _, _, e => by cases e
theorem sqL_of_or {a : Addr} {xs : List V} (h : LsK Z.K H a xs ∨ SqT Z.K H a xs) : SqL Z.K H a xs ∨ SqT Z.K H a xs := h.imp (fun z => z.sq) id
end
/-! ### int operations -/
@[simp] def iB (C : Int → Int → Prop) (f : Int → Int → PD) : B2
  | .d (.int i), .d (.int j), K => C i j ∧ K (.d (f i j))
  | _, _, _ => False
section
variable {Z : Zz} {X : Cx}
theorem iB_of {B : B2} {C : Int → Int → Prop} {f : Int → Int → PD} {b1 b2 : BV} {K : RV → Prop} (h : iB C f b1 b2 K) : ∃ i j, b1 = .d (.int i) ∧ b2 = .d (.int j) ∧ C i j ∧ K (.d (f i j)) := by
  unfold iB at h
  split at h
  · exact ⟨_, _, rfl, rfl, h⟩
  · exact h.elim
theorem oI {g : Value → Value → Sem Value} {C : Int → Int → Prop} {f : Int → Int → Int} (ho : OpR X g (rI C fun i j => .int (f i j))) : OpR X g (rD Z (iB C fun i j => .int (f i j))) := by
  intro pins s σ H x y v u Q I rx ry ⟨U, b1, b2, K, hU, h1, h2, hB, q⟩
  obtain ⟨i, j, rfl, rfl, hc, hk⟩ := iB_of (B := iB C fun i j => .int (f i j)) hB
  have h1 : Is Z _ x (.int i) := h1
  have h2 : Is Z _ y (.int j) := h2
  cases h1
  cases h2
  exact ho pins s σ H _ _ v u Q I rx ry ⟨i, j, rfl, rfl, hc, q _ _ _ hk (Same.refl _) (Is.int _)⟩
theorem oI0 {g : Value → Value → Sem Value} {f : Int → Int → Int} (ho : OpR X g (rI0 fun i j => .int (f i j))) : OpR X g (rD Z (iB (fun _ _ => True) fun i j => .int (f i j))) := by
  intro pins s σ H x y v u Q I rx ry ⟨U, b1, b2, K, hU, h1, h2, hB, q⟩
  obtain ⟨i, j, rfl, rfl, hc, hk⟩ := iB_of (B := iB (fun _ _ => True) fun i j => .int (f i j)) hB
  have h1 : Is Z _ x (.int i) := h1
  have h2 : Is Z _ y (.int j) := h2
  cases h1
  cases h2
  exact ho pins s σ H _ _ v u Q I rx ry ⟨i, j, rfl, rfl, q _ _ _ hk (Same.refl _) (Is.int _)⟩
theorem oIb {g : Value → Value → Sem Value} {f : Int → Int → Bool} (ho : OpR X g (rI0 fun i j => .bl (f i j))) : OpR X g (rD Z (iB (fun _ _ => True) fun i j => .bool (f i j))) := by
  intro pins s σ H x y v u Q I rx ry ⟨U, b1, b2, K, hU, h1, h2, hB, q⟩
  obtain ⟨i, j, rfl, rfl, hc, hk⟩ := iB_of (B := iB (fun _ _ => True) fun i j => .bool (f i j)) hB
  have h1 : Is Z _ x (.int i) := h1
  have h2 : Is Z _ y (.int j) := h2
  cases h1
  cases h2
  exact ho pins s σ H _ _ v u Q I rx ry ⟨i, j, rfl, rfl, q _ _ _ hk (Same.refl _) (Is.bl _)⟩
abbrev subB : B2 := iB (fun _ _ => True) fun i j => .int (i - j)
abbrev mulB : B2 := iB CMul fun i j => .int (i * j)
abbrev mulWB : B2 := iB CMulW fun i j => .int (i * j)
abbrev fdivB : B2 := iB CDivW fun i j => .int (i / j)
abbrev modB : B2 := iB (fun _ j => 0 < j) fun i j => .int (i % j)
abbrev powB : B2 := iB CPow fun i j => .int (i ^ j.toNat)
abbrev ltB : B2 := iB (fun _ _ => True) fun i j => .bool (decide (i < j))
abbrev leB : B2 := iB (fun _ _ => True) fun i j => .bool (decide (i ≤ j))
abbrev gtB : B2 := iB (fun _ _ => True) fun i j => .bool (decide (j < i))
abbrev geB : B2 := iB (fun _ _ => True) fun i j => .bool (decide (j ≤ i))
theorem o_sub : OpR X (binaryOp .Sub) (rD Z subB) := oI0 op_sub
theorem o_mul : OpR X (binaryOp .Mult) (rD Z mulB) := oI op_mul
theorem o_mulW : OpR X (binaryOp .Mult) (rD Z mulWB) := oI op_mulW
theorem o_fdiv : OpR X (binaryOp .FloorDiv) (rD Z fdivB) := oI op_fdivW
theorem o_mod : OpR X (binaryOp .Mod) (rD Z modB) := oI op_mod
theorem o_pow : OpR X (binaryOp .Pow) (rD Z powB) := oI op_pow
theorem o_lt : OpR X (compareOp .Lt) (rD Z ltB) := oIb op_lt
theorem o_le : OpR X (compareOp .LtE) (rD Z leB) := oIb op_le
theorem o_gt : OpR X (compareOp .Gt) (rD Z gtB) := oIb op_gt
theorem o_ge : OpR X (compareOp .GtE) (rD Z geB) := oIb op_ge
/-! ### + -/
@[simp] def addB (b1 b2 : BV) (K : RV → Prop) : Prop := match b1, b2 with
  | .d (.int i), .d (.int j) => K (.d (.int (i + j)))
  | .d (.str x), .d (.str y) => x.length + y.length ≤ sizeLine ∧ K (.d (.str (x ++ y)))
  | .d (.tuple xs), .d (.tuple ys) => xs.length + ys.length ≤ sizeLine ∧ K (.d (.tuple (xs ++ ys)))
  | b1, b2 => match lstB b1, lstB b2 with
    | some xs, some ys => xs.length + ys.length ≤ sizeLine ∧ K (.m (.lst (xs ++ ys)))
    | _, _ => False
theorem op_catL {pins : List (Addr × Obj)} {s : Shared} {σ : Stt} {H : Hp} {a b : Addr} {xs ys : List V} {Q : VK} (I : Inv X pins σ H s) (ha : LsK X.K H a xs) (hb : LsK X.K H b ys) (hz : xs.length + ys.length ≤ sizeLine) (q : ∀ p, H p = none → Q (.ref p) (upd H p (.lst (xs ++ ys)))) :
    wpAny (model X.prog X.w) X.A (binaryOp .Add (.ref a) (.ref b)) (EP X pins σ Q) X.xe s := by
  obtain ⟨z, its, n, r, e⟩ := LsK.obj I ha
  obtain ⟨z2, its2, n2, r2, e2⟩ := LsK.obj I hb
  have hl := r.length
  have hl2 := r2.length
  refine PySem.P.add_list e e2 ?_ (by rw [List.size_toArray, List.size_toArray]; omega)
  have ea : its.toArray ++ its2.toArray = (its ++ its2).toArray := by simp
  rw [ea]
  exact ⟨.ref _, _, I.lnew (t' := s.toks) (r.append r2) (by rw [List.length_append]; omega), rfl, q _ I.fresh⟩
theorem is_new {Z : Zz} {U : Addr → Prop} {H : Hp} {p : Addr} {o : HO} {v : V} {d : PD} (np : H p = none) (h : Is Z (hide U H) v d) : Is Z (hide U (upd H p o)) v d := h.to (hide_to fun b u n e => ⟨n, by rw [upd_ne (ne_of_none e np)]; exact e⟩)
theorem isAll_new {Z : Zz} {U : Addr → Prop} {H : Hp} {p : Addr} {o : HO} {v : List V} {d : List PD} (np : H p = none) (h : IsAll Z (hide U H) v d) : IsAll Z (hide U (upd H p o)) v d := h.to (hide_to fun b u n e => ⟨n, by rw [upd_ne (ne_of_none e np)]; exact e⟩)
theorem o_add (hK : X.K = Z.K := by rfl) : OpR X (binaryOp .Add) (rD Z addB) := by
  intro pins s σ H x y v u Q I rx ry ⟨U, b1, b2, K, hU, h1, h2, hB, q⟩
  unfold addB at hB
  split at hB
  · rename_i i j
    have h1 : Is Z _ x (.int i) := h1
    have h2 : Is Z _ y (.int j) := h2
    cases h1
    cases h2
    exact op_add pins s σ H _ _ v u Q I rx ry ⟨i, j, rfl, rfl, q _ _ _ hB (Same.refl _) (Is.int _)⟩
  · rename_i i j
    have h1 : Is Z _ x (.str i) := h1
    have h2 : Is Z _ y (.str j) := h2
    cases h1
    cases h2
    exact op_add_str pins s σ H _ _ v u Q I rx ry ⟨i, j, rfl, rfl, hB.1, q _ _ _ hB.2 (Same.refl _) (Is.str _)⟩
  · rename_i xs ys
    have h1 : Is Z _ x (.tuple xs) := h1
    have h2 : Is Z _ y (.tuple ys) := h2
    obtain ⟨hz, hk⟩ := hB
    cases h1 with
    | @tup a us _ sa ha =>
      cases h2 with
      | @tup b ws _ sb hb =>
        have l1 := ha.len
        have l2 := hb.len
        refine op_catA pins s σ H _ _ v u Q I rx ry ⟨a, b, us, ws, rfl, rfl, by rw [hK]; exact sqT_sub hide_same sa, by rw [hK]; exact sqT_sub hide_same sb, by omega, fun e => ?_, fun _ e => ?_, fun _ _ p np => ?_⟩
        · subst e
          cases ha
          exact q _ _ _ hk (Same.refl _) (Is.tup sb hb)
        · subst e
          cases hb
          rw [List.append_nil] at hk
          exact q _ _ _ hk (Same.refl _) (Is.tup sa ha)
        · exact q _ _ _ hk (same_upd np) (nv_tup hU np (ha.app hb))
  · split at hB
    · rename_i xs ys e1 e2
      obtain ⟨a, us, rfl, sa, ha⟩ := lstB_ok h1 e1
      obtain ⟨b, ws, rfl, sb, hb⟩ := lstB_ok h2 e2
      have l1 := ha.len
      have l2 := hb.len
      cases rx
      cases ry
      exact op_catL I (by rw [hK]; exact sa) (by rw [hK]; exact sb) (by omega) fun p np => q _ _ _ hB.2 (same_upd np) (nv_lst np (ha.app hb))
    · exact hB.elim
/-! ### ==, in -/
def flatD : PD → Bool
  | .none | .bool _ | .int _ | .str _ => true
  | _ => false
def scalD : PD → PD → Bool
  | .none, .none => true | .none, .int _ => true | .int _, .none => true | .none, .bool _ => true | .bool _, .none => true | .none, .str _ => true | .str _, .none => true
  | .int _, .int _ => true | .bool _, .bool _ => true | .str _, .str _ => true
  | .int _, .str _ => true | .str _, .int _ => true | .bool _, .str _ => true | .str _, .bool _ => true
  | _, _ => false
theorem scal_of {Z : Zz} {H H' : Hp} {v u : V} {d e : PD} (hv : Is Z H v d) (hu : Is Z H' u e) (h : scalD d e = true) : scal v u = true ∧ decide (v = u) = PyData.eqv d e := by
  cases hv <;> cases hu <;> first
    | exact absurd (show false = true from h) Bool.false_ne_true
    | (refine ⟨rfl, ?_⟩; rw [PyData.eqv]; simp <;> first | done | rfl)
def okEq (d e : PD) : Prop := scalD d e = true ∨ (SeqAt.shaped d = true ∧ SeqAt.shaped e = true)
@[simp] def eqB (neg : Bool) : B2 := fun b1 b2 K => match datB b1, datB b2 with
  | some d, some e => okEq d e ∧ K (.d (.bool (if neg then !PyData.eqv d e else PyData.eqv d e)))
  | _, _ => False
theorem eqB_of {neg : Bool} {b1 b2 : BV} {K : RV → Prop} (h : eqB neg b1 b2 K) : ∃ d e, datB b1 = some d ∧ datB b2 = some e ∧ okEq d e ∧ K (.d (.bool (if neg then !PyData.eqv d e else PyData.eqv d e))) := by
  unfold eqB at h
  split at h
  · rename_i d e h1 h2
    exact ⟨d, e, h1, h2, h⟩
  · exact h.elim
theorem shaped_nd {d : PD} (h : SeqAt.shaped d = true) : d.hasDict = false := PyData.hasDict_of_canLay d (SeqAt.canLay_of_shaped h)
theorem o_eq (hu : X.A.units + 64 < cLine) (hK : X.K = Z.K := by rfl) : OpR X (compareOp .Eq) (rD Z (eqB false)) := by
  intro pins s σ H x y v u Q I rx ry ⟨U, b1, b2, K, hU, h1, h2, hB, q⟩
  obtain ⟨d, e, e1, e2, ok, hk⟩ := eqB_of hB
  have d1 := datB_ok h1 e1
  have d2 := datB_ok h2 e2
  have hq := q _ _ _ hk (Same.refl _) (Is.bl _)
  rcases ok with ok | ⟨s1, s2⟩
  · obtain ⟨z1, z2⟩ := scal_of d1 d2 ok
    exact op_eq pins s σ H _ _ v u Q I rx ry ⟨z1, by rw [z2]; exact hq⟩
  · exact op_eqD hu pins s σ H _ _ v u Q I rx ry ⟨d, e, by rw [hK]; exact Is.dp d _ (shaped_nd s1) d1, by rw [hK]; exact Is.dp e _ (shaped_nd s2) d2, s1, s2, hq⟩
theorem o_ne (hu : X.A.units + 64 < cLine) (hK : X.K = Z.K := by rfl) : OpR X (compareOp .NotEq) (rD Z (eqB true)) := by
  intro pins s σ H x y v u Q I rx ry ⟨U, b1, b2, K, hU, h1, h2, hB, q⟩
  obtain ⟨d, e, e1, e2, ok, hk⟩ := eqB_of hB
  have d1 := datB_ok h1 e1
  have d2 := datB_ok h2 e2
  have hq := q _ _ _ hk (Same.refl _) (Is.bl _)
  rcases ok with ok | ⟨s1, s2⟩
  · obtain ⟨z1, z2⟩ := scal_of d1 d2 ok
    exact op_ne pins s σ H _ _ v u Q I rx ry ⟨z1, by rw [z2]; exact hq⟩
  · exact op_neD hu pins s σ H _ _ v u Q I rx ry ⟨d, e, by rw [hK]; exact Is.dp d _ (shaped_nd s1) d1, by rw [hK]; exact Is.dp e _ (shaped_nd s2) d2, s1, s2, hq⟩
theorem eqV_of {Z : Zz} {H H' : Hp} {v u : V} {d e : PD} (hv : Is Z H v d) (hu : Is Z H' u e) (f1 : flatD d = true) (f2 : flatD e = true) : flatV v = true ∧ flatV u = true ∧ eqV v u = PyData.eqv d e := by
  cases hv <;> cases hu <;> first
    | exact absurd (show false = true from f1) Bool.false_ne_true
    | exact absurd (show false = true from f2) Bool.false_ne_true
    | exact ⟨rfl, rfl, by rw [PyData.eqv] <;> rfl⟩
theorem flats_of {Z : Zz} {H H' : Hp} {u : V} {e : PD} (hu : Is Z H' u e) (f2 : flatD e = true) : ∀ {vs : List V} {ds : List PD}, IsAll Z H vs ds → ds.all flatD = true → vs.all flatV = true ∧ inV u vs = ds.any fun z => PyData.eqv z e
  | _, _, .nil, _ => ⟨rfl, rfl⟩
  | _, _, .cons r t, f => by
    rw [List.all_cons, Bool.and_eq_true] at f
    obtain ⟨h1, h2, h3⟩ := eqV_of r hu f.1 f2
    obtain ⟨h4, h5⟩ := flats_of hu f2 t f.2
    refine ⟨by rw [List.all_cons, h1, h4]; rfl, ?_⟩
    unfold inV at h5 ⊢
    rw [List.any_cons, List.any_cons, h3, h5]
theorem flat_of {Z : Zz} {H' : Hp} {u : V} {e : PD} (hu : Is Z H' u e) (f2 : flatD e = true) : flatV u = true := (eqV_of hu hu f2 f2).1
def okIn (d : PD) (ds : List PD) : Prop := (flatD d = true ∧ ds.all flatD = true) ∨ (SeqAt.shaped d = true ∧ SeqAt.shaped (.list ds) = true)
@[simp] def inB (neg : Bool) : B2 := fun b1 b2 K => match datB b1, seqB b2 with
  | some d, some ds => okIn d ds ∧ K (.d (.bool (if neg then !(ds.any fun z => PyData.eqv z d) else ds.any fun z => PyData.eqv z d)))
  | _, _ => False
theorem inB_of {neg : Bool} {b1 b2 : BV} {K : RV → Prop} (h : inB neg b1 b2 K) : ∃ d ds, datB b1 = some d ∧ seqB b2 = some ds ∧ okIn d ds ∧ K (.d (.bool (if neg then !(ds.any fun z => PyData.eqv z d) else ds.any fun z => PyData.eqv z d))) := by
  unfold inB at h
  split at h
  · rename_i d e h1 h2
    exact ⟨d, e, h1, h2, h⟩
  · exact h.elim
theorem op_ninT (hu : X.A.units + 65 < cLine) {pins : List (Addr × Obj)} {s : Shared} {σ : Stt} {H : Hp} {x y : V} {v u : Value} {Q : VK} {d : PD} {ds : List PD} (I : Inv X pins σ H s) (rx : RelV x v) (ry : RelV y u) (hd : Dp X.K H x d) (he : Dp X.K H y (.tuple ds)) (sd : SeqAt.shaped d = true) (se : SeqAt.shaped (.list ds) = true)
    (q : Q (.bl (!(ds.any fun z => PyData.eqv z d))) H) : wpAny (model X.prog X.w) X.A (compareOp .NotIn v u) (EP X pins σ Q) X.xe s := by
  obtain ⟨as, r1⟩ := Dp.reads I d x v hd rx
  obtain ⟨bs, r2⟩ := Dp.reads I (.tuple ds) y u he ry
  exact SeqAt.notIn_tuple_reads r2 r1 (SeqAt.canLay_of_shaped se) (SeqAt.canLay_of_shaped sd) (room_in_shaped sd hu) ⟨.bl _, H, I, rfl, q⟩
theorem hd_tl (ds : List PD) : PyData.hasDict (.tuple ds) = PyData.hasDict (.list ds) := by simp only [PyData.hasDict]
theorem o_inD (hu : X.A.units + 65 < cLine) (hK : X.K = Z.K := by rfl) : OpR X (compareOp .In) (rD Z (inB false)) := by
  intro pins s σ H x y v u Q I rx ry ⟨U, b1, b2, K, hU, h1, h2, hB, q⟩
  obtain ⟨d, ds, e1, e2, ok, hk⟩ := inB_of hB
  have d1 := datB_ok h1 e1
  obtain ⟨a, us, rfl, sa, ha⟩ := seqB_ok h2 e2
  have hq := q _ _ _ hk (Same.refl _) (Is.bl _)
  rcases ok with ⟨f1, f2⟩ | ⟨s1, s2⟩
  · obtain ⟨g1, g2⟩ := flats_of d1 f1 ha f2
    exact op_in_seq pins s σ H _ _ v u Q I rx ry ⟨a, us, rfl, by rw [hK]; exact sqL_of_or sa, flat_of d1 f1, g1, by rw [g2]; exact hq⟩
  · have dd := Is.dp d _ (shaped_nd s1) d1
    have hn := shaped_nd s2
    have ha' : IsAll Z H us ds := ha.to hide_same
    rcases sa with sa | sa
    · exact op_inD hu pins s σ H _ _ v u Q I rx ry ⟨d, ds, by rw [hK]; exact dd, by rw [hK]; exact Is.dp (.list ds) _ hn (.lst sa ha'), s1, s2, hq⟩
    · exact op_inT hu pins s σ H _ _ v u Q I rx ry ⟨d, ds, by rw [hK]; exact dd, by rw [hK]; exact Is.dp (.tuple ds) _ ((hd_tl ds).trans hn) (.tup sa ha'), s1, s2, hq⟩
theorem o_ninD (hu : X.A.units + 65 < cLine) (hK : X.K = Z.K := by rfl) : OpR X (compareOp .NotIn) (rD Z (inB true)) := by
  intro pins s σ H x y v u Q I rx ry ⟨U, b1, b2, K, hU, h1, h2, hB, q⟩
  obtain ⟨d, ds, e1, e2, ok, hk⟩ := inB_of hB
  have d1 := datB_ok h1 e1
  obtain ⟨a, us, rfl, sa, ha⟩ := seqB_ok h2 e2
  have hq := q _ _ _ hk (Same.refl _) (Is.bl _)
  rcases ok with ⟨f1, f2⟩ | ⟨s1, s2⟩
  · obtain ⟨g1, g2⟩ := flats_of d1 f1 ha f2
    exact op_notIn_seq pins s σ H _ _ v u Q I rx ry ⟨a, us, rfl, by rw [hK]; exact sqL_of_or sa, flat_of d1 f1, g1, by rw [g2]; exact hq⟩
  · have dd := Is.dp d _ (shaped_nd s1) d1
    have hn := shaped_nd s2
    have ha' : IsAll Z H us ds := ha.to hide_same
    rcases sa with sa | sa
    · exact op_notInD hu pins s σ H _ _ v u Q I rx ry ⟨d, ds, by rw [hK]; exact dd, by rw [hK]; exact Is.dp (.list ds) _ hn (.lst sa ha'), s1, s2, hq⟩
    · exact op_ninT hu I rx ry (by rw [hK]; exact dd) (by rw [hK]; exact Is.dp (.tuple ds) _ ((hd_tl ds).trans hn) (.tup sa ha')) s1 s2 hq
/-! ### is -/
@[simp] def nonB : BV → Bool
  | .d .none => true
  | _ => false
@[simp] def isB (neg : Bool) : B2 := fun b1 b2 K => match b2 with
  | .d .none => K (.d (.bool (if neg then !nonB b1 else nonB b1)))
  | .d (.bool b) => match b1 with
    | .d (.bool a) => K (.d (.bool (if neg then !decide (a = b) else decide (a = b))))
    | _ => False
  | _ => False
theorem isB_of {neg : Bool} {b1 b2 : BV} {K : RV → Prop} (h : isB neg b1 b2 K) : (b2 = .d .none ∧ K (.d (.bool (if neg then !nonB b1 else nonB b1)))) ∨ ∃ a b, b1 = .d (.bool a) ∧ b2 = .d (.bool b) ∧ K (.d (.bool (if neg then !decide (a = b) else decide (a = b)))) := by
  unfold isB at h
  split at h
  · exact .inl ⟨rfl, h⟩
  · split at h
    · exact .inr ⟨_, _, rfl, rfl, h⟩
    · exact h.elim
  · exact h.elim
theorem non_of {U : Addr → Prop} {H : Hp} {v : V} : ∀ {b : BV}, BvOk Z U H v b → decide (v = .non) = nonB b
  | .m _, ⟨a, e, _⟩ => by rw [e]; rfl
  | .d d, h => by
    have h : Is Z (hide U H) v d := h
    cases h <;> rfl
theorem o_is : OpR X (compareOp .Is) (rD Z (isB false)) := by
  intro pins s σ H x y v u Q I rx ry ⟨U, b1, b2, K, hU, h1, h2, hB, q⟩
  rcases isB_of hB with ⟨rfl, hk⟩ | ⟨i, j, rfl, rfl, hk⟩
  · have h2 : Is Z _ y .none := h2
    cases h2
    exact op_isN pins s σ H _ _ v u Q I rx ry ⟨rfl, by rw [non_of h1]; exact q _ _ _ hk (Same.refl _) (Is.bl _)⟩
  · have h1 : Is Z _ x (.bool i) := h1
    have h2 : Is Z _ y (.bool j) := h2
    cases h1
    cases h2
    exact op_isBl pins s σ H _ _ v u Q I rx ry ⟨i, j, rfl, rfl, q _ _ _ hk (Same.refl _) (Is.bl _)⟩
theorem o_isnot : OpR X (compareOp .IsNot) (rD Z (isB true)) := by
  intro pins s σ H x y v u Q I rx ry ⟨U, b1, b2, K, hU, h1, h2, hB, q⟩
  rcases isB_of hB with ⟨rfl, hk⟩ | ⟨i, j, rfl, rfl, hk⟩
  · have h2 : Is Z _ y .none := h2
    cases h2
    exact op_notN pins s σ H _ _ v u Q I rx ry ⟨rfl, by rw [non_of h1]; exact q _ _ _ hk (Same.refl _) (Is.bl _)⟩
  · have h1 : Is Z _ x (.bool i) := h1
    have h2 : Is Z _ y (.bool j) := h2
    cases h1
    cases h2
    exact op_notBl pins s σ H _ _ v u Q I rx ry ⟨i, j, rfl, rfl, q _ _ _ hk (Same.refl _) (Is.bl _)⟩
end
end Dd

/-! Subscripts, slices, built-ins on data. -/
namespace Dd
open PySem PySem.Spec PyProof.Rows L2 PySem.W Cb
section
variable {Z : Zz} {X : Cx}
/-! ### x[i] -/
theorem ixN_len {n m : Nat} {i : Int} (h : n = m) : ixN n i = ixN m i := by rw [h]
theorem atI_is {Z : Zz} {H : Hp} {vs : List V} {ds : List PD} {i : Int} {d : PD} (h : IsAll Z H vs ds) (e : atI ds i = some d) : ∃ v, atI vs i = some v ∧ Is Z H v d := by
  unfold atI at e ⊢
  rw [h.len]
  obtain ⟨j, h1, h2⟩ := Option.bind_eq_some_iff.mp e
  obtain ⟨v, h3, h4⟩ := h.getD h2
  exact ⟨v, by rw [h1]; exact h3, h4⟩
@[simp] def ixB : B2 := fun b1 b2 K => match b2 with
  | .d (.int i) => match seqB b1 with
    | some ds => ∃ d, atI ds i = some d ∧ K (.d d)
    | none => False
  | _ => False
theorem ix_seqD (hK : X.K = Z.K := by rfl) : IxR X (rD Z ixB) := by
  intro value slice pins s σ H x y v u Q I rx ry ⟨U, b1, b2, K, hU, h1, h2, hB, q⟩ hs
  unfold ixB at hB
  split at hB
  · rename_i i
    split at hB
    · rename_i ds e
      obtain ⟨d, e1, hk⟩ := hB
      have h2 : Is Z _ y (.int i) := h2
      cases h2
      obtain ⟨a, us, rfl, sa, ha⟩ := seqB_ok h1 e
      obtain ⟨z, e2, hz⟩ := atI_is ha e1
      have hq := q _ _ _ hk (Same.refl _) hz
      rcases sa with sa | sa
      · exact ix_list value slice pins s σ H _ _ v u Q I rx ry ⟨a, us, i, z, rfl, rfl, by rw [hK]; exact sa.sq, e2, hq⟩ hs
      · exact ix_tup value slice pins s σ H _ _ v u Q I rx ry ⟨a, us, i, z, rfl, rfl, by rw [hK]; exact sa, e2, hq⟩ hs
    · exact hB.elim
  · exact hB.elim
/-! ### x[lo:hi] -/
abbrev WO := Rho → (Option Int → Rho → Prop) → Prop
def tMO (Z : Zz) (w : WO) : TO := fun σ H Q => ∃ (O : Addr → Prop) (ρ : Rho) (K : Option Int → Rho → Prop), Rel Z O ρ σ H ∧ w ρ K ∧ ∀ b ρ' H', K b ρ' → Rel Z O ρ' σ H' → Est ρ σ H ρ' H' → Q b H'
@[simp] def oNone : WO := fun ρ K => K none ρ
@[simp] def oSome (w : WE) : WO := fun ρ K => w ρ fun r ρ1 => match r with
  | .d (.int i) => K (some i) ρ1
  | _ => False
theorem do_none : PO X none (tMO Z oNone) := ⟨fun pins s σ H Q I ⟨O, ρ, K, R, h, q⟩ => po_none.run pins s σ H Q I (q _ _ _ h R Est.refl)⟩
theorem do_some {e : Expr} {w : WE} (h : DE Z X e w) : PO X (some e) (tMO Z (oSome w)) := ⟨fun pins s σ H Q I ⟨O, ρ, K, R, hw, q⟩ => (po_some h).run pins s σ H Q I ⟨O, ρ, _, R, hw, fun r ρ' v H' hk R' st ok => by
  match r, hk with
  | .d (.int i), hk =>
    have ok : Is Z _ v (.int i) := ok.1
    cases ok
    exact ⟨i, rfl, q _ _ _ hk R' st⟩⟩⟩
def cutD (ds : List PD) (lo hi : Option Int) : List PD := (ds.drop (HT.sIx ds.length 0 lo)).take (HT.sIx ds.length ds.length hi - HT.sIx ds.length 0 lo)
@[simp] def slB (b : BV) (lo hi : Option Int) (K : RV → Prop) : Prop := match b with
  | .d (.list ds) => K (.m (.lst (cutD ds lo hi)))
  | .m (.lst ds) => K (.m (.lst (cutD ds lo hi)))
  | .d (.tuple ds) => K (.d (.tuple (cutD ds lo hi)))
  | _ => False
def rDS (Z : Zz) : V → Option Int → Option Int → Hp → VK → Prop := fun x lo hi H Q => ∃ (U : Addr → Prop) (b : BV) (K : RV → Prop), (∀ a, U a → H a ≠ none) ∧ BvOk Z U H x b ∧ slB b lo hi K ∧ ∀ r v H', K r → Same H H' → NvOk Z U H H' v r → Q v H'
theorem cut_is {Z : Zz} {H : Hp} {vs : List V} {ds : List PD} {lo hi : Option Int} (h : IsAll Z H vs ds) : IsAll Z H (cutV vs lo hi) (cutD ds lo hi) := by
  unfold cutV cutD
  rw [h.len]
  exact (h.drop _).take _
theorem cut_whole {ds : List PD} {lo hi : Option Int} (h : HT.sIx ds.length 0 lo = 0 ∧ HT.sIx ds.length ds.length hi = ds.length) : cutD ds lo hi = ds := by
  unfold cutD
  rw [h.1, h.2, List.drop_zero, Nat.sub_zero, List.take_length]
theorem sl_D (hK : X.K = Z.K := by rfl) : SlR X (rDS Z) := by
  intro pins s σ H x v vl vu lo hi sl Q I rx hs pl pu ⟨U, b, K, hU, h1, hB, q⟩
  have lst : ∀ ds, lstB b = some ds → K (.m (.lst (cutD ds lo hi))) → ∃ T id, typeLookup (.type T) "__getitem__" = pure (some (.builtin id)) ∧ s.TypeIs v T ∧ wpAny (model X.prog X.w) X.A (getItem v (.ref sl)) (EP X pins σ Q) X.xe s := fun ds e hk => by
    obtain ⟨a, us, rfl, sa, ha⟩ := lstB_ok h1 e
    exact sl_list pins s σ H _ v vl vu lo hi sl Q I rx hs pl pu ⟨a, us, rfl, by rw [hK]; exact sa.sq, fun p np => q _ _ _ hk (same_upd np) (nv_lst np (cut_is ha))⟩
  unfold slB at hB
  split at hB
  · exact lst _ rfl hB
  · exact lst _ rfl hB
  · rename_i ds
    have h1 : Is Z _ x (.tuple ds) := h1
    cases h1 with
    | @tup a us _ sa ha =>
      refine sl_tupA pins s σ H _ v vl vu lo hi sl Q I rx hs pl pu ⟨a, us, rfl, by rw [hK]; exact sqT_sub hide_same sa, fun w => ?_, fun _ p np => ?_⟩
      · rw [ha.len] at w
        rw [cut_whole w] at hB
        exact q _ _ _ hB (Same.refl _) (Is.tup sa ha)
      · exact q _ _ _ hB (same_upd np) (nv_tup hU np (cut_is ha))
  · exact hB.elim
@[simp] def dSl (w : WE) (l h : WO) : WE := fun ρ K => w ρ fun r ρ1 => l ρ1 fun lo ρ2 => h ρ2 fun hi ρ3 => lk r ρ3 fun b => slB b lo hi fun r => K r ρ3
theorem de_sl {e : Expr} {lo hi : Option Expr} {w : WE} {wl wh : WO} {pos p2 : Pos} (he : DE Z X e w) (hl : PO X lo (tMO Z wl)) (hh : PO X hi (tMO Z wh)) (hK : X.K = Z.K := by rfl) : DE Z X (.Subscript e (.Slice lo hi none p2) pos) (dSl w wl wh) :=
  PEweak (pe_slice (sl_D hK) he hl hh) fun σ H Q ⟨O, ρ, K, R, hw, q⟩ => ⟨O, ρ, _, R, hw, fun r ρ1 v1 H1 hk1 R1 s1 ok1 => ⟨O, ρ1, _, R1, hk1, fun lo ρ2 H2 hk2 R2 s2 => ⟨O, ρ2, _, R2, hk2, fun hi ρ3 H3 hk3 R3 s3 => by
    obtain ⟨b, e, hB⟩ := lk_res hk3
    have s13 := s2.trans s3
    exact ⟨Hid O ρ3 σ, b, _, fun a => R3.hidThere, (ok1.1.step R s1 s13).look R3 e, hB, fun r v H' hk sm nv => q r ρ3 v H' hk (R3.grow sm) ((s1.trans s13).trans (Est.grow sm)) (nv_f R3 sm nv (s1.trans s13).dom)⟩⟩⟩⟩
/-! ### built-ins -/
theorem vals_b1 {U : Addr → Prop} {H : Hp} {vs : List V} {b : BV} (h : BvsOk Z U H vs [b]) : ∃ v, vs = [v] ∧ BvOk Z U H v b := by
  match vs, h with
  | [v], ⟨h, _⟩ => exact ⟨v, rfl, h⟩
theorem vals_b2 {U : Addr → Prop} {H : Hp} {vs : List V} {b c : BV} (h : BvsOk Z U H vs [b, c]) : ∃ v u, vs = [v, u] ∧ BvOk Z U H v b ∧ BvOk Z U H u c := by
  match vs, h with
  | [v, u], ⟨h, h2, _⟩ => exact ⟨v, u, rfl, h, h2⟩
@[simp] def lenB : BC := fun bs K => match bs with
  | [.d (.str y)] => y.length ≤ sizeLine ∧ K (.d (.int y.length))
  | [.d (.list ds)] => K (.d (.int ds.length))
  | [.d (.tuple ds)] => K (.d (.int ds.length))
  | [.m (.lst ds)] => K (.d (.int ds.length))
  | _ => False
theorem c_len (hK : X.K = Z.K := by rfl) : CallR X (.builtin "len") (rDC Z lenB) := by
  intro pins s σ H vs us Q I rv ⟨U, bs, K, hU, hb, hB, q⟩
  have seq : ∀ b ds, bs = [b] → seqB b = some ds → K (.d (.int ds.length)) → wpAny (model X.prog X.w) X.A (call (.builtin "len") us) (EP X pins σ Q) X.xe s := fun b ds e e2 hk => by
    subst e
    obtain ⟨v, rfl, h1⟩ := vals_b1 hb
    obtain ⟨a, ws, rfl, sa, ha⟩ := seqB_ok h1 e2
    exact call_len_seq pins s σ H _ us Q I rv ⟨a, ws, rfl, by rw [hK]; exact sqL_of_or sa, by rw [ha.len]; exact q _ _ _ hk (Same.refl _) (Is.int _)⟩
  unfold lenB at hB
  split at hB
  · rename_i y
    obtain ⟨v, rfl, h1⟩ := vals_b1 hb
    have h1 : Is Z _ v (.str y) := h1
    cases h1
    exact call_len_str pins s σ H _ us Q I rv ⟨y, rfl, hB.1, q _ _ _ hB.2 (Same.refl _) (Is.int _)⟩
  · exact seq _ _ rfl rfl hB
  · exact seq _ _ rfl rfl hB
  · exact seq _ _ rfl rfl hB
  · exact hB.elim
/-- tuple(x) -/
@[simp] def tupB : BC := fun bs K => match bs with
  | [b] => match seqB b with
    | some ds => K (.d (.tuple ds))
    | none => False
  | _ => False
theorem c_tup (hK : X.K = Z.K := by rfl) : CallR X (.type "tuple") (rDC Z tupB) := by
  intro pins s σ H vs us Q I rv ⟨U, bs, K, hU, hb, hB, q⟩
  unfold tupB at hB
  split at hB
  · rename_i b
    obtain ⟨v, rfl, h1⟩ := vals_b1 hb
    split at hB
    · rename_i ds e
      match b, e with
      | .d (.tuple es), e =>
        cases e
        have h1 : Is Z _ v (.tuple ds) := h1
        cases h1 with
        | @tup a ws _ sa ha => exact call_tuple_of pins s σ H _ us Q I rv ⟨a, ws, rfl, .inr ⟨by rw [hK]; exact sqT_sub hide_same sa, q _ _ _ hB (Same.refl _) (Is.tup sa ha)⟩⟩
      | .d (.list es), e =>
        obtain ⟨a, ws, rfl, sa, ha⟩ := lstB_ok (ds := ds) h1 e
        exact call_tuple_of pins s σ H _ us Q I rv ⟨a, ws, rfl, .inl ⟨by rw [hK]; exact sa.sq, fun l nl => q _ _ _ hB (same_upd nl) (nv_tup hU nl ha)⟩⟩
      | .m (.lst es), e =>
        obtain ⟨a, ws, rfl, sa, ha⟩ := lstB_ok (ds := ds) h1 e
        exact call_tuple_of pins s σ H _ us Q I rv ⟨a, ws, rfl, .inl ⟨by rw [hK]; exact sa.sq, fun l nl => q _ _ _ hB (same_upd nl) (nv_tup hU nl ha)⟩⟩
    · exact hB.elim
  · exact hB.elim
/-- list(x) -/
@[simp] def lisB : BC := fun bs K => match bs with
  | [b] => match seqB b with
    | some ds => K (.m (.lst ds))
    | none => False
  | _ => False
theorem c_lis (hK : X.K = Z.K := by rfl) : CallR X (.type "list") (rDC Z lisB) := by
  intro pins s σ H vs us Q I rv ⟨U, bs, K, hU, hb, hB, q⟩
  unfold lisB at hB
  split at hB
  · rename_i b
    obtain ⟨v, rfl, h1⟩ := vals_b1 hb
    split at hB
    · rename_i ds e
      obtain ⟨a, ws, rfl, sa, ha⟩ := seqB_ok (ds := ds) h1 e
      exact call_list_of pins s σ H _ us Q I rv ⟨a, ws, rfl, by rw [hK]; exact sqL_of_or sa, fun l nl => q _ _ _ hB (same_upd nl) (nv_lst nl ha)⟩
    · exact hB.elim
  · exact hB.elim
/-- all(xs), any(xs): bools -/
def blsD : List PD → Option (List Bool)
  | [] => some []
  | .bool b :: ds => match blsD ds with
    | some bs => some (b :: bs)
    | none => none
  | _ :: _ => none
theorem blsD_eq : ∀ {ds : List PD} {bs : List Bool}, blsD ds = some bs → ds = bs.map PyData.bool
  | [], _, e => by cases e; rfl
  | .bool b :: ds, bs, e => by
    unfold blsD at e
    split at e
    · rename_i cs e1
      cases e
      rw [List.map_cons, ← blsD_eq e1]
    · cases e
theorem blsD_map : ∀ bs : List Bool, blsD (bs.map PyData.bool) = some bs
  | [] => rfl
  | b :: bs => by
    show (match blsD (bs.map PyData.bool) with | some cs => some (b :: cs) | none => none) = _
    rw [blsD_map bs]
@[simp] def allB (f : List Bool → Bool) : BC := fun bs K => match bs with
  | [b] => match lstB b with
    | some ds => match blsD ds with
      | some cs => K (.d (.bool (f cs)))
      | none => False
    | none => False
  | _ => False
theorem allB_of {f : List Bool → Bool} {bs : List BV} {K : RV → Prop} (h : allB f bs K) : ∃ b cs, bs = [b] ∧ lstB b = some (cs.map PyData.bool) ∧ K (.d (.bool (f cs))) := by
  unfold allB at h
  split at h
  · split at h
    · rename_i ds e
      split at h
      · rename_i cs e2
        exact ⟨_, cs, rfl, by rw [e, blsD_eq e2], h⟩
      · exact h.elim
    · exact h.elim
  · exact h.elim
theorem c_all (hc : X.calm = true := by rfl) (hK : X.K = Z.K := by rfl) : CallR X (.builtin "all") (rDC Z (allB fun cs => cs.all id)) := by
  intro pins s σ H vs us Q I rv ⟨U, bs, K, hU, hb, hB, q⟩
  obtain ⟨b, cs, rfl, e, hk⟩ := allB_of hB
  obtain ⟨v, rfl, h1⟩ := vals_b1 hb
  obtain ⟨a, ws, rfl, sa, ha⟩ := lstB_ok h1 e
  rw [isAll_bls ha] at sa
  exact cr_all hc pins s σ H _ us Q I rv ⟨a, cs, rfl, by rw [hK]; exact sa.sq, q _ _ _ hk (Same.refl _) (Is.bl _)⟩
theorem c_any (hc : X.calm = true := by rfl) (hK : X.K = Z.K := by rfl) : CallR X (.builtin "any") (rDC Z (allB fun cs => cs.any id)) := by
  intro pins s σ H vs us Q I rv ⟨U, bs, K, hU, hb, hB, q⟩
  obtain ⟨b, cs, rfl, e, hk⟩ := allB_of hB
  obtain ⟨v, rfl, h1⟩ := vals_b1 hb
  obtain ⟨a, ws, rfl, sa, ha⟩ := lstB_ok h1 e
  rw [isAll_bls ha] at sa
  exact cr_any hc pins s σ H _ us Q I rv ⟨a, cs, rfl, by rw [hK]; exact sa.sq, q _ _ _ hk (Same.refl _) (Is.bl _)⟩
/-- sorted(x) -/
def srtD (ds : List PD) : List PD := ds.mergeSort (dataLe false id)
def okSrt (ds : List PD) : Prop := AllAlike ds ∧ Sortable ds ∧ (∀ d ∈ ds, d.depth ≤ 50) ∧ ∀ d ∈ ds, d.hasDict = false
@[simp] def srtB : BC := fun bs K => match bs with
  | [b] => match seqB b with
    | some ds => okSrt ds ∧ K (.m (.lst (srtD ds)))
    | none => False
  | _ => False
theorem ord_srt (bs : List (V × PD)) : (ordD bs).map (·.2) = srtD (bs.map (·.2)) := sort_maps (fun b : V × PD => b.2) (r := dataLe false fun b : V × PD => b.2) (s := dataLe false id) fun _ _ _ _ => rfl
theorem c_srtD (hu : X.A.units + 64 < cLine) (hK : X.K = Z.K := by rfl) : CallR X (.builtin "sorted") (rDC Z srtB) := by
  intro pins s σ H vs us Q I rv ⟨U, bs, K, hU, hb, hB, q⟩
  unfold srtB at hB
  split at hB
  · rename_i b
    obtain ⟨v, rfl, h1⟩ := vals_b1 hb
    split at hB
    · rename_i ds e
      obtain ⟨⟨k1, k2, k3, k4⟩, hk⟩ := hB
      obtain ⟨a, ws, rfl, sa, ha⟩ := seqB_ok (ds := ds) h1 e
      obtain ⟨ps, rfl, rfl, hp⟩ := ha.pairs
      refine cr_srt hu pins s σ H _ us Q I rv ⟨a, ps, rfl, by rw [hK]; exact sqL_of_or sa, fun p hm => ?_, k1, k2, fun p hm => k3 _ (List.mem_map.mpr ⟨p, hm, rfl⟩), fun p np => ?_⟩
      · rw [hK]
        exact Is.dp p.2 p.1 (k4 _ (List.mem_map.mpr ⟨p, hm, rfl⟩)) ((hp p hm).to hide_same)
      · refine q _ _ _ hk (same_upd np) ?_
        rw [← ord_srt]
        exact nv_lst np (isAll_of fun p hm => hp p (List.mem_mergeSort.mp hm))
    · exact hB.elim
  · exact hB.elim
/-- min(a, b), max(a, b) -/
@[simp] def mm2B (f : Int → Int → Int) : BC := fun bs K => match bs with
  | [.d (.int i), .d (.int j)] => K (.d (.int (f i j)))
  | _ => False
theorem mm2B_of {f : Int → Int → Int} {bs : List BV} {K : RV → Prop} (h : mm2B f bs K) : ∃ i j, bs = [.d (.int i), .d (.int j)] ∧ K (.d (.int (f i j))) := by
  unfold mm2B at h
  split at h
  · exact ⟨_, _, rfl, h⟩
  · exact h.elim
abbrev max2B : BC := mm2B fun i j => if j > i then j else i
abbrev min2B : BC := mm2B fun i j => if j < i then j else i
theorem c_max2 (hc : X.calm = true := by rfl) : CallR X (.builtin "max") (rDC Z max2B) := by
  intro pins s σ H vs us Q I rv ⟨U, bs, K, hU, hb, hB, q⟩
  obtain ⟨i, j, rfl, hk⟩ := mm2B_of hB
  obtain ⟨v, u, rfl, h1, h2⟩ := vals_b2 hb
  have h1 : Is Z _ v (.int i) := h1
  have h2 : Is Z _ u (.int j) := h2
  cases h1
  cases h2
  exact call_max2 hc pins s σ H _ us Q I rv ⟨i, j, rfl, q _ _ _ hk (Same.refl _) (Is.int _)⟩
theorem c_min2 (hc : X.calm = true := by rfl) : CallR X (.builtin "min") (rDC Z min2B) := by
  intro pins s σ H vs us Q I rv ⟨U, bs, K, hU, hb, hB, q⟩
  obtain ⟨i, j, rfl, hk⟩ := mm2B_of hB
  obtain ⟨v, u, rfl, h1, h2⟩ := vals_b2 hb
  have h1 : Is Z _ v (.int i) := h1
  have h2 : Is Z _ u (.int j) := h2
  cases h1
  cases h2
  exact call_min2 hc pins s σ H _ us Q I rv ⟨i, j, rfl, q _ _ _ hk (Same.refl _) (Is.int _)⟩
/-- max(xs), min(xs), sum(xs): ints -/
def intD : List PD → Option (List Int)
  | [] => some []
  | .int b :: ds => match intD ds with
    | some bs => some (b :: bs)
    | none => none
  | _ :: _ => none
theorem intD_eq : ∀ {ds : List PD} {bs : List Int}, intD ds = some bs → ds = bs.map PyData.int
  | [], _, e => by cases e; rfl
  | .int b :: ds, bs, e => by
    unfold intD at e
    split at e
    · rename_i cs e1
      cases e
      rw [List.map_cons, ← intD_eq e1]
    · cases e
theorem intD_map : ∀ bs : List Int, intD (bs.map PyData.int) = some bs
  | [] => rfl
  | b :: bs => by
    show (match intD (bs.map PyData.int) with | some cs => some (b :: cs) | none => none) = _
    rw [intD_map bs]
@[simp] def nsB (f : List Int → (Int → Prop) → Prop) : BC := fun bs K => match bs with
  | [b] => match lstB b with
    | some ds => match intD ds with
      | some ns => f ns fun n => K (.d (.int n))
      | none => False
    | none => False
  | _ => False
theorem nsB_of {f : List Int → (Int → Prop) → Prop} {bs : List BV} {K : RV → Prop} (h : nsB f bs K) : ∃ b ns, bs = [b] ∧ lstB b = some (ns.map PyData.int) ∧ f ns fun n => K (.d (.int n)) := by
  unfold nsB at h
  split at h
  · split at h
    · rename_i ds e
      split at h
      · rename_i cs e2
        exact ⟨_, cs, rfl, by rw [e, intD_eq e2], h⟩
      · exact h.elim
    · exact h.elim
  · exact h.elim
abbrev maxB : BC := nsB fun ns k => 0 < ns.length ∧ ∀ m, m ∈ ns → (∀ y, y ∈ ns → y ≤ m) → k m
abbrev minB : BC := nsB fun ns k => 0 < ns.length ∧ ∀ m, m ∈ ns → (∀ y, y ∈ ns → m ≤ y) → k m
abbrev sumB : BC := nsB fun ns k => k ns.sum
theorem c_max (hc : X.calm = true := by rfl) (hK : X.K = Z.K := by rfl) : CallR X (.builtin "max") (rDC Z maxB) := by
  intro pins s σ H vs us Q I rv ⟨U, bs, K, hU, hb, hB, q⟩
  obtain ⟨b, ns, rfl, e, h0, hk⟩ := nsB_of hB
  obtain ⟨v, rfl, h1⟩ := vals_b1 hb
  obtain ⟨a, ws, rfl, sa, ha⟩ := lstB_ok h1 e
  rw [isAll_ints ha] at sa
  exact cr_max hc pins s σ H _ us Q I rv ⟨a, ns, rfl, by rw [hK]; exact sa.sq, h0, fun m h1 h2 => q _ _ _ (hk m h1 h2) (Same.refl _) (Is.int _)⟩
theorem c_min (hc : X.calm = true := by rfl) (hK : X.K = Z.K := by rfl) : CallR X (.builtin "min") (rDC Z minB) := by
  intro pins s σ H vs us Q I rv ⟨U, bs, K, hU, hb, hB, q⟩
  obtain ⟨b, ns, rfl, e, h0, hk⟩ := nsB_of hB
  obtain ⟨v, rfl, h1⟩ := vals_b1 hb
  obtain ⟨a, ws, rfl, sa, ha⟩ := lstB_ok h1 e
  rw [isAll_ints ha] at sa
  exact cr_min hc pins s σ H _ us Q I rv ⟨a, ns, rfl, by rw [hK]; exact sa.sq, h0, fun m h1 h2 => q _ _ _ (hk m h1 h2) (Same.refl _) (Is.int _)⟩
theorem c_sum (hc : X.calm = true := by rfl) (hK : X.K = Z.K := by rfl) : CallR X (.builtin "sum") (rDC Z sumB) := by
  intro pins s σ H vs us Q I rv ⟨U, bs, K, hU, hb, hB, q⟩
  obtain ⟨b, ns, rfl, e, hk⟩ := nsB_of hB
  obtain ⟨v, rfl, h1⟩ := vals_b1 hb
  obtain ⟨a, ws, rfl, sa, ha⟩ := lstB_ok h1 e
  rw [isAll_ints ha] at sa
  exact cr_sum hc pins s σ H _ us Q I rv ⟨a, ns, rfl, by rw [hK]; exact sa.sq, q _ _ _ hk (Same.refl _) (Is.int _)⟩
end
end Dd

/-! Statements by data. -/
namespace Dd
open PySem PySem.Spec PyProof.Rows L2 PySem.W Cb
/-- what is wanted behind a statement -/
structure EndsD where
  nx : Rho → Prop
  rt : RV → Rho → Prop
  bk : Rho → Prop := fun _ => False
  ct : Rho → Prop := fun _ => False
abbrev WS := EndsD → Rho → Prop
/-- a slot that may be set -/
@[simp] def okSlot (ρ : Rho) (i : Nat) : Prop := match ρ[i]? with
  | some .un => True
  | some (.val _) => True
  | some (.mut true false _) => True
  | _ => False
/-- the address is new, or it was an object of one's own -/
def NewA (ρ : Rho) (σ : Stt) (H : Hp) (a : Addr) : Prop := H a = none ∨ ∃ (i : Nat) (l : Bool) (m : MO), ρ[i]? = some (Sl.mut true l m) ∧ At σ i a
def RtOk (Z : Zz) (O : Addr → Prop) (ρ : Rho) (σ : Stt) (H : Hp) (ρ' : Rho) (σ' : Stt) (H' : Hp) (v : V) : RV → Prop
  | .d d => Is Z (hide O H') v d
  | .m mo => ∃ a, v = .ref a ∧ NewA ρ σ H a ∧ ¬ O a ∧ ObM Z (hide (fun b => O b ∨ b = a) H') H' a mo ∧ Rel Z (fun b => O b ∨ b = a) ρ' σ' H'
  | .s _ => False
structure EndOk (Z : Zz) (O : Addr → Prop) (ρ : Rho) (σ : Stt) (H : Hp) (E : EndsD) (D : Ends) : Prop where
  nx : ∀ ρ' σ' H', E.nx ρ' → Rel Z O ρ' σ' H' → Stp ρ σ H ρ' σ' H' → D.nx σ' H'
  bk : ∀ ρ' σ' H', E.bk ρ' → Rel Z O ρ' σ' H' → Stp ρ σ H ρ' σ' H' → D.bk σ' H'
  ct : ∀ ρ' σ' H', E.ct ρ' → Rel Z O ρ' σ' H' → Stp ρ σ H ρ' σ' H' → D.ct σ' H'
  rt : ∀ r ρ' v σ' H', E.rt r ρ' → Rel Z O ρ' σ' H' → Stp ρ σ H ρ' σ' H' → RtOk Z O ρ σ H ρ' σ' H' v r → D.rt v H'
def tS (Z : Zz) (w : WS) : TS := fun D σ H => ∃ (O : Addr → Prop) (ρ : Rho) (E : EndsD), Rel Z O ρ σ H ∧ w E ρ ∧ EndOk Z O ρ σ H E D
abbrev DS (Z : Zz) (X : Cx) (s : Stmt) (w : WS) : Prop := PS X s (tS Z w)
abbrev DSs (Z : Zz) (X : Cx) (s : List Stmt) (w : WS) : Prop := PSs X s (tS Z w)
theorem PSweak {X : Cx} {s : Stmt} {t t' : TS} (h : PS X s t) (k : ∀ D σ H, t' D σ H → t D σ H) : PS X s t' := ⟨fun pins s σ H D I z => h.run pins s σ H D I (k D σ H z)⟩
theorem PSsweak {X : Cx} {s : List Stmt} {t t' : TS} (h : PSs X s t) (k : ∀ D σ H, t' D σ H → t D σ H) : PSs X s t' := ⟨fun pins s σ H D I z => h.run pins s σ H D I (k D σ H z)⟩
section
variable {Z : Zz} {O : Addr → Prop} {ρ ρ1 ρ' : Rho} {σ σ1 σ' : Stt} {H H1 H' : Hp} {E : EndsD} {D : Ends} {v : V} {i : Nat}
theorem NewA.back (s : Stp ρ σ H ρ1 σ1 H1) {a : Addr} (h : NewA ρ1 σ1 H1 a) : NewA ρ σ H a := by
  rcases h with h | ⟨i, l, m, h1, h2⟩
  · exact .inl (Classical.byContradiction fun z => s.dom a z h)
  · rcases s.own i true l m a h1 h2 with ⟨m2, h3, h4⟩ | ⟨_, _, h3⟩
    · exact .inr ⟨i, l, m2, h3, h4⟩
    · exact .inl h3
theorem RtOk.back (s : Stp ρ σ H ρ1 σ1 H1) : ∀ {r : RV}, RtOk Z O ρ1 σ1 H1 ρ' σ' H' v r → RtOk Z O ρ σ H ρ' σ' H' v r
  | .d _, h => h
  | .m _, ⟨a, e, n, no, h, R⟩ => ⟨a, e, n.back s, no, h, R⟩
  | .s _, h => h
theorem EndOk.step (s : Stp ρ σ H ρ1 σ1 H1) (h : EndOk Z O ρ σ H E D) : EndOk Z O ρ1 σ1 H1 E D :=
  ⟨fun ρ' σ' H' e R t => h.nx ρ' σ' H' e R (s.trans t), fun ρ' σ' H' e R t => h.bk ρ' σ' H' e R (s.trans t), fun ρ' σ' H' e R t => h.ct ρ' σ' H' e R (s.trans t), fun r ρ' v σ' H' e R t ok => h.rt r ρ' v σ' H' e R (s.trans t) (ok.back s)⟩
theorem okSlot.of (h : okSlot ρ i) : i < ρ.length ∧ ∀ (o l : Bool) (m : MO), ρ[i]? = some (Sl.mut o l m) → o = true ∧ l = false := by
  unfold okSlot at h
  split at h
  · rename_i e; exact ⟨(List.getElem?_eq_some_iff.mp e).1, fun o l m z => by rw [e] at z; cases z⟩
  · rename_i e; exact ⟨(List.getElem?_eq_some_iff.mp e).1, fun o l m z => by rw [e] at z; cases z⟩
  · rename_i e; exact ⟨(List.getElem?_eq_some_iff.mp e).1, fun o l m z => by rw [e] at z; cases z; exact ⟨rfl, rfl⟩⟩
  · exact h.elim
theorem at_set {j : Nat} {x : Option V} {b : Addr} (n : i ≠ j) : At (σ.set i x) j b ↔ At σ j b := by
  unfold At
  rw [List.getElem?_set_ne n]
/-- a name takes data -/
theorem set_val (R : Rel Z O ρ σ H) (hi : okSlot ρ i) {d : PD} (h : Is Z (hide (Hid O ρ σ) H) v d) : Rel Z O (ρ.set i (.val d)) (σ.set i (some v)) H ∧ Stp ρ σ H (ρ.set i (.val d)) (σ.set i (some v)) H := by
  obtain ⟨il, free⟩ := hi.of
  have back : ∀ {j : Nat} {o l : Bool} {m : MO}, (ρ.set i (.val d))[j]? = some (Sl.mut o l m) → i ≠ j ∧ ρ[j]? = some (Sl.mut o l m) := fun {j o l m} h => by
    by_cases e : i = j
    · subst e
      rw [List.getElem?_set_self il] at h
      cases h
    · rw [List.getElem?_set_ne e] at h
      exact ⟨e, h⟩
  have sm : Same (hide (Hid O ρ σ) H) (hide (Hid O (ρ.set i (.val d)) (σ.set i (some v))) H) := hide_less fun b z => by
    rcases z with z | ⟨j, o, l, m, h1, h2⟩
    · exact .inl z
    · obtain ⟨n, h3⟩ := back h1
      exact .inr ⟨j, o, l, m, h3, (at_set n).mp h2⟩
  refine ⟨⟨by rw [List.length_set, List.length_set]; exact R.len, fun j e hj => ?_, fun j o l m hj => ?_, fun j k o o' l l' m m' b h1 h2 h3 h4 => ?_, R.odom⟩, fun _ _ _ e => e, fun _ h => h, fun j o l m b h1 h2 => ?_, fun j o l m hj hol => ?_⟩
  · by_cases q : i = j
    · subst q
      rw [List.getElem?_set_self il] at hj
      cases hj
      exact ⟨v, by rw [List.getElem?_set_self (by rw [← R.len]; exact il)], h.to sm⟩
    · rw [List.getElem?_set_ne q] at hj
      obtain ⟨u, h1, h2⟩ := R.vals _ _ hj
      exact ⟨u, by rw [List.getElem?_set_ne q]; exact h1, h2.to sm⟩
  · obtain ⟨n, h3⟩ := back hj
    obtain ⟨b, h4, h5, h6⟩ := R.muts _ _ _ _ h3
    exact ⟨b, (at_set n).mpr h4, h5, h6.to sm fun _ e => e⟩
  · obtain ⟨n1, g1⟩ := back h1
    obtain ⟨n2, g2⟩ := back h2
    exact R.apart j k _ _ _ _ _ _ b g1 g2 ((at_set n1).mp h3) ((at_set n2).mp h4)
  · obtain ⟨n, h3⟩ := back h1
    exact .inl ⟨m, h3, (at_set n).mp h2⟩
  · have n : i ≠ j := fun e => by
      subst e
      obtain ⟨z1, z2⟩ := free _ _ _ hj
      rcases hol with z | z
      · rw [z1] at z; cases z
      · rw [z2] at z; cases z
    exact ⟨List.getElem?_set_ne n, m, by rw [List.getElem?_set_ne n]; exact hj, fun _ => rfl⟩
/-- a name takes a new object -/
theorem set_own {a : Addr} {mo : MO} {ρ0 : Rho} {σ0 : Stt} {H0 : Hp} (Rx : Rel Z (fun b => O b ∨ b = a) ρ σ H) (nh : ¬ Hid O ρ σ a) (ob : ObM Z (hide (Hid (fun b => O b ∨ b = a) ρ σ) H) H a mo) (hi : okSlot ρ i) (s : Stp ρ0 σ0 H0 ρ σ H) (na : H0 a = none) :
    Rel Z O (ρ.set i (.mut true false mo)) (σ.set i (some (.ref a))) H ∧ Stp ρ0 σ0 H0 (ρ.set i (.mut true false mo)) (σ.set i (some (.ref a))) H := by
  obtain ⟨il, free⟩ := hi.of
  have il2 : i < σ.length := by rw [← Rx.len]; exact il
  have back : ∀ {j : Nat} {o l : Bool} {m : MO}, (ρ.set i (.mut true false mo))[j]? = some (Sl.mut o l m) → (i = j ∧ o = true ∧ l = false ∧ m = mo) ∨ (i ≠ j ∧ ρ[j]? = some (Sl.mut o l m)) := fun {j o l m} h => by
    by_cases e : i = j
    · subst e
      rw [List.getElem?_set_self il] at h
      cases h
      exact .inl ⟨rfl, rfl, rfl, rfl⟩
    · rw [List.getElem?_set_ne e] at h
      exact .inr ⟨e, h⟩
  have ati : ∀ {b : Addr}, At (σ.set i (some (.ref a))) i b → b = a := fun {b} h => by
    unfold At at h
    rw [List.getElem?_set_self il2] at h
    cases h
    rfl
  have ata : At (σ.set i (some (.ref a))) i a := by
    unfold At
    rw [List.getElem?_set_self il2]
  have sm : Same (hide (Hid (fun b => O b ∨ b = a) ρ σ) H) (hide (Hid O (ρ.set i (.mut true false mo)) (σ.set i (some (.ref a)))) H) := hide_less fun b z => by
    rcases z with z | ⟨j, o, l, m, h1, h2⟩
    · exact .inl (.inl z)
    · rcases back h1 with ⟨e, _⟩ | ⟨n, h3⟩
      · subst e
        exact .inl (.inr (ati h2))
      · exact .inr ⟨j, o, l, m, h3, (at_set n).mp h2⟩
  refine ⟨⟨by rw [List.length_set, List.length_set]; exact Rx.len, fun j e hj => ?_, fun j o l m hj => ?_, fun j k o o' l l' m m' b h1 h2 h3 h4 => ?_, fun b hb => Rx.odom b (.inl hb)⟩, s.keep, s.dom, fun j o l m b h1 h2 => ?_, fun j o l m hj hol => ?_⟩
  · by_cases q : i = j
    · subst q
      rw [List.getElem?_set_self il] at hj
      cases hj
    · rw [List.getElem?_set_ne q] at hj
      obtain ⟨u, h1, h2⟩ := Rx.vals _ _ hj
      exact ⟨u, by rw [List.getElem?_set_ne q]; exact h1, h2.to sm⟩
  · rcases back hj with ⟨rfl, rfl, rfl, rfl⟩ | ⟨n, h3⟩
    · exact ⟨a, ata, ⟨fun z => (nh (.inl z)).elim, fun z => by cases z⟩, ob.to sm fun _ e => e⟩
    · obtain ⟨b, h4, h5, h6⟩ := Rx.muts _ _ _ _ h3
      refine ⟨b, (at_set n).mpr h4, ⟨fun z => h5.mp (.inl z), fun z => (h5.mpr z).elim id fun z => ?_⟩, h6.to sm fun _ e => e⟩
      subst z
      exact (nh (.inr ⟨j, o, l, m, h3, h4⟩)).elim
  · rcases back h1 with ⟨rfl, _⟩ | ⟨n1, g1⟩
    · rcases back h2 with ⟨e, _⟩ | ⟨n2, g2⟩
      · exact e
      · cases ati h3
        exact (nh (.inr ⟨k, _, _, _, g2, (at_set n2).mp h4⟩)).elim
    · rcases back h2 with ⟨rfl, _⟩ | ⟨n2, g2⟩
      · cases ati h4
        exact (nh (.inr ⟨j, _, _, _, g1, (at_set n1).mp h3⟩)).elim
      · exact Rx.apart j k _ _ _ _ _ _ b g1 g2 ((at_set n1).mp h3) ((at_set n2).mp h4)
  · rcases back h1 with ⟨rfl, rfl, rfl, rfl⟩ | ⟨n, h3⟩
    · cases ati h2
      exact .inr ⟨rfl, rfl, na⟩
    · exact s.own j o l m b h3 ((at_set n).mp h2)
  · obtain ⟨e1, m1, h1, k1⟩ := s.hold j o l m hj hol
    have n : i ≠ j := fun e => by
      subst e
      obtain ⟨z1, z2⟩ := free _ _ _ h1
      rcases hol with z | z
      · rw [z1] at z; cases z
      · rw [z2] at z; cases z
    exact ⟨(List.getElem?_set_ne n).trans e1, m1, by rw [List.getElem?_set_ne n]; exact h1, k1⟩
end
section
variable {Z : Zz} {X : Cx}
/-- name = value -/
@[simp] def asg (i : Nat) (r : RV) (ρ : Rho) (k : Rho → Prop) : Prop := match r with
  | .d d => okSlot ρ i ∧ k (ρ.set i (.val d))
  | .m m => okSlot ρ i ∧ k (ρ.set i (.mut true false m))
  | .s j => toD (.s j) ρ fun d ρ' => okSlot ρ' i ∧ k (ρ'.set i (.val d))
theorem asg_ok {O : Addr → Prop} {ρ ρ1 : Rho} {σ : Stt} {H H1 : Hp} {v : V} {i : Nat} {k : Rho → Prop} (R1 : Rel Z O ρ1 σ H1) (s : Est ρ σ H ρ1 H1) : ∀ {r : RV}, RvF Z O ρ1 σ H H1 v r → asg i r ρ1 k → ∃ ρ2, k ρ2 ∧ Rel Z O ρ2 (σ.set i (some v)) H1 ∧ Stp ρ σ H ρ2 (σ.set i (some v)) H1
  | .d d, ok, ⟨hi, hk⟩ => by
    obtain ⟨h1, h2⟩ := set_val R1 hi ok.1
    exact ⟨_, hk, h1, s.toStp.trans h2⟩
  | .m m, ⟨⟨a, e, na, nh, ob⟩, x⟩, ⟨hi, hk⟩ => by
    subst e
    have ob' : ObM Z (hide (Hid (fun b => O b ∨ b = a) ρ1 σ) H1) H1 a m := ob.to (hide_less fun b z => by
      rcases z with (z | z) | z
      · exact .inl (.inl z)
      · exact .inr z
      · exact .inl (.inr z)) fun _ e => e
    obtain ⟨h1, h2⟩ := set_own (x a rfl) nh ob' hi s.toStp na
    exact ⟨_, hk, h1, h2⟩
  | .s j, ok, hk => by
    obtain ⟨d, ρ2, ⟨hi, hk2⟩, R2, s2, hd⟩ := toD_ok (K := fun d ρ' => okSlot ρ' i ∧ k (ρ'.set i (.val d))) R1 ok.1 hk
    obtain ⟨h1, h2⟩ := set_val R2 hi hd
    exact ⟨_, hk2, h1, (s.trans s2).toStp.trans h2⟩
@[simp] def sSet (i : Nat) (w : WE) : WS := fun E ρ => w ρ fun r ρ1 => asg i r ρ1 E.nx
theorem asg_end {i : Nat} {w : WE} {D : Ends} {σ : Stt} {H : Hp} (h : tS Z (sSet i w) D σ H) : tAsg (tM Z w) (gName i) D σ H := by
  obtain ⟨O, ρ, E, R, hw, e⟩ := h
  refine ⟨O, ρ, _, R, hw, fun r ρ1 v H1 hk R1 s ok => ?_⟩
  obtain ⟨ρ2, hk2, R2, s2⟩ := asg_ok R1 s ok hk
  exact e.nx _ _ _ hk2 R2 s2
theorem ds_set {i : Nat} {x : Str} {e : Expr} {w : WE} {pos pos' : Pos} (hN : X.N.Nodup) (hi : X.N[i]? = some x) (hx : Loc X.env.scope x) (he : DE Z X e w) (hs : swapsWith e (some (.Name x pos')) pos.line X.env = pure false := by rfl) (hf : X.fn x = true ∨ X.env.scope.names.lookup x = some .local := by first | exact .inl rfl | exact .inr rfl | assumption) :
    DS Z X (.Assign [.Name x pos'] e pos) (sSet i w) := PSweak (ps_set hN hi hx he hs hf) fun D σ H h => asg_end h
/-! ### blocks -/
@[simp] def sNil : WS := fun E ρ => E.nx ρ
@[simp] def sSeq (w u : WS) : WS := fun E ρ => w { E with nx := fun ρ1 => u E ρ1 } ρ
theorem dss_nil : DSs Z X [] sNil := PSsweak pss_nil fun D σ H ⟨O, ρ, E, R, h, e⟩ => e.nx _ _ _ h R Stp.refl
theorem dss_cons {st : Stmt} {rest : List Stmt} {w u : WS} (h1 : DS Z X st w) (h2 : DSs Z X rest u) : DSs Z X (st :: rest) (sSeq w u) := PSsweak (pss_cons h1 h2) fun D σ H ⟨O, ρ, E, R, h, e⟩ =>
  ⟨O, ρ, _, R, h, fun ρ1 σ1 H1 hk R1 s => ⟨O, ρ1, E, R1, hk, e.step s⟩, e.bk, e.ct, e.rt⟩
theorem dss_one {st : Stmt} {w : WS} (h1 : DS Z X st w) : DSs Z X [st] w := pss_one h1
@[simp] def sPass : WS := fun E ρ => E.nx ρ
@[simp] def sBrk : WS := fun E ρ => E.bk ρ
@[simp] def sCnt : WS := fun E ρ => E.ct ρ
theorem ds_pass {pos} : DS Z X (.Pass pos) sPass := PSweak ps_pass fun D σ H ⟨O, ρ, E, R, h, e⟩ => e.nx _ _ _ h R Stp.refl
theorem ds_brk {pos} : DS Z X (.Break pos) sBrk := PSweak ps_break fun D σ H ⟨O, ρ, E, R, h, e⟩ => e.bk _ _ _ h R Stp.refl
theorem ds_cnt {pos} : DS Z X (.Continue pos) sCnt := PSweak ps_continue fun D σ H ⟨O, ρ, E, R, h, e⟩ => e.ct _ _ _ h R Stp.refl
/-- an expression, its value dropped -/
@[simp] def sExp (w : WE) : WS := fun E ρ => w ρ fun _ ρ1 => E.nx ρ1
theorem ds_exp {x : Expr} {w : WE} {pos : Pos} (h : DE Z X x w) (hs : swapsWith x none pos.line X.env = pure false := by rfl) : DS Z X (.Expr x pos) (sExp w) := PSweak (ps_expr h hs) fun D σ H ⟨O, ρ, E, R, hw, e⟩ =>
  ⟨O, ρ, _, R, hw, fun r ρ1 v H1 hk R1 s _ => e.nx _ _ _ hk R1 s.toStp⟩
def sNever : WS := fun _ _ => False
theorem ds_never {st : Stmt} : DS Z X st sNever := PSweak ps_never fun D σ H ⟨O, ρ, E, R, h, e⟩ => h.elim
theorem dss_never {st : List Stmt} : DSs Z X st sNever := PSsweak pss_never fun D σ H ⟨O, ρ, E, R, h, e⟩ => h.elim
/-- if -/
@[simp] def sIf (t : WT) (w u : WS) : WS := fun E ρ => t ρ fun b ρ1 => if b = true then w E ρ1 else u E ρ1
theorem ds_if {c : Expr} {a b : List Stmt} {t : WT} {w u : WS} {pos : Pos} (hc : DT Z X c t) (ha : DSs Z X a w) (hb : DSs Z X b u) : DS Z X (.If c a b pos) (sIf t w u) := PSweak (ps_if hc ha hb) fun D σ H ⟨O, ρ, E, R, h, e⟩ =>
  ⟨O, ρ, _, R, h, fun b ρ1 H1 hk R1 s => by
    cases b with
    | true => exact ⟨O, ρ1, E, R1, hk, e.step s.toStp⟩
    | false => exact ⟨O, ρ1, E, R1, hk, e.step s.toStp⟩⟩
/-- return -/
@[simp] def sRet (w : WE) : WS := fun E ρ => w ρ fun r ρ1 => match r with
  | .d d => E.rt (.d d) ρ1
  | .m m => E.rt (.m m) ρ1
  | .s i => match ρ1[i]? with
    | some (.val d) => E.rt (.d d) ρ1
    | some (.mut true false m) => E.rt (.m m) (ρ1.set i .un)
    | _ => False
theorem free_own {O : Addr → Prop} {ρ : Rho} {σ : Stt} {H : Hp} {i : Nat} {m : MO} {a : Addr} (R : Rel Z O ρ σ H) (hi : ρ[i]? = some (Sl.mut true false m)) (ha : At σ i a) :
    Rel Z O (ρ.set i .un) σ H ∧ Stp ρ σ H (ρ.set i .un) σ H ∧ Rel Z (fun b => O b ∨ b = a) (ρ.set i .un) σ H ∧ ¬ O a ∧ ObM Z (hide (fun b => O b ∨ b = a) H) H a m := by
  have il : i < ρ.length := (List.getElem?_eq_some_iff.mp hi).1
  have back : ∀ {j : Nat} {o l : Bool} {m : MO}, (ρ.set i .un)[j]? = some (Sl.mut o l m) → i ≠ j ∧ ρ[j]? = some (Sl.mut o l m) := fun {j o l m} h => by
    by_cases e : i = j
    · subst e
      rw [List.getElem?_set_self il] at h
      cases h
    · rw [List.getElem?_set_ne e] at h
      exact ⟨e, h⟩
  obtain ⟨a', h1, hO, hob⟩ := R.muts _ _ _ _ hi
  cases ha.inj h1
  have nO : ¬ O a := fun z => by cases hO.mp z
  have hidx : ∀ b, Hid (fun b => O b ∨ b = a) (ρ.set i .un) σ b → Hid O ρ σ b := fun b z => by
    rcases z with (z | z) | ⟨j, o, l, m, z1, z2⟩
    · exact .inl z
    · subst z
      exact .inr ⟨i, _, _, _, hi, ha⟩
    · exact .inr ⟨j, o, l, m, (back z1).2, z2⟩
  have smx : Same (hide (Hid O ρ σ) H) (hide (Hid (fun b => O b ∨ b = a) (ρ.set i .un) σ) H) := hide_less hidx
  have Rx : Rel Z (fun b => O b ∨ b = a) (ρ.set i .un) σ H := by
    refine ⟨by rw [List.length_set]; exact R.len, fun j d h => ?_, fun j o l m h => ?_, fun j k o o' l l' m m' b h1 h2 h3 h4 => R.apart j k _ _ _ _ _ _ b (back h1).2 (back h2).2 h3 h4, fun b z => ?_⟩
    · by_cases e : i = j
      · subst e
        rw [List.getElem?_set_self il] at h
        cases h
      · rw [List.getElem?_set_ne e] at h
        obtain ⟨v, h1, h2⟩ := R.vals _ _ h
        exact ⟨v, h1, h2.to smx⟩
    · obtain ⟨n, h3⟩ := back h
      obtain ⟨b, h4, h5, h6⟩ := R.muts _ _ _ _ h3
      refine ⟨b, h4, ⟨fun z => z.elim h5.mp fun z => ?_, fun z => .inl (h5.mpr z)⟩, h6.to smx fun _ e => e⟩
      subst z
      exact (n (R.apart i j _ _ _ _ _ _ b hi h3 ha h4)).elim
    · rcases z with z | z
      · exact R.odom b z
      · rw [z]
        exact hob.there
  refine ⟨Rel.drop (l := [a]) (by rw [OT_one]; exact Rx) (fun b hb z => ?_), ⟨fun _ _ _ e => e, fun _ h => h, fun j o l m b h1 h2 => .inl ⟨m, (back h1).2, h2⟩, fun j o l m hj hol => ?_⟩, Rx, nO, hob.to (hide_less fun b z => ?_) fun _ e => e⟩
  · rw [List.mem_singleton.mp hb] at z
    rcases z with z | ⟨j, o, l, m, z1, z2⟩
    · exact nO z
    · obtain ⟨n, h3⟩ := back z1
      exact n (R.apart i j _ _ _ _ _ _ a hi h3 ha z2)
  · have n : i ≠ j := fun e => by
      subst e
      rw [hi] at hj
      cases hj
      rcases hol with z | z <;> cases z
    exact ⟨rfl, m, by rw [List.getElem?_set_ne n]; exact hj, fun _ => rfl⟩
  · rcases z with z | z
    · exact .inl z
    · subst z
      exact .inr ⟨i, _, _, _, hi, ha⟩
theorem ds_ret {x : Expr} {w : WE} {pos : Pos} (h : DE Z X x w) : DS Z X (.Return (some x) pos) (sRet w) := PSweak (ps_ret h) fun D σ H ⟨O, ρ, E, R, hw, e⟩ =>
  ⟨O, ρ, _, R, hw, fun r ρ1 v H1 hk R1 s ok => by
    have toO : ∀ {d : PD}, Is Z (hide (Hid O ρ1 σ) H1) v d → Is Z (hide O H1) v d := fun h => h.to (hide_less fun b z => .inl z)
    match r, ok, hk with
    | .d d, ok, hk => exact e.rt _ _ _ _ _ hk R1 s.toStp (toO ok.1)
    | .m m, ⟨⟨a, ea, na, nh, ob⟩, x⟩, hk =>
      exact e.rt _ _ _ _ _ hk R1 s.toStp ⟨a, ea, .inl na, fun z => nh (.inl z), ob.to (hide_less fun b z => z.elim (fun z => .inl (.inl z)) fun z => .inr z) fun _ e => e, x a ea⟩
    | .s i, ok, hk =>
      have this : σ[i]? = some (some v) := ok.1
      have hk : (match ρ1[i]? with
        | some (.val d) => E.rt (.d d) ρ1
        | some (.mut true false m) => E.rt (.m m) (ρ1.set i .un)
        | _ => False) := hk
      split at hk
      · rename_i d he
        obtain ⟨u, h1, h2⟩ := R1.vals _ _ he
        rw [h1] at this
        cases this
        exact e.rt _ _ _ _ _ hk R1 s.toStp (toO h2)
      · rename_i m he
        obtain ⟨a, h1, _⟩ := R1.muts _ _ _ _ he
        have h1' : σ[i]? = some (some (.ref a)) := h1
        rw [h1'] at this
        cases this
        obtain ⟨g1, g2, g3, g4, g5⟩ := free_own R1 he h1
        refine e.rt _ _ _ _ _ hk g1 (s.toStp.trans g2) ⟨a, rfl, ?_, g4, g5, g3⟩
        obtain ⟨m2, h3⟩ := s.nm i _ _ _ he
        exact .inr ⟨i, false, m2, h3, h1⟩
      · exact hk.elim⟩
@[simp] def sRetN : WS := fun E ρ => E.rt (.d .none) ρ
theorem ds_retN {pos} : DS Z X (.Return none pos) sRetN := PSweak ps_retN fun D σ H ⟨O, ρ, E, R, h, e⟩ => e.rt _ _ _ _ _ h R Stp.refl Is.non
/-- while -/
@[simp] def sWhile (t : WT) (w : WS) : WS := fun E ρ => ∃ W : Nat → Rho → Prop, (∃ n, W n ρ) ∧ ∀ n ρ1, W n ρ1 → t ρ1 fun b ρ2 => if b = true then w { E with nx := fun ρ3 => ∃ m, m < n ∧ W m ρ3, ct := fun ρ3 => ∃ m, m < n ∧ W m ρ3, bk := E.nx } ρ2 else E.nx ρ2
theorem ds_while {c : Expr} {body : List Stmt} {t : WT} {w : WS} {pos : Pos} (hp : PassesOwn (model X.prog X.w) X.A X.env X.xe) (hc : DT Z X c t) (hb : DSs Z X body w) : DS Z X (.While c body [] pos) (sWhile t w) := PSweak (ps_while hp hc hb) fun D σ H ⟨O, ρ, E, R, ⟨W, ⟨n0, w0⟩, turn⟩, e⟩ =>
  ⟨fun n σ1 H1 => ∃ ρ1, Rel Z O ρ1 σ1 H1 ∧ Stp ρ σ H ρ1 σ1 H1 ∧ W n ρ1, ⟨n0, ρ, R, Stp.refl, w0⟩, fun n σ1 H1 ⟨ρ1, R1, s1, w1⟩ => ⟨O, ρ1, _, R1, turn n ρ1 w1, fun b ρ2 H2 hk R2 s2 => by
    have s12 := s1.trans s2.toStp
    cases b with
    | false => exact e.nx _ _ _ hk R2 s12
    | true =>
      refine ⟨fun σ3 H3 => ∃ m, m < n ∧ ∃ ρ3, Rel Z O ρ3 σ3 H3 ∧ Stp ρ σ H ρ3 σ3 H3 ∧ W m ρ3, fun σ3 H3 z => z, O, ρ2, _, R2, hk, fun ρ3 σ3 H3 ⟨m, hm, w3⟩ R3 s3 => ⟨m, hm, ρ3, R3, s12.trans s3, w3⟩, fun ρ3 σ3 H3 q R3 s3 => e.nx _ _ _ q R3 (s12.trans s3), fun ρ3 σ3 H3 ⟨m, hm, w3⟩ R3 s3 => ⟨m, hm, ρ3, R3, s12.trans s3, w3⟩, fun r ρ3 v σ3 H3 q R3 s3 ok => e.rt _ _ _ _ _ q R3 (s12.trans s3) (ok.back s12)⟩⟩⟩
end
end Dd

/-! Targets, what is walked, for, comprehensions of one clause. -/
namespace Dd
open PySem PySem.Spec PyProof.Rows L2 PySem.W Cb
/-! ### names forgotten -/
structure Wp (ρ : Rho) (σ : Stt) (ρ' : Rho) (σ' : Stt) : Prop where
  len : ρ'.length = σ'.length
  each : ∀ i : Nat, (ρ'[i]? = ρ[i]? ∧ σ'[i]? = σ[i]?) ∨ (ρ'[i]? = some Sl.un ∧ ∀ o l m, ρ[i]? ≠ some (Sl.mut o l m))
def NM (ρ ρ' : Rho) : Prop := ∀ (i : Nat) (o l : Bool) (m : MO), ρ'[i]? = some (Sl.mut o l m) → ∃ m2, ρ[i]? = some (Sl.mut o l m2)
section
variable {Z : Zz} {O : Addr → Prop} {ρ ρ1 ρ' : Rho} {σ σ1 σ' : Stt} {H H1 H' : Hp}
theorem Wp.fwd (w : Wp ρ σ ρ' σ') {i : Nat} {o l : Bool} {m : MO} (h : ρ[i]? = some (Sl.mut o l m)) : ρ'[i]? = some (Sl.mut o l m) ∧ σ'[i]? = σ[i]? := by
  rcases w.each i with ⟨h1, h2⟩ | ⟨_, h2⟩
  · exact ⟨h1.trans h, h2⟩
  · exact (h2 o l m h).elim
theorem Wp.bwd (w : Wp ρ σ ρ' σ') {i : Nat} {o l : Bool} {m : MO} (h : ρ'[i]? = some (Sl.mut o l m)) : ρ[i]? = some (Sl.mut o l m) ∧ σ'[i]? = σ[i]? := by
  rcases w.each i with ⟨h1, h2⟩ | ⟨h1, _⟩
  · exact ⟨h1.symm.trans h, h2⟩
  · rw [h1] at h
    cases h
theorem Wp.hid (w : Wp ρ σ ρ' σ') : Hid O ρ' σ' = Hid O ρ σ := by
  funext b
  refine propext ⟨fun z => ?_, fun z => ?_⟩
  · rcases z with z | ⟨i, o, l, m, h1, h2⟩
    · exact .inl z
    · obtain ⟨g1, g2⟩ := w.bwd h1
      exact .inr ⟨i, o, l, m, g1, g2.symm.trans h2⟩
  · rcases z with z | ⟨i, o, l, m, h1, h2⟩
    · exact .inl z
    · obtain ⟨g1, g2⟩ := w.fwd h1
      exact .inr ⟨i, o, l, m, g1, g2.trans h2⟩
theorem Wp.rel (w : Wp ρ σ ρ' σ') (R : Rel Z O ρ σ H) : Rel Z O ρ' σ' H := by
  refine ⟨w.len, fun i d h => ?_, fun i o l m h => ?_, fun i j o o' l l' m m' a h1 h2 h3 h4 => ?_, R.odom⟩
  · rcases w.each i with ⟨h1, h2⟩ | ⟨h1, _⟩
    · obtain ⟨v, g1, g2⟩ := R.vals i d (h1.symm.trans h)
      exact ⟨v, h2.trans g1, by rw [w.hid]; exact g2⟩
    · rw [h1] at h
      cases h
  · obtain ⟨g1, g2⟩ := w.bwd h
    obtain ⟨a, g3, g4, g5⟩ := R.muts i o l m g1
    exact ⟨a, g2.trans g3, g4, by rw [w.hid]; exact g5⟩
  · obtain ⟨g1, e1⟩ := w.bwd h1
    obtain ⟨g2, e2⟩ := w.bwd h2
    exact R.apart i j _ _ _ _ _ _ a g1 g2 (e1.symm.trans h3) (e2.symm.trans h4)
theorem Wp.stp (w : Wp ρ σ ρ' σ') : Stp ρ σ H ρ' σ' H :=
  ⟨fun _ _ _ e => e, fun _ h => h, fun i o l m a h1 h2 => let ⟨g1, g2⟩ := w.bwd h1; .inl ⟨m, g1, g2.symm.trans h2⟩, fun i o l m h _ => let ⟨g1, g2⟩ := w.fwd h; ⟨g2, m, g1, fun _ => rfl⟩⟩
theorem Wp.nm (w : Wp ρ σ ρ' σ') : NM ρ ρ' := fun i o l m h => ⟨m, (w.bwd h).1⟩
theorem NM.trans (h1 : NM ρ ρ1) (h2 : NM ρ1 ρ') : NM ρ ρ' := fun i o l m h => by
  obtain ⟨m1, g⟩ := h2 i o l m h
  exact h1 i o l m1 g
@[simp] def wipeR (ρ : Rho) : List Nat → Rho
  | [] => ρ
  | v :: vs => (wipeR ρ vs).set v .un
theorem wipeR_len (ρ : Rho) : ∀ vs : List Nat, (wipeR ρ vs).length = ρ.length
  | [] => rfl
  | v :: vs => by unfold wipeR; rw [List.length_set, wipeR_len ρ vs]
theorem wipeR_out {ρ : Rho} {i : Nat} : ∀ {vs : List Nat}, i ∉ vs → (wipeR ρ vs)[i]? = ρ[i]?
  | [], _ => rfl
  | v :: vs, h => by
    rw [List.mem_cons, not_or] at h
    unfold wipeR
    rw [List.getElem?_set_ne (fun e => h.1 e.symm), wipeR_out h.2]
theorem wipeR_in {ρ : Rho} {i : Nat} (hl : i < ρ.length) : ∀ {vs : List Nat}, i ∈ vs → (wipeR ρ vs)[i]? = some .un
  | v :: vs, h => by
    unfold wipeR
    by_cases e : v = i
    · subst e
      rw [List.getElem?_set_self (by rw [wipeR_len]; exact hl)]
    · rw [List.getElem?_set_ne e]
      rcases List.mem_cons.mp h with z | z
      · exact (e z.symm).elim
      · exact wipeR_in hl z
theorem wipe_out {σ : Stt} {i : Nat} : ∀ {vs : List Nat}, i ∉ vs → (wipe σ vs)[i]? = σ[i]?
  | [], _ => rfl
  | v :: vs, h => by
    rw [List.mem_cons, not_or] at h
    unfold wipe
    rw [List.getElem?_set_ne (fun e => h.1 e.symm), wipe_out h.2]
theorem wipe_in {σ : Stt} {i : Nat} (hl : i < σ.length) : ∀ {vs : List Nat}, i ∈ vs → (wipe σ vs)[i]? = some none
  | v :: vs, h => by
    unfold wipe
    by_cases e : v = i
    · subst e
      rw [List.getElem?_set_self (by rw [wipe_length]; exact hl)]
    · rw [List.getElem?_set_ne e]
      rcases List.mem_cons.mp h with z | z
      · exact (e z.symm).elim
      · exact wipe_in hl z
/-- none of these names holds an object -/
def NoMut (ρ : Rho) (vs : List Nat) : Prop := ∀ i ∈ vs, ∀ o l m, ρ[i]? ≠ some (Sl.mut o l m)
theorem wp_wipe (R : Rel Z O ρ σ H) {vs : List Nat} (n : NoMut ρ vs) : Wp ρ σ (wipeR ρ vs) (wipe σ vs) := by
  refine ⟨by rw [wipeR_len, wipe_length]; exact R.len, fun i => ?_⟩
  by_cases h : i ∈ vs
  · by_cases hl : i < ρ.length
    · exact .inr ⟨wipeR_in hl h, n i h⟩
    · refine .inl ⟨?_, ?_⟩
      · rw [List.getElem?_eq_none (by rw [wipeR_len]; omega), List.getElem?_eq_none (by omega)]
      · have := R.len
        rw [List.getElem?_eq_none (by rw [wipe_length]; omega), List.getElem?_eq_none (by omega)]
  · exact .inl ⟨wipeR_out h, wipe_out h⟩
/-- back from the block: its names hold nothing -/
theorem wp_back {vs : List Nat} (hl : ρ.length = σ.length) (hu : ∀ i ∈ vs, i < ρ.length → ρ[i]? = some Sl.un) : Wp ρ (wipe σ vs) ρ σ := by
  refine ⟨hl, fun i => ?_⟩
  by_cases h : i ∈ vs
  · by_cases q : i < ρ.length
    · have e := hu i h q
      exact .inr ⟨e, fun o l m z => by rw [e] at z; cases z⟩
    · refine .inl ⟨rfl, ?_⟩
      rw [List.getElem?_eq_none (by omega), List.getElem?_eq_none (by rw [wipe_length]; omega)]
  · exact .inl ⟨rfl, (wipe_out h).symm⟩
theorem wipe_eq {vs : List Nat} (hl : σ'.length = σ.length) (h : ∀ i, i ∉ vs → σ'[i]? = σ[i]?) : wipe σ' vs = wipe σ vs := by
  refine List.ext_getElem? fun i => ?_
  by_cases hi : i ∈ vs
  · by_cases q : i < σ.length
    · rw [wipe_in (by omega) hi, wipe_in q hi]
    · rw [List.getElem?_eq_none (by rw [wipe_length]; omega), List.getElem?_eq_none (by rw [wipe_length]; omega)]
  · rw [wipe_out hi, wipe_out hi, h i hi]
/-! ### a list that is walked is locked -/
@[simp] def lockAt (ρ : Rho) : Option Nat → Rho
  | none => ρ
  | some i => match ρ[i]? with
    | some (.mut o false m) => ρ.set i (.mut o true m)
    | _ => ρ
@[simp] def unl (ρ : Rho) : Option Nat → Rho
  | none => ρ
  | some i => match ρ[i]? with
    | some (.mut o true m) => ρ.set i (.mut o false m)
    | _ => ρ
/-- one slot's lock differs -/
structure Lk (i : Nat) (ρ ρ' : Rho) : Prop where
  len : ρ'.length = ρ.length
  out : ∀ j, i ≠ j → ρ'[j]? = ρ[j]?
  at_ : ∃ o m, ρ[i]? = some (Sl.mut o false m) ∧ ρ'[i]? = some (Sl.mut o true m)
theorem Lk.fwd {i : Nat} (k : Lk i ρ ρ') {j : Nat} {o l : Bool} {m : MO} (h : ρ[j]? = some (Sl.mut o l m)) : ∃ l', ρ'[j]? = some (Sl.mut o l' m) := by
  by_cases e : i = j
  · subst e
    obtain ⟨o', m', h1, h2⟩ := k.at_
    rw [h] at h1
    cases h1
    exact ⟨_, h2⟩
  · exact ⟨l, (k.out j e).trans h⟩
theorem Lk.bwd {i : Nat} (k : Lk i ρ ρ') {j : Nat} {o l : Bool} {m : MO} (h : ρ'[j]? = some (Sl.mut o l m)) : ∃ l', ρ[j]? = some (Sl.mut o l' m) := by
  by_cases e : i = j
  · subst e
    obtain ⟨o', m', h1, h2⟩ := k.at_
    rw [h] at h2
    cases h2
    exact ⟨_, h1⟩
  · exact ⟨l, (k.out j e).symm.trans h⟩
theorem Lk.hid {i : Nat} (k : Lk i ρ ρ') : Hid O ρ' σ = Hid O ρ σ := by
  funext b
  refine propext ⟨fun z => ?_, fun z => ?_⟩
  · rcases z with z | ⟨j, o, l, m, h1, h2⟩
    · exact .inl z
    · obtain ⟨l', g⟩ := k.bwd h1
      exact .inr ⟨j, o, l', m, g, h2⟩
  · rcases z with z | ⟨j, o, l, m, h1, h2⟩
    · exact .inl z
    · obtain ⟨l', g⟩ := k.fwd h1
      exact .inr ⟨j, o, l', m, g, h2⟩
theorem Lk.val {i : Nat} (k : Lk i ρ ρ') {j : Nat} {d : PD} : ρ'[j]? = some (Sl.val d) ↔ ρ[j]? = some (Sl.val d) := by
  by_cases e : i = j
  · subst e
    obtain ⟨o', m', h1, h2⟩ := k.at_
    constructor
    · intro z; rw [h2] at z; cases z
    · intro z; rw [h1] at z; cases z
  · rw [k.out j e]
theorem Lk.rel {i : Nat} (k : Lk i ρ ρ') (R : Rel Z O ρ σ H) : Rel Z O ρ' σ H := by
  refine ⟨k.len.trans R.len, fun j d h => ?_, fun j o l m h => ?_, fun j n o o' l l' m m' a h1 h2 h3 h4 => ?_, R.odom⟩
  · rw [k.hid]
    exact R.vals j d (k.val.mp h)
  · obtain ⟨l', g⟩ := k.bwd h
    rw [k.hid]
    exact R.muts j o l' m g
  · obtain ⟨_, g1⟩ := k.bwd h1
    obtain ⟨_, g2⟩ := k.bwd h2
    exact R.apart j n _ _ _ _ _ _ a g1 g2 h3 h4
theorem Lk.relB {i : Nat} (k : Lk i ρ ρ') (R : Rel Z O ρ' σ H) : Rel Z O ρ σ H := by
  refine ⟨k.len.symm.trans R.len, fun j d h => ?_, fun j o l m h => ?_, fun j n o o' l l' m m' a h1 h2 h3 h4 => ?_, R.odom⟩
  · rw [← k.hid]
    exact R.vals j d (k.val.mpr h)
  · obtain ⟨l', g⟩ := k.fwd h
    rw [← k.hid]
    exact R.muts j o l' m g
  · obtain ⟨_, g1⟩ := k.fwd h1
    obtain ⟨_, g2⟩ := k.fwd h2
    exact R.apart j n _ _ _ _ _ _ a g1 g2 h3 h4
theorem lk_lock {i : Nat} {o : Bool} {m : MO} (h : ρ[i]? = some (Sl.mut o false m)) : Lk i ρ (ρ.set i (.mut o true m)) := by
  have il := (List.getElem?_eq_some_iff.mp h).1
  exact ⟨List.length_set, fun j e => List.getElem?_set_ne e, o, m, h, List.getElem?_set_self il⟩
theorem lk_unl {i : Nat} {o : Bool} {m : MO} (h : ρ[i]? = some (Sl.mut o true m)) : Lk i (ρ.set i (.mut o false m)) ρ := by
  have il := (List.getElem?_eq_some_iff.mp h).1
  exact ⟨List.length_set.symm, fun j e => (List.getElem?_set_ne e).symm, o, m, List.getElem?_set_self il, h⟩
/-- a step under the lock, the lock taken off -/
theorem Stp.unlock {i : Nat} {ρl ρ2 : Rho} (k : Lk i ρ ρl) (k2 : Lk i ρ2 ρ') (s : Stp ρl σ H ρ' σ' H') : Stp ρ σ H ρ2 σ' H' := by
  obtain ⟨o0, m0, a1, a2⟩ := k.at_
  obtain ⟨e0, m1, b1, b2⟩ := s.hold i o0 true m0 a2 (.inr rfl)
  have b3 := b2 rfl
  subst b3
  obtain ⟨o2, m2, c1, c2⟩ := k2.at_
  rw [b1] at c2
  cases c2
  refine ⟨fun b o n e => s.keep b o (fun ⟨j, o, m, h1, h2⟩ => ?_) e, s.dom, fun j o l m a h1 h2 => ?_, fun j o l m h hol => ?_⟩
  · by_cases q : i = j
    · subst q
      rw [a2] at h1
      cases h1
    · rw [k.out j q] at h1
      exact n ⟨j, o, m, h1, h2⟩
  · by_cases q : i = j
    · subst q
      rw [c1] at h1
      cases h1
      exact .inl ⟨_, a1, e0.symm.trans h2⟩
    · rw [← k2.out j q] at h1
      rcases s.own j o l m a h1 h2 with ⟨m3, h3, h4⟩ | h3
      · rw [k.out j q] at h3
        exact .inl ⟨m3, h3, h4⟩
      · exact .inr h3
  · by_cases q : i = j
    · subst q
      rw [a1] at h
      cases h
      exact ⟨e0, _, c1, fun _ => rfl⟩
    · rw [← k.out j q] at h
      obtain ⟨e1, m3, h1, h2⟩ := s.hold j o l m h hol
      exact ⟨e1, m3, by rw [← k2.out j q]; exact h1, h2⟩
theorem NM.unlock {i : Nat} {ρl ρ2 : Rho} (k : Lk i ρ ρl) (k2 : Lk i ρ2 ρ') (hi : ρ'[i]? = ρl[i]?) (s : NM ρl ρ') : NM ρ ρ2 := fun j o l m h => by
  by_cases q : i = j
  · subst q
    obtain ⟨o2, m2, c1, c2⟩ := k2.at_
    obtain ⟨o0, m0, a1, a2⟩ := k.at_
    rw [c2, a2] at hi
    cases hi
    rw [c1] at h
    cases h
    exact ⟨_, a1⟩
  · rw [← k2.out j q] at h
    obtain ⟨m2, h2⟩ := s j o l m h
    rw [k.out j q] at h2
    exact ⟨m2, h2⟩
/-- which list may be locked: one that is not yet -/
def okLk (ρ : Rho) : Option Nat → Prop
  | none => True
  | some i => ∃ o m, ρ[i]? = some (Sl.mut o false m)
theorem lock_lk {i : Nat} (h : okLk ρ (some i)) : Lk i ρ (lockAt ρ (some i)) := by
  obtain ⟨o, m, h⟩ := h
  have e : lockAt ρ (some i) = ρ.set i (.mut o true m) := by
    unfold lockAt
    simp only [h]
  rw [e]
  exact lk_lock h
theorem unl_lk {i : Nat} {o : Bool} {m : MO} (h : ρ[i]? = some (Sl.mut o true m)) : Lk i (unl ρ (some i)) ρ := by
  have e : unl ρ (some i) = ρ.set i (.mut o false m) := by
    unfold unl
    simp only [h]
  rw [e]
  exact lk_unl h
/-- behind a walk: the lock off -/
theorem unlock_all {lk : Option Nat} (ok : okLk ρ lk) (R : Rel Z O ρ' σ' H') (s : Stp (lockAt ρ lk) σ H ρ' σ' H') : Rel Z O (unl ρ' lk) σ' H' ∧ Stp ρ σ H (unl ρ' lk) σ' H' := by
  cases lk with
  | none => exact ⟨R, s⟩
  | some i =>
    have k := lock_lk ok
    obtain ⟨o0, m0, a1, a2⟩ := k.at_
    obtain ⟨e0, m1, b1, b2⟩ := s.hold i o0 true m0 a2 (.inr rfl)
    have k2 := unl_lk b1
    exact ⟨k2.relB R, s.unlock k k2⟩
theorem unlock_nm {lk : Option Nat} (ok : okLk ρ lk) (s : Stp (lockAt ρ lk) σ H ρ' σ' H') (n : NM (lockAt ρ lk) ρ') : NM ρ (unl ρ' lk) := by
  cases lk with
  | none => exact n
  | some i =>
    have k := lock_lk ok
    obtain ⟨o0, m0, a1, a2⟩ := k.at_
    obtain ⟨e0, m1, b1, b2⟩ := s.hold i o0 true m0 a2 (.inr rfl)
    have b3 := b2 rfl
    subst b3
    exact n.unlock k (unl_lk b1) (b1.trans a2.symm)
theorem lock_rel {lk : Option Nat} (ok : okLk ρ lk) (R : Rel Z O ρ σ H) : Rel Z O (lockAt ρ lk) σ H := by
  cases lk with
  | none => exact R
  | some i => exact (lock_lk ok).rel R
theorem lock_hid {lk : Option Nat} (ok : okLk ρ lk) : Hid O (lockAt ρ lk) σ = Hid O ρ σ := by
  cases lk with
  | none => rfl
  | some i => exact (lock_lk ok).hid
/-- hidden of the returned object, too -/
theorem RtOk.unlock {lk : Option Nat} {v : V} (ok : okLk ρ lk) (s : Stp (lockAt ρ lk) σ H ρ' σ' H') : ∀ {r : RV}, RtOk Z O (lockAt ρ lk) σ H ρ' σ' H' v r → RtOk Z O ρ σ H (unl ρ' lk) σ' H' v r
  | .d _, h => h
  | .m _, ⟨a, e, n, no, ob, Rx⟩ => by
    refine ⟨a, e, ?_, no, ob, (unlock_all ok Rx s).1⟩
    rcases n with n | ⟨j, l, m, h1, h2⟩
    · exact .inl n
    · cases lk with
      | none => exact .inr ⟨j, l, m, h1, h2⟩
      | some i =>
        obtain ⟨l', g⟩ := (lock_lk ok).bwd h1
        exact .inr ⟨j, l', m, g, h2⟩
  | .s _, h => h
end
end Dd

/-! Targets, walks, for, comprehensions. -/
namespace Dd
open PySem PySem.Spec PyProof.Rows L2 PySem.W Cb
/-! ### targets: data into names -/
abbrev WG := PD → Rho → (Rho → Prop) → Prop
abbrev WGs := List PD → Rho → (Rho → Prop) → Prop
/-- js: the names that are set -/
def TgOk (js : List Nat) (σ σ' : Stt) : Prop := σ'.length = σ.length ∧ ∀ i, i ∉ js → σ'[i]? = σ[i]?
def tG (Z : Zz) (js : List Nat) (g : WG) : TG := fun v σ H Q => ∃ (O : Addr → Prop) (ρ : Rho) (d : PD) (K : Rho → Prop), Rel Z O ρ σ H ∧ Is Z (hide (Hid O ρ σ) H) v d ∧ g d ρ K ∧ ∀ ρ' σ', K ρ' → Rel Z O ρ' σ' H → Stp ρ σ H ρ' σ' H → NM ρ ρ' → TgOk js σ σ' → Q σ' H
def tGs (Z : Zz) (js : List Nat) (g : WGs) : TGs := fun vs σ H Q => ∃ (O : Addr → Prop) (ρ : Rho) (ds : List PD) (K : Rho → Prop), Rel Z O ρ σ H ∧ IsAll Z (hide (Hid O ρ σ) H) vs ds ∧ g ds ρ K ∧ ∀ ρ' σ', K ρ' → Rel Z O ρ' σ' H → Stp ρ σ H ρ' σ' H → NM ρ ρ' → TgOk js σ σ' → Q σ' H
abbrev DG (Z : Zz) (X : Cx) (tg : Expr) (js : List Nat) (g : WG) : Prop := PG X tg (tG Z js g)
abbrev DGs (Z : Zz) (X : Cx) (tg : List Expr) (js : List Nat) (g : WGs) : Prop := PGs X tg (tGs Z js g)
theorem PGweak {X : Cx} {e : Expr} {t t' : TG} (h : PG X e t) (k : ∀ v σ H Q, t' v σ H Q → t v σ H Q) : PG X e t' := ⟨fun pins s σ H v u Q I r z => h.run pins s σ H v u Q I r (k v σ H Q z)⟩
theorem PGsweak {X : Cx} {e : List Expr} {t t' : TGs} (h : PGs X e t) (k : ∀ v σ H Q, t' v σ H Q → t v σ H Q) : PGs X e t' := ⟨fun pins s σ H v u Q I r z => h.run pins s σ H v u Q I r (k v σ H Q z)⟩
theorem nm_set {ρ : Rho} {i : Nat} {d : PD} : NM ρ (ρ.set i (.val d)) := fun j o l m h => by
  by_cases e : i = j
  · subst e
    by_cases hl : i < ρ.length
    · rw [List.getElem?_set_self hl] at h
      cases h
    · rw [List.getElem?_eq_none (by rw [List.length_set]; omega)] at h
      cases h
  · rw [List.getElem?_set_ne e] at h
    exact ⟨m, h⟩
section
variable {Z : Zz} {X : Cx}
@[simp] def gNm (i : Nat) : WG := fun d ρ k => okSlot ρ i ∧ k (ρ.set i (.val d))
theorem dg_name {i : Nat} {x : Str} {pos : Pos} (hN : X.N.Nodup) (hi : X.N[i]? = some x) (hx : Loc X.env.scope x) (hf : X.fn x = true ∨ X.env.scope.names.lookup x = some .local := by first | exact .inl rfl | exact .inr rfl | assumption) : DG Z X (.Name x pos) [i] (gNm i) :=
  PGweak (pg_name hN hi hx hf) fun v σ H Q ⟨O, ρ, d, K, R, hd, ⟨hs, hk⟩, q⟩ => by
    obtain ⟨h1, h2⟩ := set_val R hs hd
    exact q _ _ hk h1 h2 nm_set ⟨List.length_set, fun j hj => List.getElem?_set_ne (fun e => hj (by rw [e]; simp))⟩
@[simp] def gsNil : WGs := fun ds ρ k => match ds with
  | [] => k ρ
  | _ => False
@[simp] def gsCons (g : WG) (gs : WGs) : WGs := fun ds ρ k => match ds with
  | d :: ds => g d ρ fun ρ1 => gs ds ρ1 k
  | _ => False
theorem dgs_nil : DGs Z X [] [] gsNil := PGsweak pgs_nil fun vs σ H Q ⟨O, ρ, ds, K, R, hd, hk, q⟩ => by
  match ds, hd, hk with
  | [], hd, hk =>
    cases hd
    exact ⟨rfl, q _ _ hk R Stp.refl (fun i o l m h => ⟨m, h⟩) ⟨rfl, fun _ _ => rfl⟩⟩
theorem TgOk.trans {js ks : List Nat} {σ σ1 σ' : Stt} (h1 : TgOk js σ σ1) (h2 : TgOk ks σ1 σ') : TgOk (js ++ ks) σ σ' := ⟨h2.1.trans h1.1, fun i hi => by
  rw [List.mem_append, not_or] at hi
  exact (h2.2 i hi.2).trans (h1.2 i hi.1)⟩
theorem dgs_cons {e : Expr} {es : List Expr} {js ks : List Nat} {g : WG} {gs : WGs} (h1 : DG Z X e js g) (h2 : DGs Z X es ks gs) (hs : (assignEach (e :: es) X.env).map (·.2) = assign e X.env :: (assignEach es X.env).map (·.2) := by rfl) : DGs Z X (e :: es) (js ++ ks) (gsCons g gs) :=
  PGsweak (pgs_cons h1 h2 hs) fun vs σ H Q ⟨O, ρ, ds, K, R, hd, hk, q⟩ => by
    match ds, hd, hk with
    | d :: ds, hd, hk =>
      cases hd with
      | @cons v us _ _ r t =>
        exact ⟨v, us, rfl, O, ρ, d, _, R, r, hk, fun ρ1 σ1 hk1 R1 s1 n1 t1 => ⟨O, ρ1, ds, K, R1, s1.isAll t, hk1, fun ρ2 σ2 hk2 R2 s2 n2 t2 => q _ _ hk2 R2 (s1.trans s2) (n1.trans n2) (t1.trans t2)⟩⟩
@[simp] def gTp (n : Nat) (gs : WGs) : WG := fun d ρ k => match d with
  | .tuple ds => ds.length = n ∧ gs ds ρ k
  | _ => False
theorem dg_tup {es : List Expr} {k : Nat} {js : List Nat} {gs : WGs} {n : Nat} {pos : Pos} (hc : X.calm = true) (h : DGs Z X es js gs) (hn : (assignEach es X.env).length = n := by rfl) (hst : (assignEach es X.env).findIdx? (·.1) = none := by rfl) (hK : X.K = Z.K := by rfl) : DG Z X (.Tuple es k pos) js (gTp n gs) :=
  PGweak (pg_tup hc h hn hst) fun v σ H Q ⟨O, ρ, d, K, R, hd, hk, q⟩ => by
    match d, hd, hk with
    | .tuple ds, hd, ⟨hl, hk⟩ =>
      cases hd with
      | @tup a us _ sa ha => exact ⟨a, us, rfl, by rw [hK]; exact sqT_sub hide_same sa, by rw [ha.len]; exact hl, O, ρ, ds, K, R, ha, hk, q⟩
/-- a, b = value -/
@[simp] def sAsgT (w : WE) (g : WG) : WS := fun E ρ => w ρ fun r ρ1 => toD r ρ1 fun d ρ2 => g d ρ2 E.nx
theorem ds_asgT {tg e : Expr} {w : WE} {js : List Nat} {g : WG} {pos : Pos} (he : DE Z X e w) (hg : DG Z X tg js g) (hs : swapsWithSole [tg] e pos.line X.env = pure false := by rfl) (hw : swappedStores [tg] e X.env = pure none := by rfl)
    (h1 : (assignEach [tg] X.env).map (·.2) = [assign tg X.env] := by rfl) : DS Z X (.Assign [tg] e pos) (sAsgT w g) := PSweak (ps_asg he hg hs hw h1) fun D σ H ⟨O, ρ, E, R, h, e⟩ =>
  ⟨O, ρ, _, R, h, fun r ρ1 v H1 hk R1 s ok => by
    obtain ⟨d, ρ2, hk2, R2, s2, hd⟩ := toD_ok (K := fun d ρ2 => g d ρ2 E.nx) R1 ok.1 hk
    exact ⟨O, ρ2, d, _, R2, hd, hk2, fun ρ3 σ3 hk3 R3 s3 _ _ => e.nx _ _ _ hk3 R3 ((s.trans s2).toStp.trans s3)⟩⟩
/-! ### what is walked -/
abbrev WI := Rho → (List PD → Option Nat → Rho → Prop) → Prop
/-- kept through a walk -/
def Kept (A : Addr → Prop) (ρ : Rho) (σ : Stt) (H H1 : Hp) : Prop := ∀ b o, ¬ Tch ρ σ b → ¬ A b → H b = some o → H1 b = some o
theorem Stp.kept {A : Addr → Prop} {ρ ρ' : Rho} {σ σ' : Stt} {H H' : Hp} (s : Stp ρ σ H ρ' σ' H') : Kept A ρ σ H H' := fun b o n _ e => s.keep b o n e
/-- hidden objects that stand in no slot -/
structure ApX (O : Addr → Prop) (ρ : Rho) (σ : Stt) (A : Addr → Prop) : Prop where
  sub : ∀ b, A b → O b
  out : ∀ (i : Nat) (o l : Bool) (m : MO), ρ[i]? = some (Sl.mut o l m) → ∀ b, At σ i b → ¬ A b
theorem ApX.no {O : Addr → Prop} {ρ : Rho} {σ : Stt} : ApX O ρ σ fun _ => False := ⟨fun _ z => z.elim, fun _ _ _ _ _ _ _ z => z⟩
structure WkOk (Z : Zz) (O : Addr → Prop) (ρ : Rho) (σ : Stt) (lk : Option Nat) (J : It) (ds : List PD) (H : Hp) : Prop where
  okl : okLk ρ lk
  ex : ∃ (G : Hp → Prop) (Y : Nat → Hp → V → Hp → Prop), Walk J ds.length G Y ∧ ∀ A, ApX O ρ σ A → (∀ H1, Kept A (lockAt ρ lk) σ H H1 → G H1) ∧
    ∀ i H1 x H2, i < ds.length → Kept A (lockAt ρ lk) σ H H1 → Y i H1 x H2 → Same H1 H2 ∧ ∃ d, ds[i]? = some d ∧ ∀ U : Addr → Prop, (∀ v e, Is Z (hide (Hid O ρ σ) H) v e → Is Z (hide U H1) v e) → (∀ a, U a → H1 a ≠ none) → Is Z (hide U H2) x d
def tI (Z : Zz) (w : WI) : TI := fun σ H R => ∃ (O : Addr → Prop) (ρ : Rho) (K : List PD → Option Nat → Rho → Prop), Rel Z O ρ σ H ∧ w ρ K ∧ ∀ ds lk ρ' J H', K ds lk ρ' → Rel Z O ρ' σ H' → Est ρ σ H ρ' H' → WkOk Z O ρ' σ lk J ds H' → R J H'
abbrev DI (Z : Zz) (X : Cx) (tg iter : Expr) (w : WI) : Prop := PI X tg iter (tI Z w)
theorem PIweak {X : Cx} {tg e : Expr} {t t' : TI} (h : PI X tg e t) (k : ∀ σ H Q, t' σ H Q → t σ H Q) : PI X tg e t' := ⟨fun pins s σ H R I z => h.run pins s σ H R I (k σ H R z)⟩
/-- what is walked, of a sequence: its place, its items, what is locked -/
@[simp] def seqK (r : RV) (ρ1 : Rho) (K : List PD → Option Nat → Rho → Prop) : Prop := match r with
  | .d (.list ds) => K ds none ρ1
  | .d (.tuple ds) => K ds none ρ1
  | .m (.lst ds) => K ds none ρ1
  | .s i => match ρ1[i]? with
    | some (.val (.list ds)) => K ds none ρ1
    | some (.val (.tuple ds)) => K ds none ρ1
    | some (.mut _ false (.lst ds)) => K ds (some i) ρ1
    | some (.mut _ true (.lst ds)) => K ds none ρ1
    | _ => False
  | _ => False
/-- a list or a tuple -/
@[simp] def iSeq (w : WE) : WI := fun ρ K => w ρ fun r ρ1 => seqK r ρ1 K
def iListOr (K : Frag) (tl : TE) : TI := fun σ H R => tl σ H fun x H1 => ∃ a, x = .ref a ∧ ((∃ xs, SqL K H1 a xs ∧ R (Itl K a) H1) ∨ ∃ xs, SqT K H1 a xs ∧ R (Itt K a) H1)
theorem pi_seq {tg l : Expr} {tl : TE} (hl : PE X l tl) : PI X tg l (iListOr X.K tl) := by
  refine ⟨fun pins s σ H R I h => ?_⟩
  refine thn (hl.run pins s σ H _ I h) fun v s1 ⟨x, H1, I1, r1, q1⟩ => ?_
  obtain ⟨a, e, q⟩ := q1
  subst e
  cases r1
  rcases q with ⟨xs, hq, q⟩ | ⟨xs, hq, q⟩
  · obtain ⟨its, rv, p, hz⟩ := I1.list hq
    refine wpAny_pyIter_list p.isList ?_
    refine ⟨s1.heap.objs.size, [s1.heap.objs.size], _, _, H1, rfl, I1.kept (t' := s1.toks) fun b o e => Heap.get?_push_of_some _ e, turn_list a _, ⟨_, Heap.get?_push_size _ rfl, rfl, rfl⟩, fun b hb => ?_, q⟩
    have e : b = s1.heap.objs.size := by simpa using hb
    subst e
    exact I1.fpOk (Nat.le_refl _) (I1.hok.fresh (Nat.le_refl _))
  · obtain ⟨its, rv, p, hz⟩ := I1.tuple hq
    refine wpAny_pyIter_tuple (show s1.heap.IsTuple a its.toArray from p) ?_
    refine ⟨s1.heap.objs.size, [s1.heap.objs.size], _, _, H1, rfl, I1.kept (t' := s1.toks) fun b o e => Heap.get?_push_of_some _ e, turn_tuple a _, ⟨_, Heap.get?_push_size _ rfl, rfl, rfl⟩, fun b hb => ?_, q⟩
    have e : b = s1.heap.objs.size := by simpa using hb
    subst e
    exact I1.fpOk (Nat.le_refl _) (I1.hok.fresh (Nat.le_refl _))
section
variable {O : Addr → Prop} {ρ : Rho} {σ : Stt} {H : Hp} {a : Addr} {xs : List V} {ds : List PD} {lk : Option Nat}
theorem kept_same {A : Addr → Prop} {H1 : Hp} (R : Rel Z O ρ σ H) (x : ApX O ρ σ A) (k : Kept A ρ σ H H1) {b : Addr} {o : HO} (h : hide (Hid O ρ σ) H b = some o) : H1 b = some o := by
  obtain ⟨n, e⟩ := of_hide h
  exact k b o (fun z => n (tch_hid z)) (fun z => n (.inl (x.sub b z))) e
/-- a walk over the items of a sequence that is kept -/
theorem wk_items {J : It} {G : Hp → Prop} (ok : okLk ρ lk) (hw : Walk J xs.length G (YAt xs)) (hg : ∀ A, ApX O ρ σ A → ∀ H1, Kept A (lockAt ρ lk) σ H H1 → G H1) (hi : IsAll Z (hide (Hid O ρ σ) H) xs ds) : WkOk Z O ρ σ lk J ds H := by
  have l := hi.len
  refine ⟨ok, G, YAt xs, by rw [← l]; exact hw, fun A ap => ⟨hg A ap, fun i H1 x H2 hlt k y => ?_⟩⟩
  obtain ⟨rfl, hx⟩ := y
  obtain ⟨d, h1, h2⟩ := hi.get hx
  exact ⟨Same.refl _, d, h1, fun U hU _ => hU _ _ h2⟩
theorem wk_vis (R : Rel Z O ρ σ H) {b : Addr} {o : HO} (h : hide (Hid O ρ σ) H b = some o) {A : Addr → Prop} (x : ApX O ρ σ A) {H1 : Hp} (k : Kept A (lockAt ρ none) σ H H1) : H1 b = some o := kept_same R x k h
theorem wk_lst (R : Rel Z O ρ σ H) (h : LsK Z.K (hide (Hid O ρ σ) H) a xs) (hi : IsAll Z (hide (Hid O ρ σ) H) xs ds) : WkOk Z O ρ σ none (Itl Z.K a) ds H :=
  wk_items trivial walk_list (fun A x H1 k => (LsK.sub (fun b o e => kept_same R x k e) h).sq) hi
theorem wk_tup (R : Rel Z O ρ σ H) (h : SqT Z.K (hide (Hid O ρ σ) H) a xs) (hi : IsAll Z (hide (Hid O ρ σ) H) xs ds) : WkOk Z O ρ σ none (Itt Z.K a) ds H :=
  wk_items trivial walk_tup (fun A x H1 k => sqT_sub (fun b o e => kept_same R x k e) h) hi
theorem tch_lock_out {i : Nat} (ok : okLk ρ (some i)) (R : Rel Z O ρ σ H) (ha : At σ i a) : ¬ Tch (lockAt ρ (some i)) σ a := fun ⟨j, o, m, h1, h2⟩ => by
  have k := lock_lk ok
  obtain ⟨o0, m0, a1, a2⟩ := k.at_
  obtain ⟨l', g⟩ := k.bwd h1
  have e := R.apart i j _ _ _ _ _ _ a a1 g ha h2
  subst e
  rw [a2] at h1
  cases h1
theorem tch_locked_out {i : Nat} {o : Bool} {m : MO} (hi : ρ[i]? = some (Sl.mut o true m)) (R : Rel Z O ρ σ H) (ha : At σ i a) : ¬ Tch ρ σ a := fun ⟨j, o', m', h1, h2⟩ => by
  have e := R.apart i j _ _ _ _ _ _ a hi h1 ha h2
  subst e
  rw [hi] at h1
  cases h1
end
theorem seq_go {O : Addr → Prop} {ρ ρ1 : Rho} {σ : Stt} {H H1 : Hp} {v : V} {K : List PD → Option Nat → Rho → Prop} {r : RV} (R : Rel Z O ρ σ H) (R1 : Rel Z O ρ1 σ H1) (s : Est ρ σ H ρ1 H1) (ok : RvF Z O ρ1 σ H H1 v r) (hk : seqK r ρ1 K) :
    ∃ a ds lk, v = .ref a ∧ K ds lk ρ1 ∧ ((∃ xs, SqL Z.K H1 a xs ∧ WkOk Z O ρ1 σ lk (Itl Z.K a) ds H1) ∨ ∃ xs, SqT Z.K H1 a xs ∧ WkOk Z O ρ1 σ lk (Itt Z.K a) ds H1) := by
  have data : ∀ d, Is Z (hide (Hid O ρ1 σ) H1) v d → (∀ ds, d = .list ds ∨ d = .tuple ds → K ds none ρ1) → (∃ ds, d = .list ds ∨ d = .tuple ds) → ∃ a ds lk, v = .ref a ∧ K ds lk ρ1 ∧ ((∃ xs, SqL Z.K H1 a xs ∧ WkOk Z O ρ1 σ lk (Itl Z.K a) ds H1) ∨ ∃ xs, SqT Z.K H1 a xs ∧ WkOk Z O ρ1 σ lk (Itt Z.K a) ds H1) := fun d hd hk he => by
    obtain ⟨ds, rfl | rfl⟩ := he
    · cases hd with
      | @lst a xs _ hs ha => exact ⟨a, ds, none, rfl, hk ds (.inl rfl), .inl ⟨xs, (LsK.sub hide_same hs).sq, wk_lst R1 hs ha⟩⟩
    · cases hd with
      | @tup a xs _ hs ha => exact ⟨a, ds, none, rfl, hk ds (.inr rfl), .inr ⟨xs, sqT_sub hide_same hs, wk_tup R1 hs ha⟩⟩
  match r, ok, hk with
  | .d (.list ds), ok, hk => exact data _ ok.1 (fun es e => by rcases e with e | e <;> cases e; exact hk) ⟨ds, .inl rfl⟩
  | .d (.tuple ds), ok, hk => exact data _ ok.1 (fun es e => by rcases e with e | e <;> cases e; exact hk) ⟨ds, .inr rfl⟩
  | .m (.lst ds), ⟨⟨a, e, na, nh, xs, h1, ha⟩, _⟩, hk =>
    subst e
    exact ⟨a, ds, none, rfl, hk, .inl ⟨xs, .inl (.inl h1), wk_items trivial walk_list (fun A x H2 k => .inl (.inl (k a _ (s.newT R na) (fun z => R.odom a (x.sub a z) na) h1))) (ha.to (hide_less fun b z => .inl z))⟩⟩
  | .m (.dk _), _, hk => exact (show False from hk).elim
  | .m (.dn _), _, hk => exact (show False from hk).elim
  | .d .none, _, hk => exact (show False from hk).elim
  | .d (.bool _), _, hk => exact (show False from hk).elim
  | .d (.int _), _, hk => exact (show False from hk).elim
  | .d (.str _), _, hk => exact (show False from hk).elim
  | .d (.dict _), _, hk => exact (show False from hk).elim
  | .s i, ok, hk =>
    have this : σ[i]? = some (some v) := ok.1
    have hk : (match ρ1[i]? with
      | some (.val (.list ds)) => K ds none ρ1
      | some (.val (.tuple ds)) => K ds none ρ1
      | some (.mut _ false (.lst ds)) => K ds (some i) ρ1
      | some (.mut _ true (.lst ds)) => K ds none ρ1
      | _ => False) := hk
    split at hk
    · rename_i ds he
      obtain ⟨u, h1, h2⟩ := R1.vals _ _ he
      rw [h1] at this
      cases this
      exact data _ h2 (fun es e => by rcases e with e | e <;> cases e; exact hk) ⟨ds, .inl rfl⟩
    · rename_i ds he
      obtain ⟨u, h1, h2⟩ := R1.vals _ _ he
      rw [h1] at this
      cases this
      exact data _ h2 (fun es e => by rcases e with e | e <;> cases e; exact hk) ⟨ds, .inr rfl⟩
    · rename_i o ds he
      obtain ⟨a, h1, _, xs, h2, h3⟩ := R1.muts _ _ _ _ he
      have h1' : σ[i]? = some (some (.ref a)) := h1
      rw [h1'] at this
      cases this
      have ok : okLk ρ1 (some i) := ⟨o, _, he⟩
      exact ⟨a, ds, some i, rfl, hk, .inl ⟨xs, .inl (.inl h2), wk_items ok walk_list (fun A x H2 k => .inl (.inl (k a _ (tch_lock_out ok R1 h1) (x.out _ _ _ _ he a h1) h2))) h3⟩⟩
    · rename_i o ds he
      obtain ⟨a, h1, _, xs, h2, h3⟩ := R1.muts _ _ _ _ he
      have h1' : σ[i]? = some (some (.ref a)) := h1
      rw [h1'] at this
      cases this
      exact ⟨a, ds, none, rfl, hk, .inl ⟨xs, .inl (.inl h2), wk_items trivial walk_list (fun A x H2 k => .inl (.inl (k a _ (tch_locked_out he R1 h1) (x.out _ _ _ _ he a h1) h2))) h3⟩⟩
    · exact hk.elim
theorem di_seq {tg e : Expr} {w : WE} (h : DE Z X e w) (hK : X.K = Z.K := by rfl) : DI Z X tg e (iSeq w) := by
  refine PIweak (pi_seq h) fun σ H Q ⟨O, ρ, K, R, hw, q⟩ => ⟨O, ρ, _, R, hw, fun r ρ1 v H1 hk R1 s ok => ?_⟩
  rw [hK]
  obtain ⟨a, ds, lk, e, hk2, h⟩ := seq_go R R1 s ok hk
  exact ⟨a, e, h.imp (fun ⟨xs, h1, h2⟩ => ⟨xs, h1, q _ _ _ _ _ hk2 R1 s h2⟩) fun ⟨xs, h1, h2⟩ => ⟨xs, h1, q _ _ _ _ _ hk2 R1 s h2⟩⟩
/-- range(n), range(a, b) -/
def rngD (lo : Int) (n : Nat) : List PD := (List.range n).map fun (i : Nat) => .int (lo + (i : Int))
theorem rngD_get {lo : Int} {n i : Nat} (h : i < n) : (rngD lo n)[i]? = some (.int (lo + i)) := by
  unfold rngD
  rw [List.getElem?_map, List.getElem?_range h]
  rfl
@[simp] def iRange1 (w : WA) : WI := fun ρ K => w ρ fun rs ρ1 => match rs with
  | [.d (.int j)] => (-(2 ^ 62) ≤ j ∧ j < 2 ^ 62) ∧ K (rngD 0 j.toNat) none ρ1
  | _ => False
@[simp] def iRange2 (w : WA) : WI := fun ρ K => w ρ fun rs ρ1 => match rs with
  | [.d (.int i), .d (.int j)] => (-(2 ^ 62) ≤ i ∧ i < 2 ^ 62 ∧ -(2 ^ 62) ≤ j ∧ j < 2 ^ 62) ∧ K (rngD i (j - i).toNat) none ρ1
  | _ => False
theorem wk_range {O : Addr → Prop} {ρ : Rho} {σ : Stt} {H : Hp} {lo : Int} {n : Nat} : WkOk Z O ρ σ none (Itr lo n) (rngD lo n) H := by
  have l : (rngD lo n).length = n := by unfold rngD; simp
  refine ⟨trivial, fun _ => True, YFn fun i => .int (lo + i), by rw [l]; exact walk_range, fun A _ => ⟨fun _ _ => trivial, fun i H1 x H2 hi k y => ?_⟩⟩
  obtain ⟨rfl, rfl⟩ := y
  exact ⟨Same.refl _, _, rngD_get (by rw [l] at hi; exact hi), fun U _ _ => Is.int _⟩
theorem di_range1 {tg a : Expr} {w : WA} {p pos : Pos} (hg : Gl X "range") (hm : X.mg "range" = none) (ha : DA Z X [a] w) (hs : starEach [a] X.env = [(false, eval a X.env)] := by rfl) : DI Z X tg (.Call (.Name "range" p) [a] [] pos) (iRange1 w) := by
  refine PIweak (pi_range1 hg hm ha hs) fun σ H Q ⟨O, ρ, K, R, hw, q⟩ => ⟨O, ρ, _, R, hw, fun rs ρ1 vs H1 hk R1 s ok _ => ?_⟩
  match rs, vs, ok, hk with
  | [.d (.int j)], [v], ⟨h, _⟩, ⟨⟨b1, b2⟩, hk⟩ =>
    have h : Is Z _ v (.int j) := h
    cases h
    exact ⟨j, rfl, b1, b2, q _ _ _ _ _ hk R1 s wk_range⟩
theorem di_range2 {tg a b : Expr} {w : WA} {p pos : Pos} (hg : Gl X "range") (hm : X.mg "range" = none) (ha : DA Z X [a, b] w) (hs : starEach [a, b] X.env = [(false, eval a X.env), (false, eval b X.env)] := by rfl) (hs2 : starEach [b] X.env = [(false, eval b X.env)] := by rfl) : DI Z X tg (.Call (.Name "range" p) [a, b] [] pos) (iRange2 w) := by
  refine PIweak (pi_range2 hg hm ha hs hs2) fun σ H Q ⟨O, ρ, K, R, hw, q⟩ => ⟨O, ρ, _, R, hw, fun rs ρ1 vs H1 hk R1 s ok _ => ?_⟩
  match rs, vs, ok, hk with
  | [.d (.int i), .d (.int j)], [v, u], ⟨h, h2, _⟩, ⟨b, hk⟩ =>
    have h : Is Z _ v (.int i) := h
    have h2 : Is Z _ u (.int j) := h2
    cases h
    cases h2
    exact ⟨i, j, rfl, b, q _ _ _ _ _ hk R1 s wk_range⟩
/-! ### for -/
def forD (g : WG) (w : WS) (E : EndsD) (lk : Option Nat) : List PD → Rho → Prop
  | [], ρ => E.nx (unl ρ lk)
  | d :: ds, ρ => g d ρ fun ρ1 => w { nx := fun ρ2 => forD g w E lk ds ρ2, ct := fun ρ2 => forD g w E lk ds ρ2, bk := fun ρ2 => E.nx (unl ρ2 lk), rt := fun r ρ2 => E.rt r (unl ρ2 lk) } ρ1
@[simp] def sFor (w : WI) (g : WG) (b : WS) : WS := fun E ρ => w ρ fun ds lk ρ1 => forD g b E lk ds (lockAt ρ1 lk)
theorem ds_for {tg iter : Expr} {body : List Stmt} {w : WI} {js : List Nat} {g : WG} {b : WS} {pos : Pos} (hp : PassesOwn (model X.prog X.w) X.A X.env X.xe) (hc : X.calm = true) (hi : DI Z X tg iter w) (hg : DG Z X tg js g) (hb : DSs Z X body b)
    (hs : ∀ x, foldedSetIterable iter X.env x = pure x := by intro _; rfl) : DS Z X (.For tg iter body [] pos) (sFor w g b) := by
  refine PSweak (ps_for hp hc hi hg hb hs) fun D σ H ⟨O, ρ, E, R, hw, e⟩ => ⟨O, ρ, _, R, hw, fun ds lk ρ1 J H1 hk R1 s wk => ?_⟩
  obtain ⟨okl, G, Y, wlk, hA⟩ := wk
  obtain ⟨hG, hY⟩ := hA _ ApX.no
  have Rl := lock_rel okl R1
  have fin : ∀ {ρ2 : Rho} {σ2 : Stt} {H2 : Hp}, E.nx (unl ρ2 lk) → Rel Z O ρ2 σ2 H2 → Stp (lockAt ρ1 lk) σ H1 ρ2 σ2 H2 → D.nx σ2 H2 := fun {ρ2 σ2 H2} h R2 s2 => by
    obtain ⟨g1, g2⟩ := unlock_all okl R2 s2
    exact e.nx _ _ _ h g1 (s.toStp.trans g2)
  refine for_it wlk (fun i σ2 H2 => ∃ ρ2, Rel Z O ρ2 σ2 H2 ∧ Stp (lockAt ρ1 lk) σ H1 ρ2 σ2 H2 ∧ forD g b E lk (ds.drop i) ρ2) ⟨lockAt ρ1 lk, Rl, Stp.refl, hk⟩ (fun i σ2 H2 _ ⟨ρ2, R2, s2, _⟩ => hG H2 s2.kept) (fun i x σ2 H2 H3 hlt ⟨ρ2, R2, s2, h2⟩ y => ?_) fun σ2 H2 ⟨ρ2, R2, s2, h2⟩ => ?_
  · obtain ⟨sm, d, hd, hx⟩ := hY i H2 x H3 hlt s2.kept y
    have hx := hx (Hid O ρ2 σ2) (fun v e h => by rw [← lock_hid okl] at h; exact s2.is h) (fun a => R2.hidThere)
    rw [List.drop_eq_getElem_cons hlt] at h2
    have hd2 : ds[i] = d := by
      have := List.getElem?_eq_getElem hlt
      rw [hd] at this
      exact (Option.some.inj this).symm
    rw [hd2] at h2
    refine ⟨O, ρ2, d, _, R2.grow sm, hx, h2, fun ρ3 σ3 hk3 R3 s3 _ _ => ?_⟩
    have s13 := (s2.trans (Stp.grow sm)).trans s3
    refine ⟨O, ρ3, _, R3, hk3, fun ρ4 σ4 H4 h4 R4 s4 => ⟨ρ4, R4, s13.trans s4, h4⟩, fun ρ4 σ4 H4 h4 R4 s4 => fin h4 R4 (s13.trans s4), fun ρ4 σ4 H4 h4 R4 s4 => ⟨ρ4, R4, s13.trans s4, h4⟩, fun r ρ4 v σ4 H4 h4 R4 s4 ok => ?_⟩
    have s14 := s13.trans s4
    obtain ⟨g1, g2⟩ := unlock_all okl R4 s14
    exact e.rt _ _ _ _ _ h4 g1 (s.toStp.trans g2) (((ok.back s13).unlock okl s14).back s.toStp)
  · rw [List.drop_length] at h2
    exact fin h2 R2 s2
end
end Dd

/-! Comprehensions of one clause. -/
namespace Dd
open PySem PySem.Spec PyProof.Rows L2 PySem.W Cb
section
variable {Z : Zz} {O : Addr → Prop} {ρ ρ1 ρ' : Rho} {σ σ1 σ' : Stt} {H H1 H' : Hp} {D : Addr}
/-- a hidden object that is in no slot changes -/
theorem Rel.updO {o : HO} (R : Rel Z O ρ σ H) (hD : O D) (n : ∀ (i : Nat) (o l : Bool) (m : MO), ρ[i]? = some (Sl.mut o l m) → ¬ At σ i D) : Rel Z O ρ σ (upd H D o) := by
  have sm : Same (hide (Hid O ρ σ) H) (hide (Hid O ρ σ) (upd H D o)) := hide_to fun b u n e => ⟨n, by rw [upd_ne (fun z => n (by rw [z]; exact .inl hD))]; exact e⟩
  refine ⟨R.len, fun i d h => ?_, fun i o l m h => ?_, R.apart, fun a ha => ?_⟩
  · obtain ⟨v, h1, h2⟩ := R.vals i d h
    exact ⟨v, h1, h2.to sm⟩
  · obtain ⟨a, h1, h2, h3⟩ := R.muts i o l m h
    have na : a ≠ D := fun z => n i o l m h (by rw [← z]; exact h1)
    exact ⟨a, h1, h2, h3.to sm fun u e => by rw [upd_ne na]; exact e⟩
  · by_cases z : a = D
    · subst z
      rw [upd_same]
      exact fun q => by cases q
    · rw [upd_ne z]
      exact R.odom a ha
theorem Stp.updN {o : HO} (s : Stp ρ σ H ρ' σ' H') (hD : H D = none) : Stp ρ σ H ρ' σ' (upd H' D o) :=
  ⟨fun b u n e => by rw [upd_ne (ne_of_none e hD)]; exact s.keep b u n e, fun b h => by
    by_cases z : b = D
    · rw [z, upd_same]
      exact fun q => by cases q
    · rw [upd_ne z]
      exact s.dom b h, s.own, s.hold⟩
theorem sameO {o : HO} (hD : O D) : Same (hide (Hid O ρ σ) H) (hide (Hid O ρ σ) (upd H D o)) := hide_to fun b u n e => ⟨n, by rw [upd_ne (fun z => n (by rw [z]; exact .inl hD))]; exact e⟩
/-- the list under way stands in no slot -/
theorem not_in {ρ0 : Rho} {σ0 : Stt} {H0 : Hp} (R0 : Rel Z O ρ0 σ0 H0) (hD : H0 D = none) (R : Rel Z (fun b => O b ∨ b = D) ρ σ H) (s : Stp ρ0 σ0 H0 ρ σ H) : ∀ (i : Nat) (o l : Bool) (m : MO), ρ[i]? = some (Sl.mut o l m) → ¬ At σ i D := fun i o l m h z => by
  obtain ⟨a, h1, h2, _⟩ := R.muts i o l m h
  have e := h1.inj z
  subst e
  have ho := h2.mp (.inr rfl)
  rcases s.own i o l m a h z with ⟨m2, h3, h4⟩ | ⟨h3, _, _⟩
  · exact R0.hidThere (.inr ⟨i, o, l, m2, h3, h4⟩) hD
  · rw [h3] at ho
    cases ho
theorem not_tch (n : ∀ (i : Nat) (o l : Bool) (m : MO), ρ[i]? = some (Sl.mut o l m) → ¬ At σ i D) : ¬ Tch ρ σ D := fun ⟨i, o, m, h1, h2⟩ => n i o false m h1 h2
end
section
variable {Z : Zz} {X : Cx}
@[simp] def dYes : WT := fun ρ K => K true ρ
abbrev DTs (Z : Zz) (X : Cx) (ifs : List Expr) (w : WT) : Prop := PTs X ifs (tMT Z w)
theorem dts_nil : DTs Z X [] dYes := ⟨fun pins s σ H Q I ⟨O, ρ, K, R, h, q⟩ => pts_nil.run pins s σ H Q I (q _ _ _ h R Est.refl)⟩
theorem dts_one {c : Expr} {t : WT} (h : DT Z X c t) : DTs Z X [c] t := pts_one h
def lcD (g : WG) (t : WT) (w : WE) (vs : List Nat) : List PD → List PD → Rho → (List PD → Rho → Prop) → Prop
  | [], acc, ρ, k => k acc ρ
  | d :: ds, acc, ρ, k => g d ρ fun ρ1 => t ρ1 fun b ρ2 => if b = true then w ρ2 fun r ρ3 => toD r ρ3 fun x ρ4 => lcD g t w vs ds (acc ++ [x]) (wipeR ρ4 vs) k else lcD g t w vs ds acc (wipeR ρ2 vs) k
@[simp] def dLc (wi : WI) (g : WG) (t : WT) (w : WE) (vs : List Nat) : WE := fun ρ K => wi ρ fun ds lk ρ1 => ds.length ≤ 100000 ∧ NoMut ρ1 vs ∧ lcD g t w vs ds [] (wipeR (lockAt ρ1 lk) vs) fun acc ρ2 => K (.m (.lst acc)) (unl ρ2 lk)
theorem noMut_lock {ρ : Rho} {lk : Option Nat} {vs : List Nat} (ok : okLk ρ lk) (n : NoMut ρ vs) : NoMut (lockAt ρ lk) vs := fun i hi o l m h => by
  cases lk with
  | none => exact n i hi o l m h
  | some j =>
    obtain ⟨l', g⟩ := (lock_lk ok).bwd h
    exact n i hi o l' m g
theorem lc_ok {wi : WI} {g : WG} {t : WT} {w : WE} {js vs : List Nat} {σ : Stt} {H : Hp} {Q : VK} (hjs : ∀ j ∈ js, j ∈ vs) (h : tM Z (dLc wi g t w vs) σ H Q) : tLc (tI Z wi) (tG Z js g) (tMT Z t) (tM Z w) vs σ H Q := by
  obtain ⟨O, ρ, K, R, hw, q⟩ := h
  refine ⟨O, ρ, _, R, hw, fun ds lk ρ1 J H1 ⟨hlen, hno, hk⟩ R1 s wk D nD => ?_⟩
  obtain ⟨okl, G, Y, wlk, hA⟩ := wk
  obtain ⟨hG, hY⟩ := hA _ ApX.no
  have Rl := lock_rel okl R1
  have nol := noMut_lock okl hno
  have wp := wp_wipe Rl nol
  have s0 : Stp (lockAt ρ1 lk) σ H1 (wipeR (lockAt ρ1 lk) vs) (wipe σ vs) (upd H1 D (.lst [])) := wp.stp.trans (Stp.grow (same_upd nD))
  refine lc_it wlk (fun i H2 => ∃ (ρ2 : Rho) (acc : List PD) (xs : List V), Rel Z (fun b => O b ∨ b = D) ρ2 (wipe σ vs) H2 ∧ Stp (lockAt ρ1 lk) σ H1 ρ2 (wipe σ vs) H2 ∧ NM (lockAt ρ1 lk) ρ2 ∧ (∀ j ∈ vs, j < ρ2.length → ρ2[j]? = some Sl.un) ∧
      H2 D = some (.lst xs) ∧ IsAll Z (hide (Hid (fun b => O b ∨ b = D) ρ2 (wipe σ vs)) H2) xs acc ∧ acc.length ≤ i ∧ lcD g t w vs (ds.drop i) acc ρ2 fun acc ρ2 => K (.m (.lst acc)) (unl ρ2 lk))
    ⟨_, [], [], wp.rel (Rl.growX (same_upd nD) nD (by rw [upd_same]; exact fun z => by cases z)), s0, wp.nm, fun j hj hl => wipeR_in (by rw [wipeR_len] at hl; exact hl) hj, upd_same, .nil, Nat.le_refl _, hk⟩
    (fun i H2 _ ⟨ρ2, acc, xs, R2, s2, _⟩ => hG H2 s2.kept) (fun i x H2 H3 hlt ⟨ρ2, acc, xs, R2, s2, n2, u2, hD, ha, hal, h2⟩ y => ?_) fun H2 ⟨ρ2, acc, xs, R2, s2, n2, u2, hD, ha, hal, h2⟩ => ?_
  · obtain ⟨sm, d, hd, hx⟩ := hY i H2 x H3 hlt s2.kept y
    have hx := hx (Hid (fun b => O b ∨ b = D) ρ2 (wipe σ vs)) (fun v e h => by
      rw [← lock_hid okl] at h
      refine (h.to (s2.sameN nD)).to (hide_less fun b z => ?_)
      rcases z with (z | z) | z
      · exact .inl (.inl z)
      · exact .inr z
      · exact .inl (.inr z)) (fun a => R2.hidThere)
    rw [List.drop_eq_getElem_cons hlt] at h2
    have hd2 : ds[i] = d := by
      have := List.getElem?_eq_getElem hlt
      rw [hd] at this
      exact (Option.some.inj this).symm
    rw [hd2] at h2
    refine ⟨_, ρ2, d, _, R2.grow sm, hx, h2, fun ρ3 σ3 hk3 R3 s3 n3 t3 => ?_⟩
    have s13 := (s2.trans (Stp.grow sm)).trans s3
    have ew : wipe σ3 vs = wipe σ vs := wipe_eq (by rw [t3.1, wipe_length]) fun j hj => by rw [t3.2 j (fun z => hj (hjs j z)), wipe_out hj]
    refine ⟨ew, _, ρ3, _, R3, hk3, fun b ρ4 H4 hk4 R4 s4 => ?_⟩
    have s14 := s13.trans s4.toStp
    have not3 := not_in Rl nD R3 s13
    have hD4 : H4 D = some (.lst xs) := s4.keep D _ (not_tch not3) (sm D _ hD)
    have nomut : ∀ {ρ5 : Rho}, NM ρ4 ρ5 → NoMut ρ5 vs := fun {ρ5} n5 j hj o l m h => by
      obtain ⟨m4, h4⟩ := n5 j o l m h
      obtain ⟨m3, h3⟩ := s4.nm j o l m4 h4
      obtain ⟨m2, h2⟩ := n3 j o l m3 h3
      have := u2 j hj (List.getElem?_eq_some_iff.mp h2).1
      rw [h2] at this
      cases this
    have ha4 : IsAll Z (hide (Hid (fun b => O b ∨ b = D) ρ4 σ3) H4) xs acc := ((Stp.grow sm).trans s3 |>.trans s4.toStp).isAll ha
    cases b with
    | false =>
      have wp5 := wp_wipe R4 (nomut (ρ5 := ρ4) fun i o l m h => ⟨m, h⟩)
      rw [ew] at wp5
      refine ⟨_, acc, xs, wp5.rel R4, s14.trans wp5.stp, ((n2.trans n3).trans s4.nm).trans wp5.nm, fun j hj hl => wipeR_in (by rw [wipeR_len] at hl; exact hl) hj, hD4, by rw [wp5.hid]; exact ha4, by omega, hk4⟩
    | true =>
      refine ⟨_, ρ4, _, R4, hk4, fun r ρ5 v H5 hk5 R5 s5 ok5 => ?_⟩
      obtain ⟨xd, ρ6, hk6, R6, s6, hxd⟩ := toD_ok R5 ok5.1 hk5
      have s56 := s5.trans s6
      have s16 := s14.trans s56.toStp
      have not4 := not_in Rl nD R4 s14
      have not6 := not_in Rl nD R6 s16
      have hD5 : H5 D = some (.lst xs) := s56.keep D _ (not_tch not4) hD4
      have ha6 := s56.toStp.isAll (Z := Z) ha4
      have hl := ha.len
      refine ⟨xs, hD5, ?_, ?_⟩
      · have : (100000 : Nat) ≤ sizeLine := by decide
        omega
      · have R7 : Rel Z (fun b => O b ∨ b = D) ρ6 σ3 (upd H5 D (.lst (xs ++ [v]))) := R6.updO (.inr rfl) not6
        have wp7 := wp_wipe R7 (nomut s56.nm)
        rw [ew] at wp7
        refine ⟨_, acc ++ [xd], xs ++ [v], wp7.rel R7, (s16.updN nD).trans wp7.stp, (((n2.trans n3).trans s4.nm).trans s56.nm).trans wp7.nm, fun j hj hl => wipeR_in (by rw [wipeR_len] at hl; exact hl) hj, upd_same, ?_, by rw [List.length_append, List.length_singleton]; omega, hk6⟩
        rw [wp7.hid]
        exact (ha6.app (.cons hxd .nil)).to (sameO (.inr rfl))
  · rw [List.drop_length] at h2
    have wb := wp_back (vs := vs) (σ := σ) (by have := R2.len; rw [wipe_length] at this; exact this) u2
    have Rb := wb.rel R2
    have sb := s2.trans wb.stp
    obtain ⟨gx, gs⟩ := unlock_all okl Rb sb
    have gn := unlock_nm okl sb (n2.trans wb.nm)
    have nH : ¬ Hid O (unl ρ2 lk) σ D := fun z => by
      rcases gs.hid z with z | z
      · exact R1.hidThere z nD
      · rw [hD] at *
        rcases z with z
        rcases ‹Hid O (unl ρ2 lk) σ D› with z | ⟨i, o, l, m, h1, h2⟩
        · exact R1.odom D z nD
        · exact not_in R1 nD gx gs i o l m h1 h2
    have g0 : Rel Z O (unl ρ2 lk) σ H2 := Rel.drop (l := [D]) (by rw [OT_one]; exact gx) fun a ha => by rw [List.mem_singleton.mp ha]; exact nH
    refine q (.m (.lst acc)) (unl ρ2 lk) (.ref D) H2 h2 g0 (s.trans ⟨gs, gn⟩) ⟨⟨D, rfl, Classical.byContradiction fun z => s.dom D z nD, nH, xs, hD, ha.to (hide_less fun b z => ?_)⟩, fun a e => by cases e; exact gx⟩
    have hid1 : Hid (fun b => O b ∨ b = D) (unl ρ2 lk) σ = Hid (fun b => O b ∨ b = D) ρ2 (wipe σ vs) := by
      rw [← wb.hid]
      cases lk with
      | none => rfl
      | some i =>
        have k := lock_lk okl
        obtain ⟨o0, m0, a1, a2⟩ := k.at_
        obtain ⟨e0, m1, b1, b2⟩ := sb.hold i o0 true m0 a2 (.inr rfl)
        exact (unl_lk b1).hid.symm
    rw [← hid1]
    rcases z with (z | z) | z
    · exact .inl (.inl z)
    · exact .inr z
    · exact .inl (.inr z)
theorem de_lc {elt tg iter : Expr} {ifs : List Expr} {scope : Scope} {own : List (Str × Nat)} {pos : Pos} {wi : WI} {js : List Nat} {g : WG} {t : WT} {w : WE} (hc : X.calm = true) (hN : X.N.Nodup) (hi : DI Z X tg iter wi) (ok : BlkOk X.N X.env.scope scope own)
    (hg : ∀ (s : Shared) (H : Hp) (C : Addr) (cl : List (Str × Addr)) (fp : List Addr), DG Z (X.blk s H scope (compEnvC scope cl C X.env) fp) tg js g) (ht : ∀ (s : Shared) (H : Hp) (C : Addr) (cl : List (Str × Addr)) (fp : List Addr), DTs Z (X.blk s H scope (compEnvC scope cl C X.env) fp) ifs t)
    (he : ∀ (s : Shared) (H : Hp) (C : Addr) (cl : List (Str × Addr)) (fp : List Addr), DE Z (X.blk s H scope (compEnvC scope cl C X.env) fp) elt w) (hjs : ∀ j ∈ js, j ∈ own.map (·.2) := by decide) (hs : ∀ x, foldedSetIterable iter X.env x = pure x := by intro _; rfl) :
    DE Z X (.ListComp elt [⟨tg, iter, ifs, 0⟩] scope pos) (dLc wi g t w (own.map (·.2))) := PEweak (pe_lc hc hN hi ok hg ht he hs) fun σ H Q h => lc_ok hjs h
theorem ds_setLc {i : Nat} {y : Str} {py : Pos} {elt tg iter : Expr} {ifs : List Expr} {scope : Scope} {own : List (Str × Nat)} {pos spos : Pos} {wi : WI} {js : List Nat} {g : WG} {t : WT} {w : WE} (hc : X.calm = true) (hN : X.N.Nodup) (hy : X.N[i]? = some y) (hyl : X.env.scope.names.lookup y = some .local)
    (hsw : swapsWith (.ListComp elt [⟨tg, iter, ifs, 0⟩] scope pos) (some (.Name y py)) spos.line X.env = pure true) (hi : DI Z X tg iter wi) (ok : BlkOk X.N X.env.scope scope own)
    (hg : ∀ (s : Shared) (H : Hp) (C : Addr) (cl : List (Str × Addr)) (fp : List Addr), DG Z (X.blk s H scope (compEnvC scope cl C X.env) fp) tg js g) (ht : ∀ (s : Shared) (H : Hp) (C : Addr) (cl : List (Str × Addr)) (fp : List Addr), DTs Z (X.blk s H scope (compEnvC scope cl C X.env) fp) ifs t)
    (he : ∀ (s : Shared) (H : Hp) (C : Addr) (cl : List (Str × Addr)) (fp : List Addr), DE Z (X.blk s H scope (compEnvC scope cl C X.env) fp) elt w) (hjs : ∀ j ∈ js, j ∈ own.map (·.2) := by decide) (hs : ∀ x, foldedSetIterable iter X.env x = pure x := by intro _; rfl) :
    DS Z X (.Assign [.Name y py] (.ListComp elt [⟨tg, iter, ifs, 0⟩] scope pos) spos) (sSet i (dLc wi g t w (own.map (·.2)))) := PSweak (ps_setLc hc hN hy hyl hsw hi ok hg ht he hs) fun D σ H h => lc_ok hjs (asg_end h)
end
end Dd

/-! Defs by data, their calls. -/
namespace Dd
open PySem PySem.Spec PyProof.Rows L2 PySem.W Cb
/-- what a def does with data and with the objects that are handed in (.m): its result, what the objects are behind it -/
abbrev Fnc := List RV → (RV → List MO → Prop) → Prop
def ArgsOk (Z : Zz) (O : Addr → Prop) (H : Hp) : List V → List RV → Prop
  | [], [] => True
  | v :: vs, .d d :: rs => Is Z (hide O H) v d ∧ ArgsOk Z O H vs rs
  | v :: vs, .m mo :: rs => (∃ a, v = .ref a ∧ O a ∧ ObM Z (hide O H) H a mo) ∧ ArgsOk Z O H vs rs
  | _, _ => False
theorem ArgsOk.len {Z : Zz} {O : Addr → Prop} {H : Hp} : ∀ {vs : List V} {rs : List RV}, ArgsOk Z O H vs rs → vs.length = rs.length
  | [], [], _ => rfl
  | _ :: vs, .d _ :: rs, ⟨_, t⟩ => congrArg Nat.succ t.len
  | _ :: vs, .m _ :: rs, ⟨_, t⟩ => congrArg Nat.succ t.len
/-- the returned object is apart -/
def OX (O : Addr → Prop) (r : RV) (v : V) : Addr → Prop := match r with
  | .m _ => fun b => O b ∨ v = .ref b
  | _ => O
structure PostF (Z : Zz) (O : Addr → Prop) (vs : List V) (rs : List RV) (H H' : Hp) (r : RV) (ms : List MO) (v : V) : Prop where
  keep : ∀ b o, b ∉ tmpOf vs rs → H b = some o → H' b = some o
  dom : ∀ b, H b ≠ none → H' b ≠ none
  refs : Paired (fun a m => ObM Z (hide (OX O r v) H') H' a m) (tmpOf vs rs) ms
  ret : match r with
    | .d d => Is Z (hide O H') v d
    | .m mo => ∃ a, v = .ref a ∧ H a = none ∧ ObM Z (hide (OX O r v) H') H' a mo
    | .s _ => False
def spD (Z : Zz) (φ : Fnc) : Sp := fun vs H Q _ => ∃ (O : Addr → Prop) (rs : List RV) (K : RV → List MO → Prop), (∀ a, O a → H a ≠ none) ∧ ArgsOk Z O H vs rs ∧ (tmpOf vs rs).Nodup ∧ φ rs K ∧ ∀ r ms v H', K r ms → PostF Z O vs rs H H' r ms v → Q v H'
/-! ### the body -/
@[simp] def initR (n : Nat) : List RV → Rho
  | [] => List.replicate n .un
  | .d d :: rs => .val d :: initR (n - 1) rs
  | .m m :: rs => .mut false false m :: initR (n - 1) rs
  | .s _ :: rs => .un :: initR (n - 1) rs
@[simp] def parsR (ρ : Rho) : Nat → List RV → List MO
  | _, [] => []
  | i, .m m :: rs => (match ρ[i]? with
    | some (.mut _ _ m') => m'
    | _ => m) :: parsR ρ (i + 1) rs
  | i, _ :: rs => parsR ρ (i + 1) rs
/-- the def's meaning by its body's: n names -/
@[simp] def dDef (k n : Nat) (w : WS) : Fnc := fun rs K => rs.length = k ∧ w { nx := fun ρ => K (.d .none) (parsR ρ 0 rs), rt := fun r ρ => K r (parsR ρ 0 rs) } (initR n rs)
theorem initR_len : ∀ {rs : List RV} {n : Nat}, rs.length ≤ n → (initR n rs).length = n
  | [], n, _ => by unfold initR; simp
  | .d _ :: rs, n, h => by
    have : rs.length + 1 ≤ n := h
    unfold initR
    rw [List.length_cons, initR_len (by omega)]
    omega
  | .m _ :: rs, n, h => by
    have : rs.length + 1 ≤ n := h
    unfold initR
    rw [List.length_cons, initR_len (by omega)]
    omega
  | .s _ :: rs, n, h => by
    have : rs.length + 1 ≤ n := h
    unfold initR
    rw [List.length_cons, initR_len (by omega)]
    omega
theorem initR_val : ∀ {rs : List RV} {n i : Nat} {d : PD}, (initR n rs)[i]? = some (Sl.val d) → rs[i]? = some (.d d)
  | [], n, i, d, h => by
    unfold initR at h
    rw [List.getElem?_replicate] at h
    split at h <;> cases h
  | .d _ :: rs, n, 0, d, h => by unfold initR at h; simp at h; subst h; rfl
  | .m _ :: rs, n, 0, d, h => by unfold initR at h; simp at h
  | .s _ :: rs, n, 0, d, h => by unfold initR at h; simp at h
  | .d _ :: rs, n, i + 1, d, h => by unfold initR at h; simp at h; simpa using initR_val h
  | .m _ :: rs, n, i + 1, d, h => by unfold initR at h; simp at h; simpa using initR_val h
  | .s _ :: rs, n, i + 1, d, h => by unfold initR at h; simp at h; simpa using initR_val h
theorem initR_mut : ∀ {rs : List RV} {n i : Nat} {o l : Bool} {m : MO}, (initR n rs)[i]? = some (Sl.mut o l m) → rs[i]? = some (.m m) ∧ o = false ∧ l = false
  | [], n, i, o, l, m, h => by
    unfold initR at h
    rw [List.getElem?_replicate] at h
    split at h <;> cases h
  | .d _ :: rs, n, 0, o, l, m, h => by unfold initR at h; simp at h
  | .m _ :: rs, n, 0, o, l, m, h => by
    unfold initR at h
    simp only [List.getElem?_cons_zero, Option.some.injEq, Sl.mut.injEq] at h
    obtain ⟨rfl, rfl, rfl⟩ := h
    exact ⟨rfl, rfl, rfl⟩
  | .s _ :: rs, n, 0, o, l, m, h => by unfold initR at h; simp at h
  | .d _ :: rs, n, i + 1, o, l, m, h => by unfold initR at h; simp at h; simpa using initR_mut h
  | .m _ :: rs, n, i + 1, o, l, m, h => by unfold initR at h; simp at h; simpa using initR_mut h
  | .s _ :: rs, n, i + 1, o, l, m, h => by unfold initR at h; simp at h; simpa using initR_mut h
theorem initR_of : ∀ {rs : List RV} {n i : Nat} {m : MO}, rs[i]? = some (.m m) → (initR n rs)[i]? = some (Sl.mut false false m)
  | .d _ :: rs, n, 0, m, h => by simp at h
  | .m _ :: rs, n, 0, m, h => by simp at h; subst h; rfl
  | .s _ :: rs, n, 0, m, h => by simp at h
  | .d _ :: rs, n, i + 1, m, h => by unfold initR; simp only [List.getElem?_cons_succ] at h ⊢; exact initR_of h
  | .m _ :: rs, n, i + 1, m, h => by unfold initR; simp only [List.getElem?_cons_succ] at h ⊢; exact initR_of h
  | .s _ :: rs, n, i + 1, m, h => by unfold initR; simp only [List.getElem?_cons_succ] at h ⊢; exact initR_of h
section
variable {Z : Zz} {O : Addr → Prop} {H H' : Hp}
theorem args_val : ∀ {vs : List V} {rs : List RV} {i : Nat} {d : PD}, ArgsOk Z O H vs rs → rs[i]? = some (.d d) → ∃ v, vs[i]? = some v ∧ Is Z (hide O H) v d
  | [], [], i, d, _, q => by simp at q
  | v :: vs, .d e :: rs, 0, d, ⟨h, _⟩, q => by simp at q; subst q; exact ⟨v, rfl, h⟩
  | v :: vs, .m e :: rs, 0, d, _, q => by simp at q
  | v :: vs, .d e :: rs, i + 1, d, ⟨_, t⟩, q => by simpa using args_val t (by simpa using q)
  | v :: vs, .m e :: rs, i + 1, d, ⟨_, t⟩, q => by simpa using args_val t (by simpa using q)
/-- the objects handed in, by their places -/
theorem args_mut : ∀ {vs : List V} {rs : List RV} {i : Nat} {m : MO}, ArgsOk Z O H vs rs → rs[i]? = some (.m m) → ∃ a, vs[i]? = some (.ref a) ∧ O a ∧ ObM Z (hide O H) H a m ∧ a ∈ tmpOf vs rs
  | [], [], i, d, _, q => by simp at q
  | v :: vs, .d e :: rs, 0, d, _, q => by simp at q
  | v :: vs, .m e :: rs, 0, m, ⟨⟨a, ea, h1, h2⟩, _⟩, q => by
    subst ea
    simp at q
    subst q
    exact ⟨a, rfl, h1, h2, by unfold tmpOf; simp⟩
  | v :: vs, .d e :: rs, i + 1, m, ⟨_, t⟩, q => by
    obtain ⟨a, h1, h2, h3, h4⟩ := args_mut t (by simpa using q)
    refine ⟨a, by simpa using h1, h2, h3, ?_⟩
    rw [tmp_cons]
    exact List.mem_append_right _ h4
  | v :: vs, .m e :: rs, i + 1, m, ⟨_, t⟩, q => by
    obtain ⟨a, h1, h2, h3, h4⟩ := args_mut t (by simpa using q)
    refine ⟨a, by simpa using h1, h2, h3, ?_⟩
    rw [tmp_cons]
    exact List.mem_append_right _ h4
theorem args_apart : ∀ {vs : List V} {rs : List RV} {i j : Nat} {m m' : MO} {a : Addr}, (tmpOf vs rs).Nodup → ArgsOk Z O H vs rs → rs[i]? = some (.m m) → rs[j]? = some (.m m') → vs[i]? = some (.ref a) → vs[j]? = some (.ref a) → i = j
  | [], [], i, j, m, m', a, _, _, q, _, _, _ => by simp at q
  | v :: vs, .d e :: rs, 0, j, m, m', a, _, _, q, _, _, _ => by simp at q
  | v :: vs, .d e :: rs, i + 1, 0, m, m', a, _, _, _, q, _, _ => by simp at q
  | v :: vs, .d e :: rs, i + 1, j + 1, m, m', a, nd, ⟨_, t⟩, q1, q2, q3, q4 => by
    have e0 : tmpOf (v :: vs) (RV.d e :: rs) = tmpOf vs rs := by cases v <;> rfl
    rw [e0] at nd
    have := args_apart nd t (by simpa using q1) (by simpa using q2) (by simpa using q3) (by simpa using q4)
    omega
  | v :: vs, .m e :: rs, 0, 0, m, m', a, _, _, _, _, _, _ => rfl
  | v :: vs, .m e :: rs, 0, j + 1, m, m', a, nd, ⟨⟨b, eb, _⟩, t⟩, q1, q2, q3, q4 => by
    subst eb
    simp at q3
    subst q3
    obtain ⟨c, h1, _, _, h4⟩ := args_mut t (by simpa using q2)
    have q4 : vs[j]? = some (V.ref b) := by simpa using q4
    rw [h1] at q4
    cases q4
    exact ((List.nodup_cons.mp nd).1 h4).elim
  | v :: vs, .m e :: rs, i + 1, 0, m, m', a, nd, ⟨⟨b, eb, _⟩, t⟩, q1, q2, q3, q4 => by
    subst eb
    simp at q4
    subst q4
    obtain ⟨c, h1, _, _, h4⟩ := args_mut t (by simpa using q1)
    have q3 : vs[i]? = some (V.ref b) := by simpa using q3
    rw [h1] at q3
    cases q3
    exact ((List.nodup_cons.mp nd).1 h4).elim
  | v :: vs, .m e :: rs, i + 1, j + 1, m, m', a, nd, ⟨⟨b, eb, _⟩, t⟩, q1, q2, q3, q4 => by
    subst eb
    have := args_apart (List.nodup_cons.mp nd).2 t (by simpa using q1) (by simpa using q2) (by simpa using q3) (by simpa using q4)
    omega
/-- every object of the list is at some place -/
theorem tmp_place : ∀ {vs : List V} {rs : List RV} {a : Addr}, ArgsOk Z O H vs rs → a ∈ tmpOf vs rs → ∃ (i : Nat) (m : MO), rs[i]? = some (RV.m m) ∧ vs[i]? = some (V.ref a)
  | [], [], a, _, h => by cases h
  | v :: vs, .d e :: rs, a, ⟨_, t⟩, h => by
    have e0 : tmpOf (v :: vs) (RV.d e :: rs) = tmpOf vs rs := by cases v <;> rfl
    rw [e0] at h
    obtain ⟨i, m, h1, h2⟩ := tmp_place t h
    exact ⟨i + 1, m, by simpa using h1, by simpa using h2⟩
  | v :: vs, .m e :: rs, a, ⟨⟨b, eb, _⟩, t⟩, h => by
    subst eb
    rcases List.mem_cons.mp h with z | z
    · subst z
      exact ⟨0, e, rfl, rfl⟩
    · obtain ⟨i, m, h1, h2⟩ := tmp_place t z
      exact ⟨i + 1, m, by simpa using h1, by simpa using h2⟩
theorem start_at {N : List Str} {vs : List V} {i : Nat} (h : i < vs.length) : (L2.start N vs)[i]? = some vs[i]? := by
  unfold L2.start
  rw [List.getElem?_append_left (by simpa using h), List.getElem?_map]
  cases e : vs[i]? with
  | none => rw [List.getElem?_eq_none_iff] at e; omega
  | some v => rfl
theorem start_get {N : List Str} {vs : List V} {i : Nat} {v : V} (h : vs[i]? = some v) : (L2.start N vs)[i]? = some (some v) := by
  rw [start_at (List.getElem?_eq_some_iff.mp h).1, h]
theorem start_rel {N : List Str} {vs : List V} {rs : List RV} (hU : ∀ a, O a → H a ≠ none) (ha : ArgsOk Z O H vs rs) (nd : (tmpOf vs rs).Nodup) (hl : rs.length ≤ N.length) : Rel Z O (initR N.length rs) (L2.start N vs) H := by
  have hlen := ha.len
  have hid : ∀ b, Hid O (initR N.length rs) (L2.start N vs) b → O b := fun b z => by
    rcases z with z | ⟨i, o, l, m, h1, h2⟩
    · exact z
    · obtain ⟨h3, _, _⟩ := initR_mut h1
      obtain ⟨a, h4, h5, _⟩ := args_mut ha h3
      have h6 : At (L2.start N vs) i a := start_get h4
      rw [h2.inj h6]
      exact h5
  have sm : Same (hide O H) (hide (Hid O (initR N.length rs) (L2.start N vs)) H) := hide_less hid
  refine ⟨?_, fun i d h => ?_, fun i o l m h => ?_, fun i j o o' l l' m m' a h1 h2 h3 h4 => ?_, hU⟩
  · rw [initR_len hl]
    unfold L2.start
    rw [List.length_append, List.length_map, List.length_replicate]
    omega
  · obtain ⟨v, h1, h2⟩ := args_val ha (initR_val h)
    exact ⟨v, start_get h1, h2.to sm⟩
  · obtain ⟨h1, rfl, rfl⟩ := initR_mut h
    obtain ⟨a, h2, h3, h4, _⟩ := args_mut ha h1
    exact ⟨a, start_get h2, ⟨fun _ => rfl, fun _ => h3⟩, h4.to sm fun _ e => e⟩
  · obtain ⟨g1, _, _⟩ := initR_mut h1
    obtain ⟨g2, _, _⟩ := initR_mut h2
    obtain ⟨b, b1, _⟩ := args_mut ha g1
    obtain ⟨c, c1, _⟩ := args_mut ha g2
    cases h3.inj (show At (L2.start N vs) i b from start_get b1)
    cases h4.inj (show At (L2.start N vs) j c from start_get c1)
    exact args_apart nd ha g1 g2 b1 c1
theorem parsR_ok {ρ ρ0 : Rho} {σ σ0 : Stt} {Hh : Hp} : ∀ {vs : List V} {rs : List RV} (i : Nat), ArgsOk Z O H vs rs → (∀ (j : Nat) (m : MO) (a : Addr), rs[j]? = some (.m m) → vs[j]? = some (.ref a) → ∃ o l m', ρ[i + j]? = some (Sl.mut o l m') ∧ ObM Z Hh H' a m') →
    Paired (fun a m => ObM Z Hh H' a m) (tmpOf vs rs) (parsR ρ i rs)
  | [], [], i, _, _ => .nil
  | v :: vs, .d e :: rs, i, ⟨_, t⟩, k => by
    have e0 : tmpOf (v :: vs) (RV.d e :: rs) = tmpOf vs rs := by cases v <;> rfl
    rw [e0]
    exact parsR_ok (ρ0 := ρ0) (σ := σ) (σ0 := σ0) (i + 1) t fun j m a h1 h2 => by
      have := k (j + 1) m a (by simpa using h1) (by simpa using h2)
      rw [show i + 1 + j = i + (j + 1) by omega]
      exact this
  | v :: vs, .m e :: rs, i, ⟨⟨a, ea, _⟩, t⟩, k => by
    subst ea
    obtain ⟨o, l, m', h1, h2⟩ := k 0 e a rfl rfl
    have h1 : ρ[i]? = some (Sl.mut o l m') := h1
    refine .cons ?_ (parsR_ok (ρ0 := ρ0) (σ := σ) (σ0 := σ0) (i + 1) t fun j m a h1 h2 => by
      have := k (j + 1) m a (by simpa using h1) (by simpa using h2)
      rw [show i + 1 + j = i + (j + 1) by omega]
      exact this)
    rw [h1]
    exact h2
/-- what the body left is what the caller finds -/
theorem post_of {N : List Str} {vs : List V} {rs : List RV} {ρ : Rho} {σ : Stt} {r : RV} {v : V} (hU : ∀ a, O a → H a ≠ none) (ha : ArgsOk Z O H vs rs) (R : Rel Z O ρ σ H') (s : Stp (initR N.length rs) (L2.start N vs) H ρ σ H') (ok : RtOk Z O (initR N.length rs) (L2.start N vs) H ρ σ H' v r) :
    PostF Z O vs rs H H' r (parsR ρ 0 rs) v := by
  have keep : ∀ b o, b ∉ tmpOf vs rs → H b = some o → H' b = some o := fun b o n e => s.keep b o (fun ⟨i, o, m, h1, h2⟩ => by
    obtain ⟨h3, _, _⟩ := initR_mut h1
    obtain ⟨a, h4, _, _, h5⟩ := args_mut ha h3
    have h6 : At (L2.start N vs) i a := start_get h4
    rw [h2.inj h6] at n
    exact n h5) e
  have par : ∀ (O2 : Addr → Prop) (Hh : Hp), Rel Z O2 ρ σ H' → Same (hide (Hid O2 ρ σ) H') Hh → ∀ (j : Nat) (m : MO) (a : Addr), rs[j]? = some (.m m) → vs[j]? = some (.ref a) → ∃ o l m', ρ[0 + j]? = some (Sl.mut o l m') ∧ ObM Z Hh H' a m' := fun O2 Hh R2 sm j m a h1 h2 => by
    obtain ⟨e1, m', h3, _⟩ := s.hold j false false m (initR_of h1) (.inl rfl)
    obtain ⟨b, h4, _, h5⟩ := R2.muts j false false m' h3
    have h6 : At σ j a := by
      unfold At
      rw [e1, start_get h2]
    cases h4.inj h6
    exact ⟨false, false, m', by rw [Nat.zero_add]; exact h3, h5.to sm fun _ e => e⟩
  match r, ok with
  | .d d, ok => exact ⟨keep, s.dom, parsR_ok (ρ0 := ρ) (σ := σ) (σ0 := σ) 0 ha (par O _ R (hide_less fun b z => .inl z)), ok⟩
  | .m mo, ⟨a, e, n, nO, ob, Rx⟩ =>
    subst e
    have eOX : OX O (.m mo) (.ref a) = fun b => O b ∨ b = a := by
      funext b
      refine propext ⟨fun z => z.imp id fun z => by cases z; rfl, fun z => z.imp id fun z => by rw [z]⟩
    refine ⟨keep, s.dom, parsR_ok (ρ0 := ρ) (σ := σ) (σ0 := σ) 0 ha (par _ _ Rx (hide_less fun b z => ?_)), a, rfl, ?_, by rw [eOX]; exact ob⟩
    · rw [eOX] at z
      exact .inl z
    · rcases n with n | ⟨i, l, m, h1, h2⟩
      · exact n
      · obtain ⟨_, h3, _⟩ := initR_mut h1
        cases h3
end
section
variable {P : Program} {w' : World} {K : Frag} {mg : Str → Option Value} {base : Heap}
/-- THE RULE: a def by its body's data -/
theorem fn_D {x q : Str} {st : Stmt} {f : Addr} {fd : FuncData} {N ps : List Str} {k : Nat} {w : WS} (F : Fun K x q st f fd) (S : FnScope N ps (defScope st)) (hN : ps.length ≤ N.length)
    (hb : ∀ (cdv : Value) (A : Around) (out : List Env) (s : Shared) (H : Hp) (E : XK), Gu A → Room k (A.deeper (envOfC q (defScope st) s.heap.objs.size f cdv)) → DSs ⟨P, K, w'⟩ (cxOf CX0 P w' K mg base N q (defScope st) f cdv A out s H E).nox (defBody st) w) :
    FnG P w' K mg base (k + 1) f fd ps (spD ⟨P, K, w'⟩ (dDef ps.length N.length w)) :=
  fnG_mk F S (fun vs H Q E ⟨O, rs, KK, hU, ha, nd, hw, q⟩ => by rw [ha.len]; exact hw.1) fun cdv A out s H vs Q E g hr ⟨O, rs, KK, hU, ha, nd, hw, q⟩ => by
    refine ⟨_, hb cdv A out s H E g hr, O, initR N.length rs, _, start_rel hU ha nd (by rw [hw.1]; exact hN), hw.2, fun ρ' σ' H' h R s => ?_, fun ρ' σ' H' h _ _ => (show False from h).elim, fun ρ' σ' H' h _ _ => (show False from h).elim, fun r ρ' v σ' H' h R s ok => ?_⟩
    · exact q (.d .none) _ .non H' h (post_of hU ha R s (r := .d .none) Is.non)
    · exact q r _ v H' h (post_of hU ha R s ok)
theorem FnG.mono {k : Nat} {f : Addr} {fd : FuncData} {ps : List Str} {Z : Zz} {φ ψ : Fnc} (h : FnG P w' K mg base k f fd ps (spD Z φ)) (i : ∀ rs K, ψ rs K → φ rs K) : FnG P w' K mg base k f fd ps (spD Z ψ) :=
  ⟨fun vs H Q E ⟨O, rs, KK, hU, ha, nd, hw, q⟩ => h.ln vs H Q E ⟨O, rs, KK, hU, ha, nd, i _ _ hw, q⟩, fun A out s H ar us vs Q E g hr e0 hb r ⟨O, rs, KK, hU, ha, nd, hw, q⟩ => h.go A out s H ar us vs Q E g hr e0 hb r ⟨O, rs, KK, hU, ha, nd, i _ _ hw, q⟩⟩
end
end Dd

/-! Calls of defs, by data. -/
namespace Dd
open PySem PySem.Spec PyProof.Rows L2 PySem.W Cb
/-- the arguments as the def sees them -/
@[simp] def argsK : List RV → Rho → (List RV → Prop) → Prop
  | [], _, k => k []
  | .d d :: rs, ρ, k => argsK rs ρ fun bs => k (.d d :: bs)
  | .m m :: rs, ρ, k => argsK rs ρ fun bs => k (.m m :: bs)
  | .s i :: rs, ρ, k => match ρ[i]? with
    | some (.val d) => argsK rs ρ fun bs => k (.d d :: bs)
    | some (.mut _ false m) => argsK rs ρ fun bs => k (.m m :: bs)
    | _ => False
/-- the slots whose objects are handed over -/
@[simp] def mutIx : List RV → Rho → List Nat
  | [], _ => []
  | .s i :: rs, ρ => match ρ[i]? with
    | some (.mut _ _ _) => i :: mutIx rs ρ
    | _ => mutIx rs ρ
  | _ :: rs, ρ => mutIx rs ρ
/-- the objects as they are behind the call -/
@[simp] def backR : List RV → List MO → Rho → Rho
  | .d _ :: rs, ms, ρ => backR rs ms ρ
  | .m _ :: rs, _ :: ms, ρ => backR rs ms ρ
  | .s i :: rs, m :: ms, ρ => match ρ[i]? with
    | some (.mut o l _) => backR rs ms (ρ.set i (.mut o l m))
    | _ => backR rs (m :: ms) ρ
  | .s i :: rs, [], ρ => backR rs [] ρ
  | _, _, ρ => ρ
/-- the same names hold objects, the same names hold data -/
structure Shp (ρ ρ' : Rho) : Prop where
  len : ρ'.length = ρ.length
  val : ∀ (i : Nat) (d : PD), ρ'[i]? = some (Sl.val d) ↔ ρ[i]? = some (Sl.val d)
  mu : ∀ (i : Nat) (o l : Bool), (∃ m, ρ'[i]? = some (Sl.mut o l m)) ↔ ∃ m, ρ[i]? = some (Sl.mut o l m)
theorem Shp.refl {ρ : Rho} : Shp ρ ρ := ⟨rfl, fun _ _ => Iff.rfl, fun _ _ _ => Iff.rfl⟩
theorem Shp.trans {ρ ρ1 ρ' : Rho} (h : Shp ρ ρ1) (k : Shp ρ1 ρ') : Shp ρ ρ' := ⟨k.len.trans h.len, fun i d => (k.val i d).trans (h.val i d), fun i o l => (k.mu i o l).trans (h.mu i o l)⟩
theorem shp_set {ρ : Rho} {i : Nat} {o l : Bool} {m m' : MO} (h : ρ[i]? = some (Sl.mut o l m)) : Shp ρ (ρ.set i (.mut o l m')) := by
  have il := (List.getElem?_eq_some_iff.mp h).1
  refine ⟨List.length_set, fun j d => ?_, fun j o' l' => ?_⟩
  · by_cases e : i = j
    · subst e
      rw [List.getElem?_set_self il, h]
      exact ⟨fun z => (by cases z), fun z => (by cases z)⟩
    · rw [List.getElem?_set_ne e]
  · by_cases e : i = j
    · subst e
      rw [List.getElem?_set_self il, h]
      exact ⟨fun ⟨m2, z⟩ => by cases z; exact ⟨m, rfl⟩, fun ⟨m2, z⟩ => by cases z; exact ⟨m', rfl⟩⟩
    · rw [List.getElem?_set_ne e]
theorem back_shp : ∀ (rs : List RV) (ms : List MO) (ρ : Rho), Shp ρ (backR rs ms ρ)
  | [], [], ρ => Shp.refl
  | [], _ :: _, ρ => Shp.refl
  | .d _ :: rs, ms, ρ => by unfold backR; exact back_shp rs ms ρ
  | .m _ :: rs, [], ρ => Shp.refl
  | .m _ :: rs, _ :: ms, ρ => by unfold backR; exact back_shp rs ms ρ
  | .s i :: rs, [], ρ => by unfold backR; exact back_shp rs [] ρ
  | .s i :: rs, m :: ms, ρ => by
    unfold backR
    split
    · rename_i o l m0 h
      exact (shp_set h).trans (back_shp rs ms _)
    · exact back_shp rs (m :: ms) ρ
theorem mutIx_shp : ∀ {rs : List RV} {ρ ρ' : Rho}, Shp ρ ρ' → mutIx rs ρ' = mutIx rs ρ
  | [], _, _, _ => rfl
  | .d _ :: rs, _, _, h => by unfold mutIx; exact mutIx_shp h
  | .m _ :: rs, _, _, h => by unfold mutIx; exact mutIx_shp h
  | .s i :: rs, ρ, ρ', h => by
    unfold mutIx
    have ih := mutIx_shp (rs := rs) h
    cases e : ρ[i]? with
    | none =>
      have : ρ'[i]? = none := by
        rw [List.getElem?_eq_none_iff] at e ⊢
        rw [h.len]
        exact e
      rw [this]
      exact ih
    | some x =>
      cases x with
      | val d =>
        rw [(h.val i d).mpr e]
        exact ih
      | «mut» o l m =>
        obtain ⟨m2, e2⟩ := (h.mu i o l).mpr ⟨m, e⟩
        rw [e2]
        simp only [ih]
      | un =>
        have : ∀ o l m, ρ'[i]? ≠ some (Sl.mut o l m) := fun o l m z => by
          obtain ⟨m2, e2⟩ := (h.mu i o l).mp ⟨m, z⟩
          rw [e] at e2
          cases e2
        cases e2 : ρ'[i]? with
        | none => simp only [ih]
        | some y =>
          cases y with
          | «mut» o l m => exact (this o l m e2).elim
          | val d => simp only [ih]
          | un => simp only [ih]
theorem back_out : ∀ {rs : List RV} {ms : List MO} {ρ : Rho} {i : Nat}, i ∉ mutIx rs ρ → (backR rs ms ρ)[i]? = ρ[i]?
  | [], [], ρ, i, _ => rfl
  | [], _ :: _, ρ, i, _ => rfl
  | .d _ :: rs, ms, ρ, i, h => by unfold backR; exact back_out (by unfold mutIx at h; exact h)
  | .m _ :: rs, [], ρ, i, _ => rfl
  | .m _ :: rs, _ :: ms, ρ, i, h => by unfold backR; exact back_out (by unfold mutIx at h; exact h)
  | .s k :: rs, [], ρ, i, h => by
    unfold backR
    refine back_out fun z => h ?_
    unfold mutIx
    split
    · exact List.mem_cons_of_mem _ z
    · exact z
  | .s k :: rs, m :: ms, ρ, i, h => by
    unfold backR
    split
    · rename_i o l m0 e
      unfold mutIx at h
      simp only [e, List.mem_cons, not_or] at h
      rw [back_out (by rw [mutIx_shp (shp_set e)]; exact h.2), List.getElem?_set_ne (fun z => h.1 z.symm)]
    · rename_i e
      refine back_out fun z => h ?_
      unfold mutIx
      split
      · rename_i e2
        exact (e _ _ _ e2).elim
      · exact z
/-- the places of a call: its values, its results, what the def sees -/
inductive Plc (Z : Zz) (U : Addr → Prop) (H : Hp) (ρ : Rho) (σ : Stt) : List V → List RV → List RV → Prop
  | nil : Plc Z U H ρ σ [] [] []
  | dat {v d vs rs bs} : Is Z (hide U H) v d → Plc Z U H ρ σ vs rs bs → Plc Z U H ρ σ (v :: vs) (.d d :: rs) (.d d :: bs)
  | tmp {a m vs rs bs} : U a → ObM Z (hide U H) H a m → Plc Z U H ρ σ vs rs bs → Plc Z U H ρ σ (.ref a :: vs) (.m m :: rs) (.m m :: bs)
  | vl {v d i vs rs bs} : ρ[i]? = some (Sl.val d) → Is Z (hide U H) v d → Plc Z U H ρ σ vs rs bs → Plc Z U H ρ σ (v :: vs) (.s i :: rs) (.d d :: bs)
  | mt {a i o m vs rs bs} : ρ[i]? = some (Sl.mut o false m) → At σ i a → U a → ObM Z (hide U H) H a m → Plc Z U H ρ σ vs rs bs → Plc Z U H ρ σ (.ref a :: vs) (.s i :: rs) (.m m :: bs)
section
variable {Z : Zz} {U O : Addr → Prop} {H H' : Hp} {ρ : Rho} {σ : Stt}
theorem Plc.args {vs : List V} {rs bs : List RV} (p : Plc Z U H ρ σ vs rs bs) : ArgsOk Z U H vs bs := by
  induction p with
  | nil => trivial
  | dat h _ ih => exact ⟨h, ih⟩
  | tmp h1 h2 _ ih => exact ⟨⟨_, rfl, h1, h2⟩, ih⟩
  | vl _ h _ ih => exact ⟨h, ih⟩
  | mt _ _ h1 h2 _ ih => exact ⟨⟨_, rfl, h1, h2⟩, ih⟩
/-- a handed over object is a slot's or a new one -/
theorem Plc.mem {vs : List V} {rs bs : List RV} (p : Plc Z U H ρ σ vs rs bs) {a : Addr} (h : a ∈ tmpOf vs bs) : (∃ i o m, i ∈ mutIx rs ρ ∧ ρ[i]? = some (Sl.mut o false m) ∧ At σ i a) ∨ a ∈ tmpOf vs rs := by
  induction p with
  | nil => cases h
  | @dat v d vs rs bs _ _ ih =>
    have e1 : tmpOf (v :: vs) (RV.d d :: bs) = tmpOf vs bs := by cases v <;> rfl
    have e2 : tmpOf (v :: vs) (RV.d d :: rs) = tmpOf vs rs := by cases v <;> rfl
    rw [e1] at h
    rw [e2]
    exact ih h
  | @tmp b m vs rs bs _ _ _ ih =>
    rcases List.mem_cons.mp h with z | z
    · exact .inr (by rw [z]; exact List.mem_cons_self)
    · rcases ih z with q | q
      · exact .inl q
      · exact .inr (List.mem_cons_of_mem _ q)
  | @vl v d i vs rs bs e _ _ ih =>
    have e1 : tmpOf (v :: vs) (RV.d d :: bs) = tmpOf vs bs := by cases v <;> rfl
    have e2 : tmpOf (v :: vs) (RV.s i :: rs) = tmpOf vs rs := by cases v <;> rfl
    rw [e1] at h
    rw [e2]
    rcases ih h with ⟨j, o, m, q1, q2⟩ | q
    · refine .inl ⟨j, o, m, ?_, q2⟩
      unfold mutIx
      rw [e]
      exact q1
    · exact .inr q
  | @mt b i o m vs rs bs e hat _ _ _ ih =>
    have e2 : tmpOf (V.ref b :: vs) (RV.s i :: rs) = tmpOf vs rs := rfl
    rw [e2]
    rcases List.mem_cons.mp h with z | z
    · subst z
      refine .inl ⟨i, o, m, ?_, e, hat⟩
      unfold mutIx
      rw [e]
      exact List.mem_cons_self
    · rcases ih z with ⟨j, o', m', q1, q2⟩ | q
      · refine .inl ⟨j, o', m', ?_, q2⟩
        unfold mutIx
        rw [e]
        exact List.mem_cons_of_mem _ q1
      · exact .inr q
theorem Plc.nd {vs : List V} {rs bs : List RV} (p : Plc Z U H ρ σ vs rs bs) (R : ∀ i j o o' l l' m m' a, ρ[i]? = some (Sl.mut o l m) → ρ[j]? = some (Sl.mut o' l' m') → At σ i a → At σ j a → i = j) (n : (mutIx rs ρ).Nodup) (nt : (tmpOf vs rs).Nodup) (ap : ∀ a ∈ tmpOf vs rs, ∀ i o l m, ρ[i]? = some (Sl.mut o l m) → ¬ At σ i a) : (tmpOf vs bs).Nodup := by
  induction p with
  | nil => exact List.nodup_nil
  | @dat v d vs rs bs _ p ih =>
    have e1 : tmpOf (v :: vs) (RV.d d :: bs) = tmpOf vs bs := by cases v <;> rfl
    have e2 : tmpOf (v :: vs) (RV.d d :: rs) = tmpOf vs rs := by cases v <;> rfl
    rw [e1]
    rw [e2] at nt ap
    exact ih n nt ap
  | @tmp b m vs rs bs _ _ p ih =>
    have nt' := List.nodup_cons.mp nt
    refine List.nodup_cons.mpr ⟨fun z => ?_, ih n nt'.2 fun a ha => ap a (List.mem_cons_of_mem _ ha)⟩
    rcases p.mem z with ⟨i, o, m, _, h1, h2⟩ | z
    · exact ap b List.mem_cons_self i o false m h1 h2
    · exact nt'.1 z
  | @vl v d i vs rs bs e _ p ih =>
    have e1 : tmpOf (v :: vs) (RV.d d :: bs) = tmpOf vs bs := by cases v <;> rfl
    have e2 : tmpOf (v :: vs) (RV.s i :: rs) = tmpOf vs rs := by cases v <;> rfl
    rw [e1]
    rw [e2] at nt ap
    unfold mutIx at n
    rw [e] at n
    exact ih n nt ap
  | @mt b i o m vs rs bs e hat _ _ p ih =>
    unfold mutIx at n
    rw [e] at n
    have n' := List.nodup_cons.mp n
    have e2 : tmpOf (V.ref b :: vs) (RV.s i :: rs) = tmpOf vs rs := rfl
    rw [e2] at nt ap
    refine List.nodup_cons.mpr ⟨fun z => ?_, ih n'.2 nt ap⟩
    rcases p.mem z with ⟨j, o', m', q, h1, h2⟩ | z
    · have := R i j _ _ _ _ _ _ b e h1 hat h2
      subst this
      exact n'.1 q
    · exact ap b z i o false m e hat
/-- what stands in a handed over slot behind the call -/
theorem Plc.back {P : Addr → MO → Prop} {vs : List V} {rs bs : List RV} (p : Plc Z U H ρ σ vs rs bs) : ∀ {ms : List MO} {ρ2 : Rho}, Paired P (tmpOf vs bs) ms → Shp ρ ρ2 → (mutIx rs ρ).Nodup → ∀ i ∈ mutIx rs ρ, ∃ o m a, (backR rs ms ρ2)[i]? = some (Sl.mut o false m) ∧ At σ i a ∧ P a m := by
  induction p with
  | nil => exact fun _ _ _ i hi => by cases hi
  | @dat v d vs rs bs _ p ih =>
    intro ms ρ2 hp sh n i hi
    have e1 : tmpOf (v :: vs) (RV.d d :: bs) = tmpOf vs bs := by cases v <;> rfl
    rw [e1] at hp
    unfold backR
    exact ih hp sh n i hi
  | @tmp b m vs rs bs _ _ p ih =>
    intro ms ρ2 hp sh n i hi
    cases hp with
    | cons r t =>
      unfold backR
      exact ih t sh n i hi
  | @vl v d k vs rs bs e _ p ih =>
    intro ms ρ2 hp sh n i hi
    have e1 : tmpOf (v :: vs) (RV.d d :: bs) = tmpOf vs bs := by cases v <;> rfl
    rw [e1] at hp
    unfold mutIx at n hi
    rw [e] at n hi
    have e2 := (sh.val k d).mpr e
    cases ms with
    | nil =>
      unfold backR
      exact ih hp sh n i hi
    | cons m ms =>
      unfold backR
      simp only [e2]
      exact ih hp sh n i hi
  | @mt b k o m vs rs bs e hat _ _ p ih =>
    intro ms ρ2 hp sh n i hi
    unfold mutIx at n hi
    rw [e] at n hi
    have n' := List.nodup_cons.mp n
    obtain ⟨m0, e2⟩ := (sh.mu k o false).mpr ⟨m, e⟩
    cases hp with
    | @cons _ m1 _ ms r t =>
      unfold backR
      simp only [e2]
      have sh2 := sh.trans (shp_set (m' := m1) e2)
      rcases List.mem_cons.mp hi with z | z
      · subst z
        refine ⟨o, m1, b, ?_, hat, r⟩
        rw [back_out (by rw [mutIx_shp sh2]; exact n'.1), List.getElem?_set_self (List.getElem?_eq_some_iff.mp e2).1]
      · exact ih t sh2 n'.2 i z
theorem plc_of {k : List RV → Prop} (R : Rel Z O ρ σ H) : ∀ {vs : List V} {rs : List RV}, RvsC Z O ρ σ H vs rs → (∀ a ∈ tmpOf vs rs, Hid O ρ σ a) → argsK rs ρ k → ∃ bs, Plc Z (Hid O ρ σ) H ρ σ vs rs bs ∧ k bs
  | [], [], _, _, h => ⟨[], .nil, h⟩
  | v :: vs, .d d :: rs, ⟨h1, h2⟩, ht, h => by
    have e1 : tmpOf (v :: vs) (RV.d d :: rs) = tmpOf vs rs := by cases v <;> rfl
    rw [e1] at ht
    obtain ⟨bs, p, hk⟩ := plc_of (k := fun bs => k (.d d :: bs)) R h2 ht h
    exact ⟨_, .dat h1 p, hk⟩
  | v :: vs, .m m :: rs, ⟨⟨a, e, h1⟩, h2⟩, ht, h => by
    subst e
    obtain ⟨bs, p, hk⟩ := plc_of (k := fun bs => k (.m m :: bs)) R h2 (fun b hb => ht b (List.mem_cons_of_mem _ hb)) h
    exact ⟨_, .tmp (ht a List.mem_cons_self) h1 p, hk⟩
  | v :: vs, .s i :: rs, ⟨h1, h2⟩, ht, h => by
    have e1 : tmpOf (v :: vs) (RV.s i :: rs) = tmpOf vs rs := by cases v <;> rfl
    rw [e1] at ht
    have h1 : σ[i]? = some (some v) := h1
    unfold argsK at h
    split at h
    · rename_i d e
      obtain ⟨u, g1, g2⟩ := R.vals _ _ e
      rw [h1] at g1
      cases g1
      obtain ⟨bs, p, hk⟩ := plc_of (k := fun bs => k (.d d :: bs)) R h2 ht h
      exact ⟨_, .vl e g2 p, hk⟩
    · rename_i o m e
      obtain ⟨a, g1, _, g2⟩ := R.muts _ _ _ _ e
      have g1' : σ[i]? = some (some (.ref a)) := g1
      rw [h1] at g1'
      cases g1'
      obtain ⟨bs, p, hk⟩ := plc_of (k := fun bs => k (.m m :: bs)) R h2 ht h
      exact ⟨_, .mt e g1 (.inr ⟨i, _, _, _, e, g1⟩) g2 p, hk⟩
    · exact h.elim
theorem Shp.hid {ρ' : Rho} (h : Shp ρ ρ') : Hid O ρ' σ = Hid O ρ σ := by
  funext b
  refine propext ⟨fun z => ?_, fun z => ?_⟩
  · rcases z with z | ⟨i, o, l, m, h1, h2⟩
    · exact .inl z
    · obtain ⟨m2, g⟩ := (h.mu i o l).mp ⟨m, h1⟩
      exact .inr ⟨i, o, l, m2, g, h2⟩
  · rcases z with z | ⟨i, o, l, m, h1, h2⟩
    · exact .inl z
    · obtain ⟨m2, g⟩ := (h.mu i o l).mpr ⟨m, h1⟩
      exact .inr ⟨i, o, l, m2, g, h2⟩
/-- behind the call -/
theorem call_rel {vs : List V} {rs bs : List RV} {ms : List MO} {r : RV} {v : V} (R : Rel Z O ρ σ H) (p : Plc Z (Hid O ρ σ) H ρ σ vs rs bs) (n : (mutIx rs ρ).Nodup) (ht : ∀ a ∈ tmpOf vs rs, O a) (ap : ∀ a ∈ tmpOf vs rs, ∀ i o l m, ρ[i]? = some (Sl.mut o l m) → ¬ At σ i a) (f : PostF Z (Hid O ρ σ) vs bs H H' r ms v)
    {O2 : Addr → Prop} (hO2 : ∀ b, O2 b → O b ∨ (H b = none ∧ H' b ≠ none)) (hOO : ∀ b, O b → O2 b) (hX : ∀ b, OX (Hid O ρ σ) r v b → Hid O ρ σ b ∨ O2 b) (hX2 : ∀ b, O2 b → OX (Hid O ρ σ) r v b) : Rel Z O2 (backR rs ms ρ) σ H' := by
  have sh := back_shp rs ms ρ
  have out : ∀ b o, ¬ Hid O ρ σ b → H b = some o → H' b = some o := fun b o nb e => f.keep b o (fun z => by
    rcases p.mem z with ⟨i, o, m, _, h1, h2⟩ | z
    · exact nb (.inr ⟨i, _, _, _, h1, h2⟩)
    · exact nb (.inl (ht b z))) e
  have hid2 : ∀ b, Hid O2 (backR rs ms ρ) σ b → Hid O ρ σ b ∨ O2 b := fun b z => by
    rcases z with z | z
    · exact .inr z
    · have : Hid O (backR rs ms ρ) σ b := .inr z
      rw [sh.hid] at this
      exact .inl this
  have sm : Same (hide (Hid O ρ σ) H) (hide (Hid O2 (backR rs ms ρ) σ) H') := hide_to fun b o nb e => by
    refine ⟨fun z => ?_, out b o nb e⟩
    rcases hid2 b z with z | z
    · exact nb z
    · rcases hO2 b z with z | ⟨z, _⟩
      · exact nb (.inl z)
      · rw [z] at e
        cases e
  have smx : Same (hide (OX (Hid O ρ σ) r v) H') (hide (Hid O2 (backR rs ms ρ) σ) H') := hide_less fun b z => by
    rcases hid2 b z with z | z
    · cases r with
      | m mo => exact .inl z
      | d x => exact z
      | s x => exact z
    · exact hX2 b z
  refine ⟨by rw [sh.len]; exact R.len, fun i d h => ?_, fun i o l m h => ?_, fun i j o o' l l' m m' a h1 h2 h3 h4 => ?_, fun a h => ?_⟩
  · obtain ⟨u, h1, h2⟩ := R.vals i d ((sh.val i d).mp h)
    exact ⟨u, h1, h2.to sm⟩
  · obtain ⟨m0, h0⟩ := (sh.mu i o l).mp ⟨m, h⟩
    obtain ⟨a, h1, h2, h3⟩ := R.muts i o l m0 h0
    have hOa : O2 a ↔ o = false := ⟨fun z => by
      rcases hO2 a z with z | ⟨z, _⟩
      · exact h2.mp z
      · exact (h3.there z).elim, fun z => hOO a (h2.mpr z)⟩
    refine ⟨a, h1, hOa, ?_⟩
    by_cases hi : i ∈ mutIx rs ρ
    · obtain ⟨o2, m2, b, g1, g2, g3⟩ := p.back f.refs Shp.refl n i hi
      rw [h] at g1
      cases g1
      cases h1.inj g2
      exact g3.to smx fun _ e => e
    · rw [back_out hi] at h
      rw [h] at h0
      cases h0
      refine h3.to sm fun o e => f.keep a o (fun z => ?_) e
      rcases p.mem z with ⟨j, o', m', q, g1, g2⟩ | z
      · have := R.apart i j _ _ _ _ _ _ a h g1 h1 g2
        subst this
        exact hi q
      · exact ap a z i _ _ _ h h1
  · obtain ⟨_, g1⟩ := (sh.mu i o l).mp ⟨m, h1⟩
    obtain ⟨_, g2⟩ := (sh.mu j o' l').mp ⟨m', h2⟩
    exact R.apart i j _ _ _ _ _ _ a g1 g2 h3 h4
  · rcases hO2 a h with z | ⟨_, z⟩
    · exact f.dom a (R.odom a z)
    · exact z
end
section
variable {Z : Zz} {X : Cx}
@[simp] def dCall (φ : Fnc) (w : WA) : WE := fun ρ K => w ρ fun rs ρ1 => (mutIx rs ρ1).Nodup ∧ argsK rs ρ1 fun bs => φ bs fun r ms => K r (backR rs ms ρ1)
theorem call_ok {φ : Fnc} {w : WA} {σ : Stt} {H : Hp} {Q : VK} (h : tM Z (dCall φ w) σ H Q) : tMA Z w σ H fun vs H1 => spD Z φ vs H1 Q E0 := by
  obtain ⟨O, ρ, K, R, hw, q⟩ := h
  refine ⟨O, ρ, _, R, hw, fun rs ρ1 vs H1 ⟨nd, hk⟩ R1 s ok fx => ?_⟩
  have Rt := fx.rel
  obtain ⟨bs, p, hφ⟩ := plc_of Rt fx.each (fun a ha => .inl (.inr ha)) hk
  have ap : ∀ a ∈ tmpOf vs rs, ∀ i o l m, ρ1[i]? = some (Sl.mut o l m) → ¬ At σ i a := fun a ha i o l m h z => s.newH R (fx.new a ha) (.inr ⟨i, o, l, m, h, z⟩)
  refine ⟨_, bs, _, fun a => Rt.hidThere, p.args, p.nd Rt.apart nd fx.nd ap, hφ, fun r ms v H' hk2 f => ?_⟩
  have ht : ∀ a ∈ tmpOf vs rs, OT O (tmpOf vs rs) a := fun a ha => .inr ha
  have notN : ∀ a ∈ tmpOf vs rs, ¬ Hid O (backR rs ms ρ1) σ a := fun a ha => by
    rw [(back_shp rs ms ρ1).hid]
    exact s.newH R (fx.new a ha)
  have keep1 : ∀ b o, ¬ Tch ρ σ b → H b = some o → H' b = some o := fun b o nb e => f.keep b o (fun z => by
    rcases p.mem z with ⟨i, o', m, _, h1, h2⟩ | z
    · rcases s.toStp.tch ⟨i, o', m, h1, h2⟩ with z | z
      · exact nb z
      · rw [z] at e; cases e
    · rw [fx.new b z] at e
      cases e) (s.keep b o nb e)
  have sh := back_shp rs ms ρ1
  have est : Est ρ σ H (backR rs ms ρ1) H' := by
    refine ⟨⟨keep1, fun b h => f.dom b (s.dom b h), fun i o l m a h1 h2 => ?_, fun i o l m h hol => ?_⟩, fun i o l m h => ?_⟩
    · obtain ⟨m1, g⟩ := (sh.mu i o l).mp ⟨m, h1⟩
      exact s.own i o l m1 a g h2
    · obtain ⟨e1, m1, h1, k1⟩ := s.hold i o l m h hol
      obtain ⟨m2, h2⟩ := (sh.mu i o l).mpr ⟨m1, h1⟩
      refine ⟨e1, m2, h2, fun z => ?_⟩
      subst z
      rw [back_out (fun hi => by
        obtain ⟨o2, m3, b, g1, _⟩ := p.back f.refs Shp.refl nd i hi
        rw [h2] at g1
        cases g1)] at h2
      rw [h1] at h2
      cases h2
      exact k1 rfl
    · obtain ⟨m1, g⟩ := (sh.mu i o l).mp ⟨m, h⟩
      exact s.nm i o l m1 g
  match r, f, hk2 with
  | .d d, f, hk2 =>
    have R2 : Rel Z (OT O (tmpOf vs rs)) (backR rs ms ρ1) σ H' := call_rel Rt p nd ht ap f (O2 := OT O (tmpOf vs rs)) (fun b z => .inl z) (fun b z => z) (fun b z => .inl z) (fun b z => .inl z)
    have R3 := R2.drop notN
    refine q _ _ _ _ hk2 R3 est ⟨?_, trivial⟩
    have h : Is Z (hide (Hid (OT O (tmpOf vs rs)) ρ1 σ) H') v d := f.ret
    refine h.to (hide_less fun b z => ?_)
    rw [sh.hid] at z
    exact z.imp (fun z => .inl z) id
  | .m mo, f, hk2 =>
    obtain ⟨a, e, na, ob⟩ := f.ret
    subst e
    have eOX : OX (Hid (OT O (tmpOf vs rs)) ρ1 σ) (.m mo) (.ref a) = fun b => Hid (OT O (tmpOf vs rs)) ρ1 σ b ∨ b = a := by
      funext b
      refine propext ⟨fun z => z.imp id fun z => by cases z; rfl, fun z => z.imp id fun z => by rw [z]⟩
    have R2 : Rel Z (fun b => OT O (tmpOf vs rs) b ∨ b = a) (backR rs ms ρ1) σ H' := call_rel Rt p nd ht ap f (O2 := fun b => OT O (tmpOf vs rs) b ∨ b = a)
      (fun b z => z.elim .inl fun z => .inr ⟨by rw [z]; exact na, by rw [z]; exact ob.there⟩) (fun b z => .inl z) (fun b z => by rw [eOX] at z; exact z.imp id .inr) (fun b z => by rw [eOX]; exact z.imp .inl id)
    have na0 : H a = none := Classical.byContradiction fun z => s.dom a z na
    have nh1 : ¬ Hid O (backR rs ms ρ1) σ a := by
      rw [sh.hid]
      exact s.newH R na0
    have R2' : Rel Z (OT (fun b => O b ∨ b = a) (tmpOf vs rs)) (backR rs ms ρ1) σ H' := by
      have e : (OT (fun b => O b ∨ b = a) (tmpOf vs rs)) = fun b => OT O (tmpOf vs rs) b ∨ b = a := by
        funext b
        unfold OT
        exact propext ⟨fun z => z.elim (fun z => z.elim (fun z => .inl (.inl z)) .inr) fun z => .inl (.inr z), fun z => z.elim (fun z => z.elim (fun z => .inl (.inl z)) .inr) fun z => .inl (.inr z)⟩
      rw [e]
      exact R2
    have Rx : Rel Z (fun b => O b ∨ b = a) (backR rs ms ρ1) σ H' := R2'.drop fun b hb z => by
      rcases z with (z | z) | z
      · exact notN b hb (.inl z)
      · subst z
        exact Rt.odom b (.inr hb) na
      · exact notN b hb (.inr z)
    have R3 : Rel Z O (backR rs ms ρ1) σ H' := Rel.drop (l := [a]) (by rw [OT_one]; exact Rx) fun b hb => by rw [List.mem_singleton.mp hb]; exact nh1
    refine q _ _ _ _ hk2 R3 est ⟨⟨a, rfl, na0, nh1, ?_⟩, fun b e => by cases e; exact Rx⟩
    rw [eOX] at ob
    refine ob.to (hide_less fun b z => ?_) fun _ e => e
    rcases z with z | z
    · rw [sh.hid] at z
      exact .inl (z.imp (fun z => .inl z) id)
    · exact .inr z
  | .s i, f, hk2 => exact f.ret.elim
theorem de_call {k : Nat} {f : Addr} {fd : FuncData} {ps : List Str} {φ : Fnc} {x : Str} {p pos : Pos} {e : Expr} {es : List Expr} {w : WA} (F : FnG X.prog X.w X.K X.mg X.base k f fd ps (spD Z φ)) (g : Gu X.A) (hr : Room k X.A) (hg : Gl X x) (hm : X.mg x = some (.ref f)) (hk : keepIn X.K (.ref f) = true) (hb : Binds X.K fd ps [])
    (ha : DA Z X (e :: es) w) (hdb : (x == ("__debug__" : Str)) = false := by decide) (he : starEach (e :: es) X.env = (false, eval e X.env) :: starEach es X.env := by rfl) (hpl : (backTo pos (starEach es X.env)).any (·.1) = false := by rfl) :
    DE Z X (.Call (.Name x p) (e :: es) [] pos) (dCall φ w) := PEweak (pe_callG F g hr hg hm hk hb ha hdb he hpl) fun σ H Q h => by
  obtain ⟨O, ρ, K, R, hw, q⟩ := call_ok h
  refine ⟨O, ρ, K, R, hw, fun rs ρ' vs H' a b c d e => ?_⟩
  have := q rs ρ' vs H' a b c d e
  show spD Z φ (vs ++ []) H' Q E0
  rw [List.append_nil]
  exact this
end
end Dd

/-! Lists of one's own, changed. -/
namespace Dd
open PySem PySem.Spec PyProof.Rows L2 PySem.W Cb
section
variable {Z : Zz} {O : Addr → Prop} {ρ : Rho} {σ : Stt} {H : Hp} {i : Nat} {a : Addr} {o : Bool} {m m' : MO} {ob : HO}
theorem smPut (hi : ρ[i]? = some (Sl.mut o false m)) (ha : At σ i a) : Same (hide (Hid O ρ σ) H) (hide (Hid O (ρ.set i (.mut o false m')) σ) (upd H a ob)) := by
  rw [(shp_set (m' := m') hi).hid]
  exact hide_to fun b u n e => ⟨n, by rw [upd_ne (fun z => n (by rw [z]; exact .inr ⟨i, _, _, _, hi, ha⟩))]; exact e⟩
/-- the object in a slot changes -/
theorem put_ok (R : Rel Z O ρ σ H) (hi : ρ[i]? = some (Sl.mut o false m)) (ha : At σ i a) (hob : ObM Z (hide (Hid O ρ σ) H) (upd H a ob) a m') : Rel Z O (ρ.set i (.mut o false m')) σ (upd H a ob) ∧ Est ρ σ H (ρ.set i (.mut o false m')) (upd H a ob) := by
  have il := (List.getElem?_eq_some_iff.mp hi).1
  have sh := shp_set (m' := m') hi
  have sm := smPut (O := O) (m' := m') (H := H) (ob := ob) hi ha
  refine ⟨⟨sh.len.trans R.len, fun j d h => ?_, fun j o' l' m2 h => ?_, fun j k o1 o2 l1 l2 m1 m2 b h1 h2 h3 h4 => ?_, fun b hb => ?_⟩, ⟨⟨fun b u n e => ?_, fun b h => ?_, fun j o' l' m2 b h1 h2 => ?_, fun j o' l' m2 h hol => ?_⟩, fun j o' l' m2 h => (sh.mu j o' l').mp ⟨m2, h⟩⟩⟩
  · obtain ⟨v, h1, h2⟩ := R.vals j d ((sh.val j d).mp h)
    exact ⟨v, h1, h2.to sm⟩
  · by_cases e : i = j
    · subst e
      rw [List.getElem?_set_self il] at h
      cases h
      obtain ⟨b, h1, h2, _⟩ := R.muts _ _ _ _ hi
      cases ha.inj h1
      exact ⟨a, ha, h2, hob.to sm fun _ e => e⟩
    · rw [List.getElem?_set_ne e] at h
      obtain ⟨b, h1, h2, h3⟩ := R.muts _ _ _ _ h
      have nb : b ≠ a := fun z => by
        subst z
        exact e (R.apart i j _ _ _ _ _ _ b hi h ha h1)
      exact ⟨b, h1, h2, h3.to sm fun u q => by rw [upd_ne nb]; exact q⟩
  · obtain ⟨_, g1⟩ := (sh.mu j o1 l1).mp ⟨m1, h1⟩
    obtain ⟨_, g2⟩ := (sh.mu k o2 l2).mp ⟨m2, h2⟩
    exact R.apart j k _ _ _ _ _ _ b g1 g2 h3 h4
  · by_cases z : b = a
    · rw [z, upd_same]
      exact fun q => by cases q
    · rw [upd_ne z]
      exact R.odom b hb
  · rw [upd_ne (fun z => n (by rw [z]; exact ⟨i, o, m, hi, ha⟩))]
    exact e
  · by_cases z : b = a
    · rw [z, upd_same]
      exact fun q => by cases q
    · rw [upd_ne z]
      exact h
  · obtain ⟨m3, g⟩ := (sh.mu j o' l').mp ⟨m2, h1⟩
    exact .inl ⟨m3, g, h2⟩
  · by_cases e : i = j
    · subst e
      rw [hi] at h
      cases h
      exact ⟨rfl, m', List.getElem?_set_self il, fun z => by cases z⟩
    · exact ⟨rfl, m2, by rw [List.getElem?_set_ne e]; exact h, fun _ => rfl⟩
end
section
variable {Z : Zz} {X : Cx}
@[simp] def isLs (ρ : Rho) (i : Nat) : Prop := match ρ[i]? with
  | some (.mut _ false (.lst _)) => True
  | _ => False
theorem isLs.of {ρ : Rho} {i : Nat} (h : isLs ρ i) : ∃ o ds, ρ[i]? = some (Sl.mut o false (.lst ds)) := by
  unfold isLs at h
  split at h
  · exact ⟨_, _, ‹_›⟩
  · exact h.elim
/-- the list in the slot, with what to do -/
@[simp] def onLs (ρ : Rho) (i : Nat) (k : List PD → (List PD → Rho) → Prop) : Prop := match ρ[i]? with
  | some (.mut o false (.lst ds)) => k ds fun es => ρ.set i (.mut o false (.lst es))
  | _ => False
theorem onLs.of {ρ : Rho} {i : Nat} {k : List PD → (List PD → Rho) → Prop} (h : onLs ρ i k) : ∃ o ds, ρ[i]? = some (Sl.mut o false (.lst ds)) ∧ k ds fun es => ρ.set i (.mut o false (.lst es)) := by
  unfold onLs at h
  split at h
  · exact ⟨_, _, ‹_›, h⟩
  · exact h.elim
variable {O : Addr → Prop} {ρ : Rho} {σ : Stt} {H : Hp} {i : Nat}
theorem ls_at (R : Rel Z O ρ σ H) {o l : Bool} {ds : List PD} (h : ρ[i]? = some (Sl.mut o l (.lst ds))) : ∃ a xs, At σ i a ∧ H a = some (.lst xs) ∧ IsAll Z (hide (Hid O ρ σ) H) xs ds := by
  obtain ⟨a, h1, _, xs, h2, h3⟩ := R.muts _ _ _ _ h
  exact ⟨a, xs, h1, h2, h3⟩
theorem isAll_put {o : Bool} {m : MO} {xs : List V} {ds : List PD} {a : Addr} {ob : HO} (h : IsAll Z (hide (Hid O ρ σ) H) xs ds) (hO : Hid O ρ σ a) : IsAll Z (hide (Hid O ρ σ) (upd H a ob)) xs ds := h.to (hide_to fun b u n e => ⟨n, by rw [upd_ne (fun z => n (by rw [z]; exact hO))]; exact e⟩)
/-- x.append(e) -/
@[simp] def dApp (i : Nat) (w : WE) : WE := fun ρ K => isLs ρ i ∧ w ρ fun r ρ1 => toD r ρ1 fun d ρ2 => onLs ρ2 i fun ds put => ds.length < 100000 ∧ K (.d .none) (put (ds ++ [d]))
theorem lst_line {n : Nat} (h : n < 100000) : n < sizeLine := Nat.lt_of_lt_of_le h (by decide)
theorem lst_line2 {n : Nat} (h : n ≤ 100000) : n ≤ sizeLine := Nat.le_trans h (by decide)
theorem de_app {x : Str} {p apos cpos : Pos} {e : Expr} {w : WE} (hN : X.N[i]? = some x) (hv : Vis X.env.scope x) (he : DE Z X e w) (hd : (x == ("__debug__" : Str)) = false := by decide) (hcd : (x == ("__classdict__" : Str)) = false := by decide)
    (hbase : attributeBase (.Name x p) "append" X.env (eval (.Name x p) X.env) = eval (.Name x p) X.env := by rfl)
    (hfew : ((backTo cpos (starEach [e] X.env)).all (fun x => !x.1) && (backToKw cpos (keywordEach [] X.env)).all (fun x => x.1.isSome)
      && decide ([e].length + ([] : List Keyword).length + (if ([] : List Keyword).isEmpty then 0 else 1) < 30)) = true := by rfl)
    (hline : (apos.endLine == cpos.line) = true := by rfl) (hs : starEach [e] X.env = (false, eval e X.env) :: starEach [] X.env := by rfl) (hplain : (backTo cpos (starEach [] X.env)).any (·.1) = false := by rfl) (hK : X.K = Z.K := by rfl) :
    DE Z X (.Call (.Attribute (.Name x p) "append" apos) [e] [] cpos) (dApp i w) := PEweak (pe_bm PySem.F.plainAttrs_list PySem.F.slot_list_append PySem.F.type_list_append mt_append (pe_var (i := i) hN hv hd hcd) (pa_cons he pa_nil hs) hbase hfew hline hs hplain) fun σ H Q ⟨O, ρ, K, R, ⟨hl, hw⟩, q⟩ => by
  obtain ⟨o, ds, hi⟩ := hl.of
  obtain ⟨a, xs, h1, h2, h3⟩ := ls_at R hi
  refine ⟨.ref a, h1, .inl ⟨rfl, xs, .inl (.inl h2)⟩, O, ρ, _, R, hw, fun r ρ1 v H1 hk R1 s ok => ?_⟩
  obtain ⟨d, ρ2, hk2, R2, s2, hd2⟩ := toD_ok (K := fun d ρ2 => onLs ρ2 i fun ds put => ds.length < 100000 ∧ K (.d .none) (put (ds ++ [d]))) R1 ok.1 hk
  obtain ⟨o2, ds2, hi2, hz, hk3⟩ := hk2.of
  obtain ⟨b, ys, g1, g2, g3⟩ := ls_at R2 hi2
  cases h1.inj g1
  have hO : Hid O ρ2 σ a := .inr ⟨i, _, _, _, hi2, g1⟩
  have hl := g3.len
  obtain ⟨R3, s3⟩ := put_ok (ob := .lst (ys ++ [v])) (m' := .lst (ds2 ++ [d])) R2 hi2 g1 ⟨_, upd_same, g3.app (.cons hd2 .nil)⟩
  exact ⟨a, ys, v, rfl, rfl, g2, lst_line (by omega), q _ _ _ _ hk3 R3 ((s.trans s2).trans s3) ⟨Is.non, trivial⟩⟩
/-- x.extend(e) -/
@[simp] def dExt (i : Nat) (w : WE) : WE := fun ρ K => isLs ρ i ∧ w ρ fun r ρ1 => (match r with | .s j => i ≠ j | _ => True) ∧ lk r ρ1 fun b => match lstB b with
  | some es => onLs ρ1 i fun ds put => ds.length + es.length ≤ 100000 ∧ K (.d .none) (put (ds ++ es))
  | none => False
theorem mt_ext : MtR X "list.extend" (fun x vs H Q => ∃ l b xs zs, x = .ref l ∧ vs = [.ref b] ∧ H l = some (.lst xs) ∧ LsK X.K H b zs ∧ xs.length + zs.length ≤ sizeLine ∧ Q .non (upd H l (.lst (xs ++ zs)))) := by
  intro pins s σ H x vs v us Q I rx rv h
  obtain ⟨l, b, xs, zs, rfl, rfl, hH, hB, hz, q⟩ := h
  cases rx
  obtain ⟨u, rfl, ru⟩ := rv.one
  cases ru
  obtain ⟨z, its, n, r, hl, e⟩ := I.lstM hH
  obtain ⟨z2, its2, n2, r2, e2⟩ := LsK.obj I hB
  have hl2 := r2.length
  have hsz : its.toArray.size + its2.toArray.size ≤ sizeLine := by rw [List.size_toArray, List.size_toArray]; omega
  have hlong : ¬ (!its.toArray.isEmpty && Builtin.List.listTooLong (its.toArray.size + its2.toArray.size)) = true := by
    rw [notLongL hsz, Bool.and_false]
    exact Bool.false_ne_true
  refine call_meets F.slot_list_extend ⟨_, e, rfl⟩ F.entry_list_extend (F.args_list_extend_2 _ _)
    (AutoSeq1.list_extend_list_list_0 l its.toArray n b its2.toArray n2 hlong (by rw [List.size_toArray]; omega) (by omega)) ⟨e, e2, ?_⟩
  refine ⟨.non, _, I.lset (its' := its ++ its2) hH e (by simp) (r.append r2) ?_, rfl, q⟩
  rw [List.length_append]
  omega
theorem de_ext {x : Str} {p apos cpos : Pos} {e : Expr} {w : WE} (hN : X.N[i]? = some x) (hv : Vis X.env.scope x) (he : DE Z X e w) (hd : (x == ("__debug__" : Str)) = false := by decide) (hcd : (x == ("__classdict__" : Str)) = false := by decide)
    (hbase : attributeBase (.Name x p) "extend" X.env (eval (.Name x p) X.env) = eval (.Name x p) X.env := by rfl)
    (hfew : ((backTo cpos (starEach [e] X.env)).all (fun x => !x.1) && (backToKw cpos (keywordEach [] X.env)).all (fun x => x.1.isSome)
      && decide ([e].length + ([] : List Keyword).length + (if ([] : List Keyword).isEmpty then 0 else 1) < 30)) = true := by rfl)
    (hline : (apos.endLine == cpos.line) = true := by rfl) (hs : starEach [e] X.env = (false, eval e X.env) :: starEach [] X.env := by rfl) (hplain : (backTo cpos (starEach [] X.env)).any (·.1) = false := by rfl) (hK : X.K = Z.K := by rfl) :
    DE Z X (.Call (.Attribute (.Name x p) "extend" apos) [e] [] cpos) (dExt i w) := PEweak (pe_bm PySem.F.plainAttrs_list PySem.F.slot_list_extend PySem.F.type_list_extend mt_ext (pe_var (i := i) hN hv hd hcd) (pa_cons he pa_nil hs) hbase hfew hline hs hplain) fun σ H Q ⟨O, ρ, K, R, ⟨hl, hw⟩, q⟩ => by
  obtain ⟨o, ds, hi⟩ := hl.of
  obtain ⟨a, xs, h1, h2, h3⟩ := ls_at R hi
  refine ⟨.ref a, h1, .inl ⟨rfl, xs, .inl (.inl h2)⟩, O, ρ, _, R, hw, fun r ρ1 v H1 ⟨hne, hk⟩ R1 s ok => ?_⟩
  obtain ⟨b, e1, hB⟩ := lk_res hk
  split at hB
  · rename_i es e2
    obtain ⟨o2, ds2, hi2, hz, hk3⟩ := hB.of
    obtain ⟨b', ys, g1, g2, g3⟩ := ls_at R1 hi2
    cases h1.inj g1
    obtain ⟨c, ws, rfl, sa, ha⟩ := lstB_ok (ok.1.look R1 e1) e2
    have hl := g3.len
    have hl2 := ha.len
    obtain ⟨R3, s3⟩ := put_ok (ob := .lst (ys ++ ws)) (m' := .lst (ds2 ++ es)) R1 hi2 g1 ⟨_, upd_same, g3.app ha⟩
    exact ⟨a, c, ys, ws, rfl, rfl, g2, by rw [hK]; exact sa, lst_line2 (by omega), q _ _ _ _ hk3 R3 (s.trans s3) ⟨Is.non, trivial⟩⟩
  · exact hB.elim
/-- x.pop(k), x.pop() -/
@[simp] def dPopAt (i : Nat) (w : WE) : WE := fun ρ K => isLs ρ i ∧ w ρ fun r ρ1 => match r with
  | .d (.int k) => onLs ρ1 i fun ds put => 0 ≤ k ∧ k < ds.length ∧ k < 2 ^ 62 ∧ ∀ d, ds[k.toNat]? = some d → K (.d d) (put (ds.eraseIdx k.toNat))
  | _ => False
theorem de_popAt {x : Str} {p apos cpos : Pos} {e : Expr} {w : WE} (hN : X.N[i]? = some x) (hv : Vis X.env.scope x) (he : DE Z X e w) (hd : (x == ("__debug__" : Str)) = false := by decide) (hcd : (x == ("__classdict__" : Str)) = false := by decide)
    (hbase : attributeBase (.Name x p) "pop" X.env (eval (.Name x p) X.env) = eval (.Name x p) X.env := by rfl)
    (hfew : ((backTo cpos (starEach [e] X.env)).all (fun x => !x.1) && (backToKw cpos (keywordEach [] X.env)).all (fun x => x.1.isSome)
      && decide ([e].length + ([] : List Keyword).length + (if ([] : List Keyword).isEmpty then 0 else 1) < 30)) = true := by rfl)
    (hline : (apos.endLine == cpos.line) = true := by rfl) (hs : starEach [e] X.env = (false, eval e X.env) :: starEach [] X.env := by rfl) (hplain : (backTo cpos (starEach [] X.env)).any (·.1) = false := by rfl) (hK : X.K = Z.K := by rfl) :
    DE Z X (.Call (.Attribute (.Name x p) "pop" apos) [e] [] cpos) (dPopAt i w) := PEweak (pe_bm PySem.F.plainAttrs_list PySem.F.slot_list_pop PySem.F.type_list_pop mt_popAt (pe_var (i := i) hN hv hd hcd) (pa_cons he pa_nil hs) hbase hfew hline hs hplain) fun σ H Q ⟨O, ρ, K, R, ⟨hl, hw⟩, q⟩ => by
  obtain ⟨o, ds, hi⟩ := hl.of
  obtain ⟨a, xs, h1, h2, h3⟩ := ls_at R hi
  refine ⟨.ref a, h1, .inl ⟨rfl, xs, .inl (.inl h2)⟩, O, ρ, _, R, hw, fun r ρ1 v H1 hk R1 s ok => ?_⟩
  revert ok
  match r, hk with
  | .d (.int k), hk =>
    intro ok
    have ok1 : Is Z _ v (.int k) := ok.1
    cases ok1
    have hk : onLs ρ1 i fun ds put => 0 ≤ k ∧ k < ds.length ∧ k < 2 ^ 62 ∧ ∀ d, ds[k.toNat]? = some d → K (.d d) (put (ds.eraseIdx k.toNat)) := hk
    obtain ⟨o2, ds2, hi2, hz, hz2, hz3, hk3⟩ := hk.of
    obtain ⟨b', ys, g1, g2, g3⟩ := ls_at R1 hi2
    cases h1.inj g1
    have hl := g3.len
    have hlt : k.toNat < ds2.length := by omega
    obtain ⟨y, e1, e2⟩ := g3.getD (List.getElem?_eq_getElem hlt)
    obtain ⟨R3, s3⟩ := put_ok (ob := .lst (ys.eraseIdx k.toNat)) (m' := .lst (ds2.eraseIdx k.toNat)) R1 hi2 g1 ⟨_, upd_same, g3.erase _⟩
    refine ⟨a, ys, k, k.toNat, y, rfl, rfl, g2, by omega, by omega, PySem.StrLaws.seqIndex_nonneg hz (by omega), e1, q _ _ _ _ (hk3 _ (List.getElem?_eq_getElem hlt)) R3 (s.trans s3) ⟨?_, trivial⟩⟩
    exact e2.to (smPut (O := O) (m' := .lst (ds2.eraseIdx k.toNat)) (H := H1) (ob := .lst (ys.eraseIdx k.toNat)) hi2 g1)
@[simp] def dPop (i : Nat) : WE := fun ρ K => onLs ρ i fun ds put => ∀ d, ds[ds.length - 1]? = some d → K (.d d) (put ds.dropLast)
theorem de_pop {x : Str} {p apos cpos : Pos} (hN : X.N[i]? = some x) (hv : Vis X.env.scope x) (hd : (x == ("__debug__" : Str)) = false := by decide) (hcd : (x == ("__classdict__" : Str)) = false := by decide)
    (hbase : attributeBase (.Name x p) "pop" X.env (eval (.Name x p) X.env) = eval (.Name x p) X.env := by rfl) (hline : (apos.endLine == cpos.line) = true := by rfl) (hK : X.K = Z.K := by rfl) :
    DE Z X (.Call (.Attribute (.Name x p) "pop" apos) [] [] cpos) (fun ρ K => (∃ o d ds, ρ[i]? = some (Sl.mut o false (.lst (d :: ds)))) ∧ dPop i ρ K) := PEweak (pe_bm0 PySem.F.plainAttrs_list PySem.F.slot_list_pop PySem.F.type_list_pop mt_pop (pe_var (i := i) hN hv hd hcd) hbase hline) fun σ H Q ⟨O, ρ, K, R, ⟨⟨o0, d0, ds0, hi0⟩, hk⟩, q⟩ => by
  obtain ⟨o2, ds2, hi2, hk3⟩ := hk.of
  rw [hi0] at hi2
  cases hi2
  obtain ⟨a, ys, g1, g2, g3⟩ := ls_at R hi0
  have hl := g3.len
  have hlt : (d0 :: ds0).length - 1 < (d0 :: ds0).length := by simp
  obtain ⟨y, e1, e2⟩ := g3.getD (List.getElem?_eq_getElem hlt)
  obtain ⟨R3, s3⟩ := put_ok (ob := .lst ys.dropLast) (m' := .lst (d0 :: ds0).dropLast) R hi0 g1 ⟨_, upd_same, g3.dropLast⟩
  refine ⟨.ref a, g1, .inl ⟨rfl, ys, .inl (.inl g2)⟩, a, ys, y, rfl, rfl, g2, by rw [hl]; exact e1, q _ _ _ _ (hk3 _ (List.getElem?_eq_getElem hlt)) R3 s3 ⟨?_, trivial⟩⟩
  exact e2.to (smPut (O := O) (m' := .lst (d0 :: ds0).dropLast) (H := H) (ob := .lst ys.dropLast) hi0 g1)
/-- x[k] = e, x a list -/
@[simp] def sSetL (i : Nat) (wk we : WE) : WS := fun E ρ => isLs ρ i ∧ we ρ fun r ρ1 => toD r ρ1 fun d ρ2 => wk ρ2 fun rk ρ3 => match rk with
  | .d (.int k) => onLs ρ3 i fun ds put => ∃ j, ixN ds.length k = some j ∧ E.nx (put (ds.set j d))
  | _ => False
theorem ds_setL {x : Str} {p pos spos : Pos} {k e : Expr} {wk we : WE} (hN : X.N[i]? = some x) (hv : Vis X.env.scope x) (hk : DE Z X k wk) (he : DE Z X e we) (hd : (x == ("__debug__" : Str)) = false := by decide) (hcd : (x == ("__classdict__" : Str)) = false := by decide)
    (ha : ∀ v, assign (.Subscript (.Name x p) k pos) X.env v = (do
      let ov ← holding [v] (eval (.Name x p) X.env)
      let iv ← holding [v, ov] (eval k X.env)
      standAt pos
      holding [v, ov, iv] (setItem ov iv v)
      release [v, ov, iv] []) := by intro _; rfl)
    (hs : swapsWithSole [.Subscript (.Name x p) k pos] e spos.line X.env = pure false := by rfl) (hw : swappedStores [.Subscript (.Name x p) k pos] e X.env = pure none := by rfl)
    (h1 : (assignEach [.Subscript (.Name x p) k pos] X.env).map (·.2) = [assign (.Subscript (.Name x p) k pos) X.env] := by rfl) :
    DS Z X (.Assign [.Subscript (.Name x p) k pos] e spos) (sSetL i wk we) := PSweak (ps_asg he (pg_sub (pe_var (i := i) hN hv hd hcd) hk set_list ha) hs hw h1) fun D σ H ⟨O, ρ, E, R, ⟨h0, h⟩, e⟩ =>
  ⟨O, ρ, _, R, h, fun r ρ1 v H1 hk1 R1 s ok => by
    obtain ⟨d, ρ2, hk2, R2, s2, hd2⟩ := toD_ok (K := fun d ρ2 => wk ρ2 fun rk ρ3 => match rk with
      | .d (.int k) => onLs ρ3 i fun ds put => ∃ j, ixN ds.length k = some j ∧ E.nx (put (ds.set j d))
      | _ => False) R1 ok.1 hk1
    have fin : ∀ a, σ[i]? = some (some (.ref a)) → gSub (tVar i) (tM Z wk) rSetL v σ H1 D.nx := fun a ha1 => ⟨.ref a, ha1, O, ρ2, _, R2, hk2, fun rk ρ3 vk H3 hk3 R3 s3 ok3 => by
      revert ok3
      match rk, hk3 with
      | .d (.int k), hk3 =>
        intro ok3
        have ok31 : Is Z _ vk (.int k) := ok3.1
        cases ok31
        have hk3 : onLs ρ3 i fun ds put => ∃ j, ixN ds.length k = some j ∧ E.nx (put (ds.set j d)) := hk3
        obtain ⟨o3, ds3, hi3, j, hj, hk4⟩ := hk3.of
        obtain ⟨b, ys, g1, g2, g3⟩ := ls_at R3 hi3
        have g1' : σ[i]? = some (some (.ref b)) := g1
        rw [ha1] at g1'
        cases g1'
        have hl := g3.len
        obtain ⟨R4, s4⟩ := put_ok (ob := .lst (ys.set j v)) (m' := .lst (ds3.set j d)) R3 hi3 g1 ⟨_, upd_same, g3.set j (s3.toStp.is hd2)⟩
        exact ⟨a, ys, k, j, rfl, rfl, g2, by rw [hl]; exact hj, e.nx _ _ _ hk4 R4 (((s.trans s2).trans s3).trans s4).toStp⟩⟩
    obtain ⟨o0, ds0, hi0⟩ := h0.of
    obtain ⟨a, ys, g1, _, _⟩ := ls_at R hi0
    exact fin a g1⟩
end
end Dd

/-! Dicts by data: look-ups, stores. -/
namespace Dd
open PySem PySem.Spec PyProof.Rows L2 PySem.W Cb
section
variable {κ α : Type} [DecidableEq κ]
/-- what stands at a key -/
def asc (es : List (κ × α)) (k : κ) : Option α := (es.find? fun p => decide (p.1 = k)).map (·.2)
/-- a store: in its place, or at the end -/
def put (es : List (κ × α)) (k : κ) (d : α) : List (κ × α) := if (es.any fun p => decide (p.1 = k)) = true then es.map fun p => if p.1 = k then (p.1, d) else p else es ++ [(k, d)]
theorem asc_nil {k : κ} : asc ([] : List (κ × α)) k = none := rfl
theorem asc_pos {p : κ × α} {r : List (κ × α)} {k : κ} (e : p.1 = k) : asc (p :: r) k = some p.2 := by simp [asc, List.find?_cons, e]
theorem asc_neg {p : κ × α} {r : List (κ × α)} {k : κ} (e : ¬ p.1 = k) : asc (p :: r) k = asc r k := by simp [asc, List.find?_cons, e]
end
/-! ### keys -/
mutual
def nkOf : PD → Option NestedKey
  | .none => some .none
  | .int i => some (.num i)
  | .str x => some (.text x)
  | .tuple ds => (nkAll ds).map .tup
  | .bool _ => none
  | .list _ => none
  | .dict _ => none
def nkAll : List PD → Option (List NestedKey)
  | [] => some []
  | d :: ds => (nkOf d).bind fun k => (nkAll ds).map fun ks => k :: ks
end
mutual
theorem nkOf_data : ∀ (d : PD) (k : NestedKey), nkOf d = some k → k.data = d
  | .none, k, h => by rw [nkOf] at h; cases h; rfl
  | .int i, k, h => by rw [nkOf] at h; cases h; rfl
  | .str x, k, h => by rw [nkOf] at h; cases h; rfl
  | .tuple ds, k, h => by
    rw [nkOf, Option.map_eq_some_iff] at h
    obtain ⟨ks, h1, h2⟩ := h
    subst h2
    rw [NestedKey.data, nkAll_data ds ks h1]
  | .bool _, k, h => by rw [nkOf] at h; cases h
  | .list _, k, h => by rw [nkOf] at h; cases h
  | .dict _, k, h => by rw [nkOf] at h; cases h
theorem nkAll_data : ∀ (ds : List PD) (ks : List NestedKey), nkAll ds = some ks → NestedKey.datas ks = ds
  | [], ks, h => by rw [nkAll] at h; cases h; rfl
  | d :: ds, ks, h => by
    rw [nkAll, Option.bind_eq_some_iff] at h
    obtain ⟨k, h1, h2⟩ := h
    rw [Option.map_eq_some_iff] at h2
    obtain ⟨ks', h3, h4⟩ := h2
    subst h4
    rw [NestedKey.datas, nkOf_data d k h1, nkAll_data ds ks' h3]
end
mutual
theorem nkOf_of : ∀ k : NestedKey, nkOf k.data = some k
  | .none => by rw [NestedKey.data, nkOf]
  | .num i => by rw [NestedKey.data, nkOf]
  | .text x => by rw [NestedKey.data, nkOf]
  | .tup ks => by rw [NestedKey.data, nkOf, nkAll_of ks]; rfl
theorem nkAll_of : ∀ ks : List NestedKey, nkAll (NestedKey.datas ks) = some ks
  | [] => by rw [NestedKey.datas, nkAll]
  | k :: ks => by rw [NestedKey.datas, nkAll, nkOf_of k, nkAll_of ks]; rfl
end
section
variable {X : Cx} {pins : List (Addr × Obj)} {σ : L2.St} {H Hh : Hp} {s : Shared}
mutual
theorem nested_of (I : Inv X pins σ H s) (sm : Same Hh H) : ∀ (k : NestedKey) (v : V) (u : Value), Is (zof X) Hh v k.data → RelV v u → NestedIs s.heap k u
  | .none, v, u, h, r => by
    rw [NestedKey.data] at h
    cases h
    rw [show u = Value.none from r]
    exact .none
  | .num i, v, u, h, r => by
    rw [NestedKey.data] at h
    cases h
    obtain ⟨t, e⟩ := (show ∃ t, u = Value.int i t from r)
    rw [e]
    exact .int i t
  | .text x, v, u, h, r => by
    rw [NestedKey.data] at h
    cases h
    obtain ⟨t, e⟩ := (show ∃ t, u = Value.str x t from r)
    rw [e]
    exact .text x t
  | .tup ks, v, u, h, r => by
    rw [NestedKey.data] at h
    cases h with
    | @tup a xs _ hs ha =>
      rw [show u = Value.ref a from r]
      obtain ⟨its, rv, ht, hz⟩ := I.tuple (sqT_sub sm hs)
      obtain ⟨o, h1, h2, n, h3⟩ := ht
      exact .tup h1 h2 h3 (nested_all I sm ks xs _ ha (by simpa using rv))
theorem nested_all (I : Inv X pins σ H s) (sm : Same Hh H) : ∀ (ks : List NestedKey) (vs : List V) (us : List Value), IsAll (zof X) Hh vs (NestedKey.datas ks) → Vals vs us → NestedAll s.heap ks us
  | [], vs, us, h, r => by
    rw [NestedKey.datas] at h
    cases h
    cases r
    exact .nil
  | k :: ks, vs, us, h, r => by
    rw [NestedKey.datas] at h
    cases h with
    | cons h1 h2 =>
      cases r with
      | cons r1 r2 => exact .cons (nested_of I sm k _ _ h1 r1) (nested_all I sm ks _ _ h2 r2)
end
end
/-! ### the pairs -/
section
variable {Z : Zz} {H : Hp}
theorem isK_get {kvs : List (Key × V)} {es : List (Key × PD)} (h : IsK Z H kvs es) {k : Key} {d : PD} (e : asc es k = some d) : ∃ v, valV kvs k = some v ∧ Is Z H v d := by
  unfold IsK at h
  induction h with
  | nil => cases e
  | @cons p q ps qs r t ih =>
    by_cases z : p.1 = k
    · rw [asc_pos (r.1.symm.trans z)] at e
      cases e
      exact ⟨_, valV_pos z, r.2⟩
    · rw [asc_neg (fun y => z (r.1.trans y))] at e
      obtain ⟨v, h1, h2⟩ := ih e
      exact ⟨v, by rw [valV_neg z]; exact h1, h2⟩
theorem isK_some {kvs : List (Key × V)} {es : List (Key × PD)} (h : IsK Z H kvs es) (k : Key) : (valV kvs k).isSome = (asc es k).isSome := by
  unfold IsK at h
  induction h with
  | nil => rfl
  | @cons p q ps qs r t ih =>
    by_cases z : p.1 = k
    · rw [asc_pos (r.1.symm.trans z), valV_pos z]
      rfl
    · rw [asc_neg (fun y => z (r.1.trans y)), valV_neg z, ih]
theorem isK_put {kvs : List (Key × V)} {es : List (Key × PD)} (h : IsK Z H kvs es) (k : Key) {v : V} {d : PD} (hd : Is Z H v d) : IsK Z H (putK kvs k v) (put es k d) := by
  have e : (kvs.any fun kv => decide (kv.1 = k)) = es.any fun kv => decide (kv.1 = k) := by
    unfold IsK at h
    induction h with
    | nil => rfl
    | cons r t ih => rw [List.any_cons, List.any_cons, ih, r.1]
  unfold putK put
  rw [e]
  clear e
  split
  · rename_i hx
    clear hx
    unfold IsK at h ⊢
    induction h with
    | nil => exact .nil
    | @cons p q ps qs r t ih =>
      rw [List.map_cons, List.map_cons]
      refine .cons ?_ ih
      by_cases z : p.1 = k
      · rw [if_pos z, if_pos (r.1.symm.trans z)]
        exact ⟨r.1, hd⟩
      · rw [if_neg z, if_neg (fun y => z (r.1.trans y))]
        exact r
  · exact Paired.snoc h ⟨rfl, hd⟩
theorem isK_len {kvs : List (Key × V)} {es : List (Key × PD)} (h : IsK Z H kvs es) : kvs.length = es.length := Paired.length h
/-- a store, by entries -/
def putNE (ys : List NE) (k : NestedKey) (b : Addr) (v : V) (u : Value) : List NE := if (ys.any fun y => decide (y.1 = k)) = true then ys.map fun y => if y.1 = k then (y.1, y.2.1, v, u) else y else ys ++ [(k, b, v, u)]
theorem atKey_any (xs : List (NestedKey × Addr × Value)) (k : NestedKey) : (atKey xs k).isSome = xs.any fun x => decide (x.1 = k) := by
  induction xs with
  | nil => rfl
  | cons x xs ih =>
    by_cases h : x.1 = k
    · simp [atKey, List.find?_cons, h]
    · rw [List.any_cons, ← ih]
      simp [atKey, List.find?_cons, h]
theorem neX_any (ys : List NE) (k : NestedKey) : ((ys.map neX).any fun x => decide (x.1 = k)) = ys.any fun y => decide (y.1 = k) := by
  rw [List.any_map]
  rfl
theorem putNE_map (ys : List NE) (k : NestedKey) (b : Addr) (v : V) (u : Value) : (putNE ys k b v u).map neX = storedH (ys.map neX) k b u := by
  unfold putNE storedH
  rw [atKey_any, neX_any]
  split
  · rw [List.map_map, List.map_map]
    refine List.map_congr_left fun y _ => ?_
    show neX (if y.1 = k then _ else y) = putAt k u (neX y)
    unfold putAt
    by_cases z : y.1 = k
    · rw [if_pos z, if_pos (show (neX y).1 = k from z)]
      rfl
    · rw [if_neg z, if_neg (show ¬ (neX y).1 = k from z)]
  · rw [List.map_append]
    rfl
theorem isN_get {ys : List NE} {es : List (NestedKey × PD)} (h : IsN Z H ys es) {k : NestedKey} {d : PD} (e : asc es k = some d) : ∃ (b : Addr) (v : V) (u : Value), atKey (ys.map neX) k = some (b, u) ∧ RelV v u ∧ Is Z H v d := by
  unfold IsN at h
  induction h with
  | nil => cases e
  | @cons p q ps qs r t ih =>
    by_cases z : p.1 = k
    · rw [asc_pos (r.key.symm.trans z)] at e
      cases e
      refine ⟨p.2.1, p.2.2.1, p.2.2.2, ?_, r.rv, r.vd⟩
      simp [atKey, List.find?_cons, neX, z]
    · rw [asc_neg (fun y => z (r.key.trans y))] at e
      obtain ⟨b, v, u, h1, h2⟩ := ih e
      refine ⟨b, v, u, ?_, h2⟩
      rw [← h1]
      simp [atKey, List.find?_cons, neX, z]
theorem isN_some {ys : List NE} {es : List (NestedKey × PD)} (h : IsN Z H ys es) (k : NestedKey) : (atKey (ys.map neX) k).isSome = (asc es k).isSome := by
  rw [atKey_any, neX_any]
  unfold IsN at h
  induction h with
  | nil => rfl
  | @cons p q ps qs r t ih =>
    rw [List.any_cons, ih]
    by_cases z : p.1 = k
    · rw [asc_pos (r.key.symm.trans z), decide_eq_true z]
      rfl
    · rw [asc_neg (fun y => z (r.key.trans y)), decide_eq_false z]
      rfl
theorem isN_len {ys : List NE} {es : List (NestedKey × PD)} (h : IsN Z H ys es) : ys.length = es.length := Paired.length h
theorem isN_put {ys : List NE} {es : List (NestedKey × PD)} (h : IsN Z H ys es) {k : NestedKey} {b : Addr} {v : V} {u : Value} {d : PD} (hk : Is Z H (.ref b) k.data) (hdp : k.depth ≤ 8) (ht : ∃ ks, k = .tup ks) (rv : RelV v u) (hd : Is Z H v d) : IsN Z H (putNE ys k b v u) (put es k d) := by
  have e : (ys.any fun kv => decide (kv.1 = k)) = es.any fun kv => decide (kv.1 = k) := by
    unfold IsN at h
    induction h with
    | nil => rfl
    | cons r t ih => rw [List.any_cons, List.any_cons, ih, r.key]
  unfold putNE put
  rw [e]
  clear e
  split
  · rename_i hx
    clear hx
    unfold IsN at h ⊢
    induction h with
    | nil => exact .nil
    | @cons p q ps qs r t ih =>
      rw [List.map_cons, List.map_cons]
      refine .cons ?_ ih
      by_cases z : p.1 = k
      · rw [if_pos z, if_pos (r.key.symm.trans z)]
        exact ⟨r.key, r.dp, r.tup, r.kd, rv, hd⟩
      · rw [if_neg z, if_neg (fun y => z (r.key.trans y))]
        exact r
  · exact Paired.snoc h ⟨rfl, hdp, ht, hk, rv, hd⟩
end
/-! ### the object -/
section
variable {X : Cx} {pins : List (Addr × Obj)} {σ : L2.St} {H Hh : Hp} {s : Shared} {a : Addr} {o : Obj}
theorem do_at (I : Inv X pins σ H s) (h : H a = some (DO a o)) : s.heap.get? a = some o := (show ObjOk X.prog X.w H s.heap a (DO a o) from I.hok a _ h).1
theorem dk_dict {Z : Zz} {h : Heap} {vs : List (Key × Value)} (e : h.get? a = some o) (d : DkO Z o vs) : h.DictOf (mixKind Z.P Z.w) a vs := by
  obtain ⟨es, ep, h1, h2, h3⟩ := d.data
  exact ⟨o, es, ep, e, d.ex, h1, h2, h3, d.nd⟩
theorem dict_dk {Z : Zz} {h : Heap} {vs : List (Key × Value)} (d : h.DictOf (mixKind Z.P Z.w) a vs) (l : vs.length ≤ sizeLine) : ∃ o, h.get? a = some o ∧ DkO Z o vs := by
  obtain ⟨o, es, ep, e, h1, h2, h3, h4, h5⟩ := d
  exact ⟨o, e, h1, l, ⟨es, ep, h2, h3, h4⟩, h5⟩
theorem ne_is (I : Inv X pins σ H s) (sm : Same Hh H) {ys : List NE} {es : List (NestedKey × PD)} (h : IsN (zof X) Hh ys es) : ∀ x ∈ ys.map neX, (nestedKind X.prog X.w).is s.heap x.1 x.2.1 := by
  unfold IsN at h
  induction h with
  | nil => intro x hx; cases hx
  | @cons p q ps qs r t ih =>
    intro x hx
    rw [List.map_cons] at hx
    rcases List.mem_cons.mp hx with z | z
    · subst z
      exact ⟨nested_of I sm p.1 _ _ r.kd rfl, r.dp⟩
    · exact ih x z
theorem dn_dict (I : Inv X pins σ H s) (sm : Same Hh H) {ys : List NE} {es : List (NestedKey × PD)} (h : IsN (zof X) Hh ys es) (e : s.heap.get? a = some o) (d : DnO (zof X) o (ys.map neX)) : s.heap.DictOfH (nestedKind X.prog X.w) a (ys.map neX) := by
  obtain ⟨es', ep, h1, h2⟩ := d.data
  exact ⟨o, es', ep, e, d.ex, h1, h2, ne_is I sm h, d.nd⟩
theorem dict_dn {Z : Zz} {h : Heap} {xs : List (NestedKey × Addr × Value)} (d : h.DictOfH (nestedKind Z.P Z.w) a xs) (l : xs.length ≤ sizeLine) : ∃ o, h.get? a = some o ∧ DnO Z o xs := by
  obtain ⟨o, es, ep, e, h1, h2, h3, h4, h5⟩ := d
  exact ⟨o, e, h1, l, ⟨es, ep, h2, h3⟩, h5⟩
theorem do_ok {P : Program} {w : World} {H' : Hp} {h' : Heap} (e : h'.get? a = some o) : ObjOk P w H' h' a (DO a o) := ⟨e, ⟨o, e⟩, fun _ _ e k => k _ e⟩
/-- the dict at a is replaced -/
theorem do_write {h' : Heap} {t' : Nat} {o' : Obj} (I : Inv X pins σ H s) (h : H a = some (DO a o)) (hs : Heap.SameBut a s.heap h') (e : h'.get? a = some o') : Inv X pins σ (upd H a (DO a o')) { s with heap := h', toks := t' } :=
  d_write I (by rw [h]; exact True.intro) hs ⟨o', e⟩ (do_ok e)
end
/-! ### views -/
@[simp] def keyD : PD → Option Key
  | .int i => some (.inl i)
  | .str x => some (.inr x)
  | _ => none
def dkOf : List (PD × PD) → Option (List (Key × PD))
  | [] => some []
  | (k, d) :: r => match keyD k, dkOf r with
    | some k, some r => some ((k, d) :: r)
    | _, _ => none
theorem keyD_kD (k : Key) : keyD (kD k) = some k := by cases k <;> rfl
theorem kD_keyD : ∀ {d : PD} {k : Key}, keyD d = some k → d = kD k
  | .int i, k, h => by cases h; rfl
  | .str x, k, h => by cases h; rfl
  | .none, k, h => by cases h
  | .bool _, k, h => by cases h
  | .list _, k, h => by cases h
  | .tuple _, k, h => by cases h
  | .dict _, k, h => by cases h
@[simp] def dkB : BV → Option (List (Key × PD))
  | .m (.dk es) => some es
  | .d (.dict es) => dkOf es
  | _ => none
@[simp] def dnB : BV → Option (List (NestedKey × PD))
  | .m (.dn es) => some es
  | _ => none
@[simp] def kyB : BV → Option Key
  | .d d => keyD d
  | _ => none
/-- a key: a tuple, not too deep -/
@[simp] def nkB : BV → Option NestedKey
  | .d (.tuple ds) => (nkOf (.tuple ds)).bind fun k => if k.depth ≤ 8 then some k else none
  | _ => none
section
variable {Z : Zz} {U : Addr → Prop} {H : Hp} {v : V}
theorem isKv_back : ∀ {kvs : List (Key × V)} {es : List (PD × PD)} {fs : List (Key × PD)}, IsKv Z H kvs es → dkOf es = some fs → IsK Z H kvs fs
  | _, _, fs, .nil, e => by cases e; exact .nil
  | _, _, fs, .cons (k := k) (v := v) (es := es) h t, e => by
    rw [dkOf, keyD_kD] at e
    split at e
    · rename_i k' r e1 e2
      cases e1
      cases e
      exact .cons ⟨rfl, h⟩ (isKv_back t e2)
    · cases e
theorem dkB_ok {b : BV} {es : List (Key × PD)} (h : BvOk Z U H v b) (e : dkB b = some es) : ∃ a o vs kvs, v = .ref a ∧ H a = some (DO a o) ∧ (a == sysModules) = false ∧ DkO Z o vs ∧ KV kvs vs ∧ IsK Z (hide U H) kvs es := by
  cases b with
  | d x =>
    cases x with
    | dict fs =>
      have h : Is Z (hide U H) v (.dict fs) := h
      cases h with
      | dct h1 h2 h3 h4 h5 => exact ⟨_, _, _, _, rfl, hide_same _ _ h1, h2, h3, h4, isKv_back h5 e⟩
    | none => cases e
    | bool _ => cases e
    | int _ => cases e
    | str _ => cases e
    | list _ => cases e
    | tuple _ => cases e
  | m x =>
    cases x with
    | dk fs =>
      cases e
      obtain ⟨a, rfl, o, vs, kvs, h1, h2, h3, h4, h5⟩ := h
      exact ⟨a, o, vs, kvs, rfl, h1, h2, h3, h4, h5.to (hide_less fun b z => .inl z)⟩
    | lst _ => cases e
    | dn _ => cases e
theorem dnB_ok {b : BV} {es : List (NestedKey × PD)} (h : BvOk Z U H v b) (e : dnB b = some es) : ∃ a o ys, v = .ref a ∧ H a = some (DO a o) ∧ (a == sysModules) = false ∧ DnO Z o (ys.map neX) ∧ IsN Z (hide U H) ys es := by
  cases b with
  | d x => cases e
  | m x =>
    cases x with
    | dn fs =>
      cases e
      obtain ⟨a, rfl, o, ys, h1, h2, h3, h5⟩ := h
      exact ⟨a, o, ys, rfl, h1, h2, h3, h5.to (hide_less fun b z => .inl z)⟩
    | lst _ => cases e
    | dk _ => cases e
theorem kyB_ok {b : BV} {k : Key} (h : BvOk Z U H v b) (e : kyB b = some k) : v = kV k := by
  cases b with
  | m x => cases e
  | d x =>
    have h : Is Z (hide U H) v x := h
    rw [kD_keyD (d := x) e] at h
    cases k with
    | inl i => cases h; rfl
    | inr y => cases h; rfl
theorem nkB_ok {b : BV} {k : NestedKey} (h : BvOk Z U H v b) (e : nkB b = some k) : ∃ a, v = .ref a ∧ Is Z (hide U H) (.ref a) k.data ∧ k.depth ≤ 8 ∧ ∃ ks, k = .tup ks := by
  cases b with
  | m x => cases e
  | d x =>
    cases x with
    | tuple ds =>
      have h : Is Z (hide U H) v (.tuple ds) := h
      have e : (nkOf (.tuple ds)).bind (fun k => if k.depth ≤ 8 then some k else none) = some k := e
      rw [Option.bind_eq_some_iff] at e
      obtain ⟨k', h1, h2⟩ := e
      split at h2
      · rename_i hd
        cases h2
        rw [← nkOf_data _ _ h1] at h
        rw [nkOf, Option.map_eq_some_iff] at h1
        obtain ⟨ks, _, h3⟩ := h1
        subst h3
        rw [NestedKey.data] at h
        cases h with
        | tup hs ha => exact ⟨_, rfl, by rw [NestedKey.data]; exact .tup hs ha, hd, ks, rfl⟩
      · cases h2
    | none => cases e
    | bool _ => cases e
    | int _ => cases e
    | str _ => cases e
    | list _ => cases e
    | dict _ => cases e
end
/-- d[k] -/
@[simp] def getB (x y : BV) : Option PD := match dkB x, kyB y, dnB x, nkB y with
  | some es, some k, _, _ => asc es k
  | _, _, some es, some k => asc es k
  | _, _, _, _ => none
/-- k in d -/
@[simp] def hasB (x y : BV) : Option Bool := match dkB x, kyB y, dnB x, nkB y with
  | some es, some k, _, _ => some (asc es k).isSome
  | _, _, some es, some k => some (asc es k).isSome
  | _, _, _, _ => none
@[simp] def ixDB : B2 := fun x y K => ∃ d, getB x y = some d ∧ K (.d d)
@[simp] def inDB (neg : Bool) : B2 := fun x y K => ∃ c, hasB y x = some c ∧ K (.d (.bool (c != neg)))
theorem nk_room {P : Program} {w : World} {A : Around} (hu : A.units + 9 < cLine) : (nestedKind P w).room A.in1 := by
  show A.units + 1 + 8 < cLine
  omega
section
variable {X : Cx} {Z : Zz}
theorem dict_TypeIs {P : Program} {w : World} {s : Shared} {a : Addr} {vs : List (Key × Value)} (dd : s.heap.DictOf (mixKind P w) a vs) : s.TypeIs (.ref a) "dict" := dd.typeIs
theorem ix_dictD (hu : X.A.units + 9 < cLine) (hZ : zof X = Z := by rfl) : IxR X (rD Z ixDB) := by
  subst hZ
  intro value slice pins s σ H x y v u Q I rx ry ⟨U, b1, b2, K, hU, h1, h2, hB, q⟩ hs
  obtain ⟨d, e, hk⟩ := hB
  unfold getB at e
  split at e
  · rename_i es k e1 e2
    obtain ⟨a, o, vs, kvs, rfl, g1, g2, g3, g4, g5⟩ := dkB_ok h1 e1
    obtain ⟨z, z1, z2⟩ := isK_get g5 e
    rw [kyB_ok h2 e2] at ry
    obtain rfl : v = Value.ref a := rx
    have dd := dk_dict (Z := zof X) (do_at I g1) g3
    obtain ⟨w', hw, rw'⟩ := RelO.some_of (v := z) (o := valueAt vs k) (by rw [← z1]; exact g4.val k)
    exact tail_any dd.typeIs slot_dict_getitem.lookup (wpAny_getItem_of (kV_is ry) dd.mapOf hw ⟨z, H, I.tok _, rw', q _ _ _ hk (Same.refl _) z2⟩) hs
  · rename_i es k e1 e2 _
    obtain ⟨a, o, ys, rfl, g1, g2, g3, g5⟩ := dnB_ok h1 e1
    obtain ⟨b, z, w', z1, z2, z3⟩ := isN_get g5 e
    obtain ⟨c, rfl, c1, c2, c3⟩ := nkB_ok h2 e2
    obtain rfl : v = Value.ref a := rx
    obtain rfl : u = Value.ref c := ry
    have dd := dn_dict I hide_same g5 (do_at I g1) g3
    have isk : (nestedKind X.prog X.w).is s.heap k c := ⟨nested_of I hide_same k _ _ c1 rfl, c2⟩
    exact tail_any dd.typeIs slot_dict_getitem.lookup (wpAny_getItem_heap (nk_room hu) isk dd z1 ⟨z, H, I.tok _, z2, q _ _ _ hk (Same.refl _) z3⟩) hs
  · cases e
theorem hasB_go (hu : X.A.units + 9 < cLine) {pins : List (Addr × Obj)} {σ : L2.St} {H : Hp} {s : Shared} {U : Addr → Prop} {x y : V} {v u : Value} {b1 b2 : BV} {c : Bool} (I : Inv X pins σ H s) (rx : RelV x v) (ry : RelV y u) (h1 : BvOk (zof X) U H x b1) (h2 : BvOk (zof X) U H y b2) (e : hasB b2 b1 = some c) {E : Value → Shared → Prop} :
    (∀ {Q : Value → Shared → Prop}, (∀ s', Inv X pins σ H s' → Q (.bool c) s') → wpAny (model X.prog X.w) X.A (compareOp .In v u) Q E s) ∧ (∀ {Q : Value → Shared → Prop}, (∀ s', Inv X pins σ H s' → Q (.bool (!c)) s') → wpAny (model X.prog X.w) X.A (compareOp .NotIn v u) Q E s) := by
  unfold hasB at e
  split at e
  · rename_i es k e1 e2
    cases e
    obtain ⟨a, o, vs, kvs, rfl, g1, g2, g3, g4, g5⟩ := dkB_ok h2 e1
    rw [kyB_ok h1 e2] at rx
    obtain rfl : u = Value.ref a := ry
    have dd := dk_dict (Z := zof X) (do_at I g1) g3
    rw [← isK_some g5 k, (g4.val k).isSome_eq]
    exact ⟨fun q => wpAny_in_of (kV_is rx) g2 dd.mapOf (q _ (I.tok _)), fun q => wpAny_notIn_of (kV_is rx) g2 dd.mapOf (q _ (I.tok _))⟩
  · rename_i es k e1 e2 _
    cases e
    obtain ⟨a, o, ys, rfl, g1, g2, g3, g5⟩ := dnB_ok h2 e1
    obtain ⟨b, rfl, c1, c2, c3⟩ := nkB_ok h1 e2
    obtain rfl : u = Value.ref a := ry
    obtain rfl : v = Value.ref b := rx
    have dd := dn_dict I hide_same g5 (do_at I g1) g3
    have isk : (nestedKind X.prog X.w).is s.heap k b := ⟨nested_of I hide_same k _ _ c1 rfl, c2⟩
    rw [← isN_some g5 k]
    exact ⟨fun q => wpAny_in_heap (nk_room hu) isk g2 dd (q _ (I.tok _)), fun q => wpAny_notIn_heap (nk_room hu) isk g2 dd (q _ (I.tok _))⟩
  · cases e
theorem o_inDict (hu : X.A.units + 9 < cLine) (hZ : zof X = Z := by rfl) : OpR X (compareOp .In) (rD Z (inDB false)) := by
  subst hZ
  intro pins s σ H x y v u Q I rx ry ⟨U, b1, b2, K, hU, h1, h2, ⟨c, e, hk⟩, q⟩
  refine (hasB_go hu I rx ry h1 h2 e).1 fun s' I' => ⟨.bl c, H, I', rfl, q _ _ _ hk (Same.refl _) ?_⟩
  rw [Bool.bne_false]
  exact Is.bl c
theorem o_ninDict (hu : X.A.units + 9 < cLine) (hZ : zof X = Z := by rfl) : OpR X (compareOp .NotIn) (rD Z (inDB true)) := by
  subst hZ
  intro pins s σ H x y v u Q I rx ry ⟨U, b1, b2, K, hU, h1, h2, ⟨c, e, hk⟩, q⟩
  refine (hasB_go hu I rx ry h1 h2 e).2 fun s' I' => ⟨.bl (!c), H, I', rfl, q _ _ _ hk (Same.refl _) ?_⟩
  rw [Bool.bne_true]
  exact Is.bl (!c)
/-! ### d[k] = v -/
def rSetDk (Z : Zz) : V → V → V → Hp → (Hp → Prop) → Prop := fun x y v H Q => ∃ a o vs kvs k, x = .ref a ∧ H a = some (DO a o) ∧ (a == sysModules) = false ∧ DkO Z o vs ∧ KV kvs vs ∧ y = kV k ∧ vs.length < sizeLine ∧ ∀ o' vs', DkO Z o' vs' → KV (putK kvs k v) vs' → Q (upd H a (DO a o'))
theorem set_dk (hZ : zof X = Z := by rfl) : PSet X (rSetDk Z) := by
  subst hZ
  intro pins s σ H o i v ov iv u Q I ro ri rv h
  obtain ⟨a, ob, vs, kvs, k, rfl, g1, g2, g3, g4, rfl, hl, q⟩ := h
  obtain rfl : ov = Value.ref a := ro
  have dd := dk_dict (Z := zof X) (do_at I g1) g3
  refine wpAny_setItem_pairs (hsz := g3.len) (kV_is ri) dd fun h' dd' hs => ?_
  have l1 := (g4.put k rv).length
  have l2 := length_putK kvs k v
  have l3 := g4.length
  obtain ⟨o', e', d'⟩ := dict_dk (Z := zof X) dd' (by omega)
  exact ⟨_, do_write I g1 hs e', q _ _ d' (g4.put k rv)⟩
def rSetDn (Z : Zz) : V → V → V → Hp → (Hp → Prop) → Prop := fun x y v H Q => ∃ a o ys es k b Hh, x = .ref a ∧ H a = some (DO a o) ∧ (a == sysModules) = false ∧ DnO Z o (ys.map neX) ∧ Same Hh H ∧ IsN Z Hh ys es ∧ y = .ref b ∧ Is Z Hh (.ref b) (NestedKey.data k) ∧ k.depth ≤ 8 ∧ ys.length < sizeLine ∧ ∀ o' u, RelV v u → DnO Z o' ((putNE ys k b v u).map neX) → Q (upd H a (DO a o'))
theorem putNE_len (ys : List NE) (k : NestedKey) (b : Addr) (v : V) (u : Value) : (putNE ys k b v u).length ≤ ys.length + 1 := by
  unfold putNE
  split
  · rw [List.length_map]; omega
  · rw [List.length_append, List.length_singleton]; omega
theorem set_dn (hu : X.A.units + 9 < cLine) (hZ : zof X = Z := by rfl) : PSet X (rSetDn Z) := by
  subst hZ
  intro pins s σ H o i v ov iv u Q I ro ri rv h
  obtain ⟨a, ob, ys, es, k, b, Hh, rfl, g1, g2, g3, sm, g4, rfl, hkd, hdp, hl, q⟩ := h
  obtain rfl : ov = Value.ref a := ro
  obtain rfl : iv = Value.ref b := ri
  have dd := dn_dict I sm g4 (do_at I g1) g3
  have isk : (nestedKind X.prog X.w).is s.heap k b := ⟨nested_of I sm k _ _ hkd rfl, hdp⟩
  refine wpAny_setItem_heap (hsz := g3.len) (nk_room hu) isk dd fun h' dd' hs => ?_
  rw [← putNE_map ys k b v u] at dd'
  have l2 := putNE_len ys k b v u
  obtain ⟨o', e', d'⟩ := dict_dn (Z := zof X) dd' (by rw [List.length_map]; omega)
  exact ⟨_, do_write I g1 hs e', q _ _ rv d'⟩
end
end Dd

/-! Dicts by data: stores, new ones, displays, methods. -/
namespace Dd
open PySem PySem.Spec PyProof.Rows L2 PySem.W Cb
section
variable {Z : Zz} {X : Cx}
theorem PSet.or {r r' : V → V → V → Hp → (Hp → Prop) → Prop} (h : PSet X r) (h' : PSet X r') : PSet X (fun x y v H Q => r x y v H Q ∨ r' x y v H Q) := by
  intro pins s σ H o i v ov iv u Q I ro ri rv q
  rcases q with q | q
  · exact h pins s σ H o i v ov iv u Q I ro ri rv q
  · exact h' pins s σ H o i v ov iv u Q I ro ri rv q
@[simp] def isDk (ρ : Rho) (i : Nat) : Prop := match ρ[i]? with
  | some (.mut _ false (.dk _)) => True
  | some (.mut _ false (.dn _)) => True
  | _ => False
theorem isDk.of {ρ : Rho} {i : Nat} (h : isDk ρ i) : ∃ o m, ρ[i]? = some (Sl.mut o false m) := by
  unfold isDk at h
  split at h
  · exact ⟨_, _, ‹_›⟩
  · exact ⟨_, _, ‹_›⟩
  · exact h.elim
/-- a store at the key kd -/
@[simp] def onDk (ρ : Rho) (i : Nat) (kd d : PD) (k : Rho → Prop) : Prop := match ρ[i]? with
  | some (.mut o false (.dk es)) => ∃ ky, keyD kd = some ky ∧ es.length < 100000 ∧ k (ρ.set i (.mut o false (.dk (put es ky d))))
  | some (.mut o false (.dn es)) => ∃ ky, nkB (.d kd) = some ky ∧ es.length < 100000 ∧ k (ρ.set i (.mut o false (.dn (put es ky d))))
  | _ => False
/-- x[k] = e, x a dict -/
@[simp] def sSetD (i : Nat) (wk we : WE) : WS := fun E ρ => isDk ρ i ∧ we ρ fun r ρ1 => toD r ρ1 fun d ρ2 => wk ρ2 fun rk ρ3 => toD rk ρ3 fun kd ρ4 => onDk ρ4 i kd d E.nx
theorem ds_setD {i : Nat} {x : Str} {p pos spos : Pos} {k e : Expr} {wk we : WE} (hu : X.A.units + 9 < cLine) (hN : X.N[i]? = some x) (hv : Vis X.env.scope x) (hk : DE Z X k wk) (he : DE Z X e we) (hd : (x == ("__debug__" : Str)) = false := by decide) (hcd : (x == ("__classdict__" : Str)) = false := by decide)
    (ha : ∀ v, assign (.Subscript (.Name x p) k pos) X.env v = (do
      let ov ← holding [v] (eval (.Name x p) X.env)
      let iv ← holding [v, ov] (eval k X.env)
      standAt pos
      holding [v, ov, iv] (setItem ov iv v)
      release [v, ov, iv] []) := by intro _; rfl)
    (hs : swapsWithSole [.Subscript (.Name x p) k pos] e spos.line X.env = pure false := by rfl) (hw : swappedStores [.Subscript (.Name x p) k pos] e X.env = pure none := by rfl)
    (h1 : (assignEach [.Subscript (.Name x p) k pos] X.env).map (·.2) = [assign (.Subscript (.Name x p) k pos) X.env] := by rfl) (hZ : zof X = Z := by rfl) :
    DS Z X (.Assign [.Subscript (.Name x p) k pos] e spos) (sSetD i wk we) := PSweak (ps_asg he (pg_sub (pe_var (i := i) hN hv hd hcd) hk (PSet.or (set_dk hZ) (set_dn hu hZ)) ha) hs hw h1) fun D σ H ⟨O, ρ, E, R, ⟨h0, h⟩, e⟩ =>
  ⟨O, ρ, _, R, h, fun r ρ1 v H1 hk1 R1 s1 ok1 => by
    obtain ⟨d, ρ2, hk2, R2, s2, hd2⟩ := toD_ok (K := fun d ρ2 => wk ρ2 fun rk ρ3 => toD rk ρ3 fun kd ρ4 => onDk ρ4 i kd d E.nx) R1 ok1.1 hk1
    have s12 := s1.trans s2
    obtain ⟨o0, m0, hi0⟩ := h0.of
    obtain ⟨a0, ha0, _⟩ := R.muts _ _ _ _ hi0
    refine ⟨.ref a0, ha0, O, ρ2, _, R2, hk2, fun rk ρ3 vk H3 hk3 R3 s3 ok3 => ?_⟩
    obtain ⟨kd, ρ4, hk4, R4, s4, hd4⟩ := toD_ok (K := fun kd ρ4 => onDk ρ4 i kd d E.nx) R3 ok3.1 hk3
    have s34 := s3.trans s4
    have hv4 := s34.toStp.is hd2
    have hk4 : onDk ρ4 i kd d E.nx := hk4
    unfold onDk at hk4
    split at hk4
    · rename_i o es hi4
      obtain ⟨ky, e1, hl, hn⟩ := hk4
      obtain ⟨a, h1, _, ob, vs, kvs, g1, g2, g3, g4, g5⟩ := R4.muts _ _ _ _ hi4
      cases ha0.inj h1
      have hy : vk = kV ky := kyB_ok (b := .d kd) hd4 e1
      have l1 := isK_len g5
      have l2 := g4.length
      refine .inl ⟨a0, ob, vs, kvs, ky, rfl, g1, g2, g3, g4, hy, lst_line (by omega), fun o' vs' d1 d2 => ?_⟩
      obtain ⟨R5, s5⟩ := put_ok (ob := DO a0 o') (m' := .dk (put es ky d)) R4 hi4 h1 ⟨o', vs', _, upd_same, g2, d1, d2, isK_put g5 ky hv4⟩
      exact e.nx _ _ _ hn R5 ((s12.trans (s34.trans s5)).toStp)
    · rename_i o es hi4
      obtain ⟨ky, e1, hl, hn⟩ := hk4
      obtain ⟨a, h1, _, ob, ys, g1, g2, g3, g5⟩ := R4.muts _ _ _ _ hi4
      cases ha0.inj h1
      obtain ⟨b, rfl, c1, c2, c3⟩ := nkB_ok (U := Hid O ρ4 σ) (b := .d kd) hd4 e1
      have l1 := isN_len g5
      refine .inr ⟨a0, ob, ys, es, ky, b, _, rfl, g1, g2, g3, hide_same, g5, rfl, c1, c2, lst_line (by omega), fun o' u rv d1 => ?_⟩
      obtain ⟨R5, s5⟩ := put_ok (ob := DO a0 o') (m' := .dn (put es ky d)) R4 hi4 h1 ⟨o', _, upd_same, g2, d1, isN_put g5 c1 c2 c3 rv hv4⟩
      exact e.nx _ _ _ hn R5 ((s12.trans (s34.trans s5)).toStp)
    · exact hk4.elim⟩
/-! ### a new object, finished -/
theorem end_new {O : Addr → Prop} {ρ ρ' : Rho} {σ : Stt} {H H2 : Hp} {p : Addr} {ob0 ob : HO} {mo : MO} (R : Rel Z O ρ σ H) (np : H p = none) (R2 : Rel Z (fun b => O b ∨ b = p) ρ' σ H2) (s : Est ρ σ (upd H p ob0) ρ' H2)
    (hob : ObM Z (hide (Hid (fun b => O b ∨ b = p) ρ' σ) H2) (upd H2 p ob) p mo) : Rel Z O ρ' σ (upd H2 p ob) ∧ Est ρ σ H ρ' (upd H2 p ob) ∧ RvF Z O ρ' σ H (upd H2 p ob) (.ref p) (.m mo) := by
  have nin : ∀ (i : Nat) (o l : Bool) (m : MO), ρ'[i]? = some (Sl.mut o l m) → ¬ At σ i p := fun i o l m h z => by
    obtain ⟨m2, h2⟩ := s.nm i o l m h
    exact R.hidThere (.inr ⟨i, o, l, m2, h2, z⟩) np
  have R3 : Rel Z (fun b => O b ∨ b = p) ρ' σ (upd H2 p ob) := R2.updO (.inr rfl) nin
  have nh : ¬ Hid O ρ' σ p := fun z => by
    rcases z with z | ⟨i, o, l, m, h1, h2⟩
    · exact R.odom p z np
    · exact nin i o l m h1 h2
  have R4 : Rel Z O ρ' σ (upd H2 p ob) := Rel.drop (l := [p]) (by rw [OT_one]; exact R3) fun a ha => by rw [List.mem_singleton.mp ha]; exact nh
  have ntch : ∀ b, Tch ρ σ b → b ≠ p := fun b ⟨i, o, m, h1, h2⟩ z => by
    subst z
    exact R.hidThere (.inr ⟨i, o, false, m, h1, h2⟩) np
  refine ⟨R4, ⟨⟨fun b o n e => ?_, fun b h => ?_, fun i o l m a h1 h2 => ?_, fun i o l m h hol => s.hold i o l m h hol⟩, s.nm⟩, ⟨p, rfl, np, nh, hob.to (hide_to fun b o n e => ?_) fun _ e => e⟩, fun a e => ?_⟩
  · have nb : b ≠ p := ne_of_none e np
    rw [upd_ne nb]
    exact s.keep b o n (by rw [upd_ne nb]; exact e)
  · by_cases z : b = p
    · rw [z, upd_same]
      exact fun q => by cases q
    · rw [upd_ne z]
      exact s.dom b (by rw [upd_ne z]; exact h)
  · rcases s.own i o l m a h1 h2 with h | ⟨h3, h4, h5⟩
    · exact .inl h
    · refine .inr ⟨h3, h4, ?_⟩
      by_cases z : a = p
      · rw [z]; exact np
      · rw [upd_ne z] at h5
        exact h5
  · have nb : b ≠ p := fun z => n (.inl (.inr z))
    refine ⟨fun z => n ?_, by rw [upd_ne nb]; exact e⟩
    rcases z with (z | z) | z
    · exact .inl (.inl z)
    · exact .inr z
    · exact (nb z).elim
  · cases e
    exact R3
/-! ### {} -/
def emp : Obj := { cls := .type "dict", data := .dict #[] }
theorem emp_dk : DkO Z emp [] := ⟨⟨rfl, rfl, rfl⟩, Nat.zero_le _, ⟨#[], 0, rfl, fun _ he => by simp at he, Pairs.nil⟩, List.nodup_nil⟩
theorem emp_dn : DnO Z emp [] := ⟨⟨rfl, rfl, rfl⟩, Nat.zero_le _, ⟨#[], 0, rfl, rfl⟩, List.nodup_nil⟩
def tDNewO : TE := fun _ H Q => ∀ p, H p = none → (p == sysModules) = false → Q (.ref p) (upd H p (DO p emp))
theorem pe_dnewO {pos : Pos} : PE X (.Dict [] [] pos) tDNewO := ⟨fun pins s σ H Q I h =>
  wpAny_Dict_empty ⟨.ref s.heap.objs.size, _, I.laid (a := s.heap.objs.size) (o := DO s.heap.objs.size emp) (t' := s.toks) (fun _ _ q => Heap.get?_push_of_some _ q) (Nat.le_refl _) (do_ok (Heap.get?_push_size _ rfl)), rfl,
    h _ (I.hok.fresh (Nat.le_refl _)) (beq_eq_false_iff_ne.mpr (Ne.symm (Nat.ne_of_lt I.big)))⟩⟩
@[simp] def dNew (m : MO) : WE := fun ρ K => K (.m m) ρ
theorem new_ok {O : Addr → Prop} {ρ : Rho} {σ : Stt} {H : Hp} {p : Addr} {ob : HO} {mo : MO} (R : Rel Z O ρ σ H) (np : H p = none) (hob : ∀ Hh, ObM Z Hh (upd H p ob) p mo) : Rel Z O ρ σ (upd H p ob) ∧ Est ρ σ H ρ (upd H p ob) ∧ RvF Z O ρ σ H (upd H p ob) (.ref p) (.m mo) :=
  ⟨R.grow (same_upd np), Est.grow (same_upd np), nv_f R (same_upd np) ⟨p, rfl, np, hob _⟩ fun _ z => z⟩
theorem de_newK {pos : Pos} : DE Z X (.Dict [] [] pos) (dNew (.dk [])) := PEweak pe_dnewO fun σ H Q ⟨O, ρ, K, R, h, q⟩ p np hp => by
  obtain ⟨a, b, c⟩ := new_ok (ob := DO p emp) (mo := .dk []) R np fun Hh => ⟨emp, [], [], upd_same, hp, emp_dk, .nil, .nil⟩
  exact q _ _ _ _ h a b c
theorem de_newN {pos : Pos} : DE Z X (.Dict [] [] pos) (dNew (.dn [])) := PEweak pe_dnewO fun σ H Q ⟨O, ρ, K, R, h, q⟩ p np hp => by
  obtain ⟨a, b, c⟩ := new_ok (ob := DO p emp) (mo := .dn []) R np fun Hh => ⟨emp, [], upd_same, hp, emp_dn, .nil⟩
  exact q _ _ _ _ h a b c
/-! ### displays with texts as keys -/
@[simp] def dPs : List (Str × WE) → Rho → (List (Key × PD) → Rho → Prop) → Prop
  | [], ρ, K => K [] ρ
  | (x, w) :: r, ρ, K => w ρ fun rv ρ1 => toD rv ρ1 fun d ρ2 => dPs r ρ2 fun es ρ3 => K ((.inr x, d) :: es) ρ3
def mergeD (es : List (Key × PD)) : List (Key × PD) := es.foldl (fun acc kv => put acc kv.1 kv.2) []
def trP (Z : Zz) (p : Str × WE) : TE × TE := (tC (.str p.1), tM Z p.2)
structure DPs (Z : Zz) (X : Cx) (pos : Pos) (keys : List (Option Expr)) (values : List Expr) (ps : List (Str × WE)) : Prop where
  run : PPs X pos keys values (ps.map (trP Z))
theorem dps_nil {pos : Pos} : DPs Z X pos [] [] [] := ⟨pps_nil⟩
theorem dps_cons {pos kp : Pos} {x : Str} {kd : Nat} {v : Expr} {ks : List (Option Expr)} {vs : List Expr} {w : WE} {ps : List (Str × WE)} (hv : DE Z X v w) (hr : DPs Z X pos ks vs ps) : DPs Z X pos (some (.Constant (.str x) kd kp) :: ks) (v :: vs) ((x, w) :: ps) := ⟨pps_cons pe_str hv hr.run⟩
theorem pairs_ok {O : Addr → Prop} {σ : Stt} : ∀ {ps : List (Str × WE)} {ρ : Rho} {H : Hp} {K : List (Key × PD) → Rho → Prop} {Q : List (V × V) → Hp → Prop}, Rel Z O ρ σ H → dPs ps ρ K →
    (∀ es kvs ρ' H', K es ρ' → es.length = ps.length → Rel Z O ρ' σ H' → Est ρ σ H ρ' H' → IsK Z (hide (Hid O ρ' σ) H') kvs es → Q (kvs.map fun kv => (kV kv.1, kv.2)) H') → tPairs (ps.map (trP Z)) σ H Q
  | [], ρ, H, K, Q, R, h, q => q [] [] ρ H h rfl R Est.refl .nil
  | (x, w) :: r, ρ, H, K, Q, R, h, q => by
    refine ⟨O, ρ, _, R, h, fun rv ρ1 v H1 hk1 R1 s1 ok1 => ?_⟩
    obtain ⟨d, ρ2, hk2, R2, s2, hd2⟩ := toD_ok (K := fun d ρ2 => dPs r ρ2 fun es ρ3 => K ((.inr x, d) :: es) ρ3) R1 ok1.1 hk1
    refine pairs_ok R2 hk2 fun es kvs ρ3 H3 hk3 hl R3 s3 hi => ?_
    have := q ((.inr x, d) :: es) ((.inr x, v) :: kvs) ρ3 H3 hk3 (congrArg Nat.succ hl) R3 ((s1.trans s2).trans s3) (.cons ⟨rfl, s3.toStp.is hd2⟩ hi)
    exact this
theorem isK_merge {H : Hp} {kvs : List (Key × V)} {es : List (Key × PD)} (h : IsK Z H kvs es) : ∀ {as : List (Key × V)} {bs : List (Key × PD)}, IsK Z H as bs → IsK Z H (mergeK as kvs) (es.foldl (fun acc kv => put acc kv.1 kv.2) bs) := by
  unfold IsK at h
  induction h with
  | nil => exact fun h => h
  | @cons p q ps qs r t ih =>
    intro as bs h
    have e : IsK Z H (putK as p.1 p.2) (put bs q.1 q.2) := by
      rw [← r.1]
      exact isK_put h p.1 r.2
    exact ih e
@[simp] def dDisp (ps : List (Str × WE)) : WE := fun ρ K => dPs ps ρ fun es ρ1 => K (.m (.dk (mergeD es))) ρ1
def tDispO (Z : Zz) (trs : List (TE × TE)) : TE := fun σ H Q => ∀ p, H p = none → tPairs trs σ (upd H p (.dK [])) fun ps H2 => H2 p = some (.dK []) ∧ ∃ kvs : List (Key × V), ps = kvs.map (fun kv => (kV kv.1, kv.2)) ∧ kvs.length ≤ 15 ∧
  ∀ o vs, (p == sysModules) = false → DkO Z o vs → KV (mergeK [] kvs) vs → Q (.ref p) (upd H2 p (DO p o))
theorem tPairs_mono {σ : Stt} : ∀ {trs : List (TE × TE)} {H : Hp} {Q Q' : List (V × V) → Hp → Prop}, (∀ tr ∈ trs, (∀ H Q Q', (∀ v H', Q v H' → Q' v H') → tr.1 σ H Q → tr.1 σ H Q') ∧ ∀ H Q Q', (∀ v H', Q v H' → Q' v H') → tr.2 σ H Q → tr.2 σ H Q') → (∀ ps H', Q ps H' → Q' ps H') → tPairs trs σ H Q → tPairs trs σ H Q'
  | [], H, Q, Q', _, k, h => k _ _ h
  | (tk, tv) :: r, H, Q, Q', m, k, h => (m (tk, tv) List.mem_cons_self).1 _ _ _ (fun x H1 h1 => (m (tk, tv) List.mem_cons_self).2 _ _ _ (fun y H2 h2 => tPairs_mono (fun tr ht => m tr (List.mem_cons_of_mem _ ht)) (fun ps H' q => k _ _ q) h2) h1) h
theorem tM_mono {w : WE} {σ : Stt} {H : Hp} {Q Q' : VK} (k : ∀ v H', Q v H' → Q' v H') (h : tM Z w σ H Q) : tM Z w σ H Q' := by
  obtain ⟨O, ρ, K, R, hw, q⟩ := h
  exact ⟨O, ρ, K, R, hw, fun r ρ' v H' a b c d => k _ _ (q r ρ' v H' a b c d)⟩
/-- a tracked dict of ints and texts, known by its object from here on -/
theorem retag {pins : List (Addr × Obj)} {σ : Stt} {H : Hp} {s : Shared} {a : Addr} {kvs : List (Key × V)} (hZ : zof X = Z) (I : Inv X pins σ H s) (h : H a = some (.dK kvs)) : ∃ o vs, (a == sysModules) = false ∧ DkO Z o vs ∧ KV kvs vs ∧ Inv X pins σ (upd H a (DO a o)) s := by
  subst hZ
  obtain ⟨z, hd, vs, rel, dd⟩ := dk_of I.hok h
  obtain ⟨o, e, d⟩ := dict_dk (Z := zof X) dd (by rw [← rel.length]; exact z)
  exact ⟨o, vs, hd, d, rel, d_write (t' := s.toks) I (by rw [h]; exact True.intro) ⟨rfl, fun _ _ => rfl⟩ ⟨o, e⟩ (do_ok e)⟩
theorem de_disp {pos : Pos} {keys : List (Option Expr)} {values : List Expr} {ps : List (Str × WE)} (h : DPs Z X pos keys values ps) (hall : keys.all (·.isSome) = true := by rfl) (hl : keys.length = values.length := by rfl) (h0 : keys ≠ [] := by exact List.cons_ne_nil _ _) (h15 : keys.length ≤ 15 := by decide) (hp : ps.length ≤ 15 := by decide) (hZ : zof X = Z := by rfl) :
    DE Z X (.Dict keys values pos) (dDisp ps) := by
  have P := pe_disp h.run hall hl h0 h15
  refine ⟨fun pins s σ H Q I ⟨O, ρ, K, R, hw, q⟩ => ?_⟩
  refine thn (P.run pins s σ H (fun v H' => ∃ p kvs, v = .ref p ∧ H' p = some (.dK kvs) ∧ ∀ o vs, (p == sysModules) = false → DkO Z o vs → KV kvs vs → Q v (upd H' p (DO p o))) I fun p np => ?_) fun v s' ⟨x, H', I', rx, p, kvs, e1, e2, q2⟩ => ?_
  · have R0 : Rel Z (fun b => O b ∨ b = p) ρ σ (upd H p (.dK [])) := R.growX (same_upd np) np (by rw [upd_same]; exact fun z => by cases z)
    refine pairs_ok R0 hw fun es kvs ρ' H' hk hl2 R' s' hi => ?_
    have nt : ¬ Tch ρ σ p := fun ⟨i, o, m, h1, h2⟩ => R.hidThere (.inr ⟨i, o, false, m, h1, h2⟩) np
    refine ⟨s'.keep p _ nt upd_same, kvs, rfl, by rw [isK_len hi]; omega, p, mergeK [] kvs, rfl, upd_same, fun o vs hs d1 d2 => ?_⟩
    rw [upd_upd]
    obtain ⟨a, b, c⟩ := end_new (ob := DO p o) (mo := .dk (mergeD es)) R np R' s' ⟨o, vs, _, upd_same, hs, d1, d2, isK_merge hi .nil⟩
    exact q _ _ _ _ hk a b c
  · subst e1
    obtain ⟨o, vs, hs, d1, d2, I2⟩ := retag hZ I' e2
    exact ⟨_, _, I2, rx, q2 o vs hs d1 d2⟩
end
end Dd

/-! a, b = x, y. -/
namespace Dd
open PySem PySem.Spec PyProof.Rows L2 PySem.W Cb
@[simp] def noS : List RV → Bool
  | [] => true
  | .s _ :: _ => false
  | _ :: rs => noS rs
@[simp] def asgL : List Nat → List RV → Rho → (Rho → Prop) → Prop
  | [], [], ρ, k => k ρ
  | i :: is, .d d :: rs, ρ, k => okSlot ρ i ∧ asgL is rs (ρ.set i (.val d)) k
  | i :: is, .m m :: rs, ρ, k => okSlot ρ i ∧ asgL is rs (ρ.set i (.mut true false m)) k
  | _, _, _, _ => False
def setL : Stt → List Nat → List V → Stt
  | σ, i :: is, v :: vs => setL (σ.set i (some v)) is vs
  | σ, _, _ => σ
section
variable {Z : Zz} {O : Addr → Prop}
theorem rvsC_to {O O' : Addr → Prop} {ρ ρ' : Rho} {σ σ' : Stt} {H : Hp} (sm : Same (hide (Hid O ρ σ) H) (hide (Hid O' ρ' σ') H)) : ∀ {vs : List V} {rs : List RV}, noS rs = true → RvsC Z O ρ σ H vs rs → RvsC Z O' ρ' σ' H vs rs
  | [], [], _, _ => trivial
  | v :: vs, .d d :: rs, n, ⟨h, t⟩ => ⟨Is.to h sm, rvsC_to sm n t⟩
  | v :: vs, .m m :: rs, n, ⟨⟨a, e, h⟩, t⟩ => ⟨⟨a, e, h.to sm fun _ e => e⟩, rvsC_to sm n t⟩
  | v :: vs, .s _ :: rs, n, _ => by cases n
theorem hid_set {ρ : Rho} {σ : Stt} {i : Nat} {a b : Addr} {mo : MO} (hl : ρ.length = σ.length) (h : Hid O (ρ.set i (.mut true false mo)) (σ.set i (some (.ref a))) b) : Hid O ρ σ b ∨ b = a := by
  rcases h with h | ⟨j, o, l, m, h1, h2⟩
  · exact .inl (.inl h)
  · by_cases e : i = j
    · subst e
      by_cases il : i < σ.length
      · unfold At at h2
        rw [List.getElem?_set_self il] at h2
        cases h2
        exact .inr rfl
      · rw [List.getElem?_eq_none (by rw [List.length_set]; omega)] at h1
        cases h1
    · rw [List.getElem?_set_ne e] at h1
      exact .inl (.inr ⟨j, o, l, m, h1, (at_set e).mp h2⟩)
theorem asgL_ok {ρ0 : Rho} {σ0 : Stt} {H0 H : Hp} : ∀ {is : List Nat} {vs : List V} {rs : List RV} {ρ : Rho} {σ : Stt} {k : Rho → Prop}, noS rs = true → Rel Z (OT O (tmpOf vs rs)) ρ σ H → Stp ρ0 σ0 H0 ρ σ H → RvsC Z (OT O (tmpOf vs rs)) ρ σ H vs rs → (tmpOf vs rs).Nodup → (∀ a ∈ tmpOf vs rs, H0 a = none) → (∀ a ∈ tmpOf vs rs, ¬ Hid O ρ σ a) → asgL is rs ρ k →
    ∃ ρ', k ρ' ∧ Rel Z O ρ' (setL σ is vs) H ∧ Stp ρ0 σ0 H0 ρ' (setL σ is vs) H
  | [], [], [], ρ, σ, k, _, R, s, c, nd, nw, nh, h => by
    rw [show tmpOf [] [] = [] from rfl, OT_nil] at R
    exact ⟨ρ, h, R, s⟩
  | i :: is, v :: vs, .d d :: rs, ρ, σ, k, n, R, s, c, nd, nw, nh, h => by
    have e0 : tmpOf (v :: vs) (RV.d d :: rs) = tmpOf vs rs := by cases v <;> rfl
    rw [e0] at R c nd nw nh
    obtain ⟨hi, hk⟩ := h
    obtain ⟨R', s'⟩ := set_val R hi c.1
    have n : noS rs = true := n
    exact asgL_ok (is := is) n R' (s.trans s') (rvsC_to s'.same n c.2) nd nw (fun a ha z => (s'.hid (O := O) z).elim (nh a ha) (R.odom a (.inr ha))) hk
  | i :: is, v :: vs, .m m :: rs, ρ, σ, k, n, R, s, c, nd, nw, nh, h => by
    obtain ⟨hi, hk⟩ := h
    obtain ⟨⟨a, e, ob⟩, c2⟩ := c
    subst e
    have eO : OT O (tmpOf (V.ref a :: vs) (RV.m m :: rs)) = fun b => OT O (tmpOf vs rs) b ∨ b = a := by
      show OT O (a :: tmpOf vs rs) = _
      funext b
      unfold OT
      refine propext ⟨fun z => ?_, fun z => ?_⟩
      · rcases z with z | z
        · exact .inl (.inl z)
        · rcases List.mem_cons.mp z with z | z
          · exact .inr z
          · exact .inl (.inr z)
      · rcases z with (z | z) | z
        · exact .inl z
        · exact .inr (List.mem_cons_of_mem _ z)
        · exact .inr (by rw [z]; exact List.mem_cons_self)
    rw [eO] at R ob c2
    have nd' : a ∉ tmpOf vs rs ∧ (tmpOf vs rs).Nodup := List.nodup_cons.mp nd
    have nha : ¬ Hid (OT O (tmpOf vs rs)) ρ σ a := fun z => by
      rcases z with (z | z) | z
      · exact nh a List.mem_cons_self (.inl z)
      · exact nd'.1 z
      · exact nh a List.mem_cons_self (.inr z)
    obtain ⟨R', s'⟩ := set_own R nha ob hi s (nw a List.mem_cons_self)
    have n : noS rs = true := n
    refine asgL_ok (is := is) n R' s' (rvsC_to (hide_less fun b z => ?_) n c2) nd'.2 (fun b hb => nw b (List.mem_cons_of_mem _ hb)) (fun b hb z => ?_) hk
    · rcases hid_set R.len z with (z | z) | z
      · exact .inl (.inl z)
      · exact .inr z
      · exact .inl (.inr z)
    · rcases hid_set R.len z with z | z
      · exact nh b (List.mem_cons_of_mem _ hb) z
      · subst z
        exact nd'.1 hb
  | [], _, r :: _, _, _, _, n, R, s, c, nd, nw, nh, h => by cases r <;> exact (show False from h).elim
  | [], _ :: _, [], _, _, _, n, R, s, c, nd, nw, nh, h => (show False from c).elim
  | _ :: _, _, [], _, _, _, n, R, s, c, nd, nw, nh, h => (show False from h).elim
  | _ :: _, [], _ :: _, _, _, _, n, R, s, c, nd, nw, nh, h => (show False from c).elim
  | _ :: _, _ :: _, .s _ :: _, _, _, _, n, R, s, c, nd, nw, nh, h => by cases n
theorem asgL_len : ∀ {is : List Nat} {rs : List RV} {ρ : Rho} {k : Rho → Prop}, asgL is rs ρ k → rs.length = is.length
  | [], [], _, _, _ => rfl
  | _ :: is, .d _ :: rs, _, _, ⟨_, h⟩ => congrArg Nat.succ (asgL_len h)
  | _ :: is, .m _ :: rs, _, _, ⟨_, h⟩ => congrArg Nat.succ (asgL_len h)
theorem rvsC_len {ρ' : Rho} {σ : Stt} {H' : Hp} : ∀ {vs : List V} {rs : List RV}, RvsC Z O ρ' σ H' vs rs → vs.length = rs.length
  | [], [], _ => rfl
  | _ :: _, _ :: _, ⟨_, t⟩ => congrArg Nat.succ (rvsC_len t)
end
section
variable {Z : Zz} {X : Cx}
/-- a, b, .. = x, y, .. with plain local names -/
@[simp] def sPar (is : List Nat) (w : WA) : WS := fun E ρ => w ρ fun rs ρ1 => noS rs = true ∧ asgL is rs ρ1 E.nx
theorem par_go {is : List Nat} {w : WA} {D : Ends} {σ : Stt} {H : Hp} (h : tS Z (sPar is w) D σ H) : tMA Z w σ H fun vs H1 => vs.length = is.length ∧ D.nx (setL σ is vs) H1 := by
  obtain ⟨O, ρ, E, R, hw, e⟩ := h
  refine ⟨O, ρ, _, R, hw, fun rs ρ1 vs H1 ⟨n, hk⟩ R1 s ok f => ?_⟩
  obtain ⟨ρ2, hk2, R2, s2⟩ := asgL_ok n f.rel s.toStp f.each f.nd f.new (fun a ha => s.newH R (f.new a ha)) hk
  exact ⟨by rw [rvsC_len f.each, asgL_len hk], e.nx _ _ _ hk2 R2 s2⟩
theorem ds_par {i j : Nat} {x y : Str} {a b : Expr} {w : WA} {px py pt pos : Pos} {kt k2 pt2} (hc : X.calm = true) (hN : X.N.Nodup) (hi : X.N[i]? = some x) (hj : X.N[j]? = some y) (hij : i ≠ j)
    (hx : X.env.scope.names.lookup x = some .local) (hy : X.env.scope.names.lookup y = some .local) (ha : DA Z X [a, b] w)
    (hw : swappedStores [.Tuple [.Name x px, .Name y py] kt pt] (.Tuple [a, b] k2 pt2) X.env = pure (some [x, y]))
    (hs : swapsWithSole [.Tuple [.Name x px, .Name y py] kt pt] (.Tuple [a, b] k2 pt2) pos.line X.env = pure false := by rfl) :
    DS Z X (.Assign [.Tuple [.Name x px, .Name y py] kt pt] (.Tuple [a, b] k2 pt2) pos) (sPar [i, j] w) := PSweak (ps_par hc hN hi hj hij hx hy ha hw hs) fun D σ H h => by
  obtain ⟨O, ρ, K, R, hw, q⟩ := par_go h
  refine ⟨O, ρ, K, R, hw, fun rs ρ1 vs H1 hk R1 s ok f => ?_⟩
  obtain ⟨hl, hn⟩ := q rs ρ1 vs H1 hk R1 s ok f
  match vs, hl, hn with
  | [v, u], _, hn => exact ⟨v, u, rfl, hn⟩
theorem ds_par3 {i j l : Nat} {x y z : Str} {a b c : Expr} {w : WA} {px py pz pt pos : Pos} {kt k2 pt2} (hc : X.calm = true) (hN : X.N.Nodup) (hi : X.N[i]? = some x) (hj : X.N[j]? = some y) (hl : X.N[l]? = some z) (hij : i ≠ j) (hil : i ≠ l) (hjl : j ≠ l)
    (hx : X.env.scope.names.lookup x = some .local) (hy : X.env.scope.names.lookup y = some .local) (hz : X.env.scope.names.lookup z = some .local) (ha : DA Z X [a, b, c] w)
    (hw : swappedStores [.Tuple [.Name x px, .Name y py, .Name z pz] kt pt] (.Tuple [a, b, c] k2 pt2) X.env = pure (some [x, y, z]))
    (hs : swapsWithSole [.Tuple [.Name x px, .Name y py, .Name z pz] kt pt] (.Tuple [a, b, c] k2 pt2) pos.line X.env = pure false := by rfl) :
    DS Z X (.Assign [.Tuple [.Name x px, .Name y py, .Name z pz] kt pt] (.Tuple [a, b, c] k2 pt2) pos) (sPar [i, j, l] w) := PSweak (ps_par3 hc hN hi hj hl hij hil hjl hx hy hz ha hw hs) fun D σ H h => by
  obtain ⟨O, ρ, K, R, hw, q⟩ := par_go h
  refine ⟨O, ρ, K, R, hw, fun rs ρ1 vs H1 hk R1 s ok f => ?_⟩
  obtain ⟨hl, hn⟩ := q rs ρ1 vs H1 hk R1 s ok f
  match vs, hl, hn with
  | [v, u, t], _, hn => exact ⟨v, u, t, rfl, hn⟩
end
end Dd

/-! enumerate(t), t a tuple. -/
namespace Dd
open PySem PySem.Spec PyProof.Rows L2 PySem.W Cb
/-- the object that enumerate(v) makes over the iterator that is laid at n -/
def enObj (n : Nat) : Obj := { cls := .type "enumerate", data := .fields #[.none, .bool false, .ref n, rawInt 0, .none, .none] }
theorem en_new {v : Value} {o : Obj} {S : Heap → Prop} (B : Begins v o S) : Meets (Builtin.«enumerate.__new__» ⟨[.type "enumerate", v], []⟩) fun _ R s =>
    S s.heap ∧ R (.ok (.ret (.ref (s.heap.push o).objs.size))) { s with heap := (s.heap.push o).push (enObj s.heap.objs.size) } :=
  .of_wp fun P w A R s ⟨hS, hR⟩ => by
    obtain ⟨hp, g, dr, tk, os⟩ := s
    have sub := sub_enumerate
    have it : ∀ {B' : Around} {E : Value → Shared → Prop} {Q : Value → Shared → Prop}, Q (.ref hp.objs.size) ⟨hp.push o, g, dr, tk, os⟩ → wpAny (model P w) B' (pyIter v) Q E ⟨hp, g, dr, tk, os⟩ := fun q => B.iter P w _ _ ⟨hp, g, dr, tk, os⟩ _ hS q
    wp_walk using it
    refine wpAny_stack_any fun st => wpAny_pure ?_
    split
    · rename_i c _ _ _ _ _
      rcases Bool.eq_false_or_eq_true (c == Value.type "enumerate") with e | e
      all_goals
        rw [e]
        wp_walk using it
        exact ⟨_, rfl, hR⟩
    · wp_walk using it
      exact ⟨_, rfl, hR⟩
theorem en_call {P : Program} {w : World} {A : Around} {E : Value → Shared → Prop} {s : Shared} {v : Value} {o : Obj} {S : Heap → Prop} {Q : Value → Shared → Prop} (B : Begins v o S) (hS : S s.heap)
    (h : ∀ h', IsEnum h' (s.heap.objs.size + 1) s.heap.objs.size 0 .none → h'.get? s.heap.objs.size = some o → (∀ b u, s.heap.get? b = some u → h'.get? b = some u) → Q (.ref (s.heap.objs.size + 1)) { s with heap := h' }) :
    wpAny (model P w) A (call (.type "enumerate") [v]) Q E s := by
  have sz : (s.heap.push o).objs.size = s.heap.objs.size + 1 := Heap.size_push ..
  have at1 := Heap.get?_push_size (s.heap.push o) (o := enObj s.heap.objs.size) rfl
  rw [sz] at at1
  refine callType_new F.called_enumerate (by decide) (F.typeCall_enumerate_1 _) (F.newCall_enumerate_1 _) (fun ob => F.args_object_init_2 ob _) F.entry_enumerate_new (en_new B) ⟨hS, ?_⟩
  show _ ∧ _
  rw [sz]
  exact ⟨⟨_, at1, rfl⟩, h _ at1 (Heap.get?_push_of_some _ (Heap.get?_push_size _ B.free)) fun b u x => Heap.get?_push_of_some _ (Heap.get?_push_of_some _ x)⟩
/-- the tuple at a as it stands at each turn, each item in a new pair -/
def Iet (K : Frag) (a : Addr) : It :=
  ⟨fun i H => ∃ us x, SqT K H a us ∧ us[i]? = some x, fun i H v H' => ∃ T x, v = .ref T ∧ H T = none ∧ H' = upd H T (.tup [.int (i : Nat), x]) ∧ ∀ us, SqT K H a us → us[i]? = some x, fun i H => ∃ us : List V, SqT K H a us ∧ us.length ≤ i⟩
theorem apart_cls {h : Heap} {a b : Addr} {o u : Obj} (h1 : h.get? a = some o) (h2 : h.get? b = some u) (n : o.cls ≠ u.cls) : a ≠ b := fun e => by
  subst e
  rw [h1] at h2
  cases h2
  exact n rfl
theorem turn_en {P : Program} {w : World} {K : Frag} {elts : List Expr} {kk : Nat} {tpos : Pos} (a e it : Addr) :
    Turn P w K (.Tuple elts kk tpos) (Iet K a) [e, it] e fun i h => (∃ old, IsEnum h e it ((i : Nat) : Int) old) ∧ h.IsTupleIter it a i where
  mem := by simp
  obj := fun i h ⟨⟨old, he⟩, o, ho, hc, hd⟩ b hb => by
    rcases List.mem_cons.mp hb with z | z
    · rw [z]; exact ⟨_, he, fun v q => nomatch q⟩
    · rw [List.mem_singleton.mp z]; exact ⟨o, ho, fun v q => by rw [hd] at q; cases q⟩
  keep := fun i h h' ⟨⟨old, he⟩, hi⟩ k => ⟨⟨old, k e (by simp) _ he⟩, hi.at fun o q => k it (by simp) o q⟩
  item := by
    intro X hP hw hK hc i pins s σ H E I hf st hg
    subst hP hw hK
    obtain ⟨⟨old, he⟩, hit⟩ := st
    obtain ⟨us, x, hq, hx⟩ := hg
    obtain ⟨its, rv, p, hz⟩ := I.tuple hq
    obtain ⟨u, hu, ru⟩ := rv.get hx
    have el : e < s.heap.objs.size := Heap.lt_size he
    obtain ⟨oi, hoi, hci, hdi⟩ := id hit
    obtain ⟨ot, hot, hct, nt, hdt⟩ := id p
    have il : it < s.heap.objs.size := Heap.lt_size hoi
    have e_it : e ≠ it := apart_cls he hoi (by rw [hci]; show Value.type "enumerate" ≠ Value.type "tuple_iterator"; decide)
    have e_a : e ≠ a := apart_cls he hot (by rw [hct]; show Value.type "enumerate" ≠ Value.type "tuple"; decide)
    have a_it : a ≠ it := apart_cls hot hoi (by rw [hci, hct]; decide)
    have lt : i < its.toArray.size := by
      have := (List.getElem?_eq_some_iff.mp hu).1
      simpa using this
    refine wpAny_pyNext_enum_itemD (Draws.tuple (A := X.A.in1) (I.ok.hd hc) it a a_it its.toArray) he ⟨hit, p⟩ lt e_it (by simp [e_it, e_a]) fun y h' tk hy out st' hT hsz hk => ?_
    have hyu : y = u := by
      rw [show its.toArray[i]? = some u by simpa using hu] at hy
      exact (Option.some.inj hy).symm
    subst hyu
    refine ⟨_, rfl, wpAny_letOwnedTupleGo_enum (s := { s with heap := h', toks := tk + 1 }) out fun h2 he2 sb => ?_⟩
    have hT2 := (sb.2 _ (Nat.ne_of_gt el)).trans hT
    have new : ObjOk X.prog X.w (upd H s.heap.objs.size (.tup [.int (i : Nat), x])) h2 s.heap.objs.size (.tup [.int (i : Nat), x]) :=
      ⟨by show 2 ≤ sizeLine; decide, [.int i tk, y], .cons ⟨_, rfl⟩ (.cons ru .nil), ⟨_, hT2, rfl, _, rfl⟩⟩
    have I1 : Inv X pins σ (upd H s.heap.objs.size (.tup [.int (i : Nat), x])) { s with heap := h2, toks := tk + 1 } :=
      I.turnedNew (t' := tk + 1) (ch := [e, it]) (fun b ob hb q => by
        simp only [List.mem_cons, List.not_mem_nil, or_false, not_or] at hb
        exact (sb.2 b hb.1).trans (hk b ob hb.1 hb.2 q)) hf (Nat.le_refl _) new
    refine ⟨.ref s.heap.objs.size, _, I1, rfl, ⟨_, x, rfl, I.hok.fresh (Nat.le_refl _), rfl, fun zs hz2 => by rw [I.tuple_inj hz2 hq]; exact hx⟩, ⟨⟨y, by rw [Int.natCast_succ]; exact he2⟩, st'.1.at fun o q => (sb.2 it (Ne.symm e_it)).trans q⟩, fun b hb => ?_⟩
    have bl : b < s.heap.objs.size := by
      rcases List.mem_cons.mp hb with z | z
      · rw [z]; exact el
      · rw [List.mem_singleton.mp z]; exact il
    rw [upd_ne (Nat.ne_of_lt bl)]
    exact (hf b hb).1
  done := by
    intro X hP hw hK hc i pins s σ H E I hf st hg
    subst hP hw hK
    obtain ⟨⟨old, he⟩, hit⟩ := st
    obtain ⟨us, hq, hx⟩ := hg
    obtain ⟨its, rv, p, hz⟩ := I.tuple hq
    obtain ⟨f0, f1, f2, f3, f4, f5⟩ := hf it (by simp)
    obtain ⟨oi, hoi, hci, hdi⟩ := id hit
    obtain ⟨ot, hot, hct, nt, hdt⟩ := id p
    have a_it : a ≠ it := apart_cls hot hoi (by rw [hci, hct]; decide)
    have none_ : its.toArray[i]? = none := by
      have := rv.length
      rw [Array.getElem?_eq_none_iff, List.size_toArray]
      omega
    have D : Draws X.prog X.w X.A.in1 it [it, a] i (fun _ _ => False) fun j h => j = i ∧ h.IsTupleIter it a i ∧ h.IsTuple a its.toArray :=
      { live := fun j h st => ⟨_, st.2.1.choose_spec.1⟩
        frame := fun j h h' st k => ⟨st.1, st.2.1.at fun o q => k it (by simp) o q, st.2.2.at fun o q => k a (by simp) o q⟩
        item := fun j s' Q' E' lt st => absurd st.1 (Nat.ne_of_lt lt)
        done := fun s' Q' E' st hE => wpAny_nextOf_tuple_end (I.ok.hd hc) st.2.1 st.2.2 none_ hE }
    exact wpAny_pyNext_enum_endD D he ⟨rfl, hit, p⟩ fun h' eb => ⟨rfl, I.turned (t' := s.toks) (fun b o hb q => eb b o hb q) f0 f1 f3 f4 f5⟩
  self := fun A i s Q E ⟨⟨_, he⟩, _⟩ h => wpAny_pyIter_enum he h
/-- for i, x in enumerate(e) -/
def iEnT (K : Frag) (ta : TA) : TI := fun σ H R => ta σ H fun vs H1 => ∃ a xs, vs = [.ref a] ∧ ((SqL K H1 a xs ∧ R (Ite K a) H1) ∨ (SqT K H1 a xs ∧ R (Iet K a) H1))
theorem pi_en {X : Cx} {e : Expr} {ta : TA} {p pos tpos : Pos} {elts : List Expr} {kk : Nat} (hg : Gl X "enumerate") (hm : X.mg "enumerate" = none) (ha : PA X [e] ta) (hs : starEach [e] X.env = [(false, eval e X.env)] := by rfl) :
    PI X (.Tuple elts kk tpos) (.Call (.Name "enumerate" p) [e] [] pos) (iEnT X.K ta) := by
  refine ⟨fun pins s σ H R I h => Call_ (ld_blt I hg hm boot_enumerate (PyProof.Rows.callWith_type1 (thn (ha.run pos pins s σ H _ I h) fun us s1 ⟨vs, H1, I1, r1, a, xs, ev, q⟩ => ?_) hs rfl))⟩
  subst ev
  obtain ⟨u, rfl, ru⟩ := Vals.one r1
  obtain rfl : u = Value.ref a := ru
  have new : ∀ b : Nat, b ∈ [s1.heap.objs.size + 1, s1.heap.objs.size] → FpOk X pins H1 b := fun b hb => by
    have le : s1.heap.objs.size ≤ b := by
      simp only [List.mem_cons, List.not_mem_nil, or_false] at hb
      omega
    exact I1.fpOk le (I1.hok.fresh le)
  rcases q with ⟨hq, q⟩ | ⟨hq, q⟩
  · obtain ⟨its, rv, p', hz⟩ := I1.list hq
    refine en_call (begins_list a its.toArray) p'.isList fun h' he hit hk => wpAny_pyIter_enum he ?_
    exact ⟨_, _, _, _, H1, rfl, I1.kept (t' := s1.toks) hk, turn_enum a (s1.heap.objs.size + 1) s1.heap.objs.size, ⟨⟨.none, he⟩, ⟨_, hit, rfl, rfl⟩, Nat.succ_ne_self _⟩, new, q⟩
  · obtain ⟨its, rv, p', hz⟩ := I1.tuple hq
    refine en_call (begins_tuple a its.toArray) p' fun h' he hit hk => wpAny_pyIter_enum he ?_
    exact ⟨_, _, _, _, H1, rfl, I1.kept (t' := s1.toks) hk, turn_en a (s1.heap.objs.size + 1) s1.heap.objs.size, ⟨⟨.none, he⟩, ⟨_, hit, rfl, rfl⟩⟩, new, q⟩
end Dd

/-! Walks of enumerate; comprehensions with several for. -/
namespace Dd
open PySem PySem.Spec PyProof.Rows L2 PySem.W Cb
section
variable {Z : Zz} {X : Cx}
def enD (ds : List PD) : List PD := ds.mapIdx fun (i : Nat) d => .tuple [.int i, d]
theorem wk_en {O : Addr → Prop} {ρ : Rho} {σ : Stt} {lk : Option Nat} {H : Hp} {ds : List PD} {J J' : It} (hgo : ∀ i H, J.go i H → J'.go i H) (hst : ∀ i H, J.stop i H → J'.stop i H)
    (hy : ∀ (i : Nat) H v H', J'.yld i H v H' → ∃ T x, v = .ref T ∧ H T = none ∧ H' = upd H T (.tup [.int i, x]) ∧ J.yld i H x H) (h : WkOk Z O ρ σ lk J ds H) : WkOk Z O ρ σ lk J' (enD ds) H := by
  obtain ⟨ok, G, Y, w, hA⟩ := h
  have len : (enD ds).length = ds.length := by unfold enD; rw [List.length_mapIdx]
  refine ⟨ok, G, fun i H v H' => ∃ T x, v = .ref T ∧ H T = none ∧ H' = upd H T (.tup [.int (i : Nat), x]) ∧ Y i H x H, ?_, fun A ap => ?_⟩
  · rw [len]
    refine ⟨fun i H hi hg => hgo i H (w.goes i H hi hg), fun H hg => hst _ H (w.stops H hg), fun i H v H' hi hg y => ?_⟩
    obtain ⟨T, x, h1, h2, h3, h4⟩ := hy i H v H' y
    exact ⟨T, x, h1, h2, h3, w.yields i H x H hi hg h4⟩
  · obtain ⟨hG, hY⟩ := hA A ap
    refine ⟨hG, fun i H1 v H2 hi k ⟨T, x, h1, h2, h3, h4⟩ => ?_⟩
    rw [len] at hi
    obtain ⟨_, d, hd, hx⟩ := hY i H1 x H1 hi k h4
    subst h1 h3
    refine ⟨same_upd h2, .tuple [.int i, d], by unfold enD; rw [List.getElem?_mapIdx, hd]; rfl, fun U hU hU2 => ?_⟩
    have sm : Same (hide U H1) (hide U (upd H1 T (.tup [.int (i : Nat), x]))) := hide_to fun b o n e => ⟨n, by rw [upd_ne (ne_of_none e h2)]; exact e⟩
    exact Is.tup (.inl (.inl (by rw [hide_out (fun z => hU2 T z h2)]; exact upd_same))) (.cons (.int _) (.cons ((hx U hU hU2).to sm) .nil))
/-- enumerate(e) -/
@[simp] def iEn (w : WE) : WI := fun ρ K => w ρ fun r ρ1 => seqK r ρ1 fun ds lk ρ2 => K (enD ds) lk ρ2
theorem di_en {e : Expr} {w : WE} {p pos tpos : Pos} {elts : List Expr} {kk : Nat} (hg : Gl X "enumerate") (hm : X.mg "enumerate" = none) (h : DE Z X e w) (hs : starEach [e] X.env = [(false, eval e X.env)] := by rfl) (hs2 : starEach [e] X.env = (false, eval e X.env) :: starEach [] X.env := by rfl) (hK : X.K = Z.K := by rfl) :
    DI Z X (.Tuple elts kk tpos) (.Call (.Name "enumerate" p) [e] [] pos) (iEn w) := by
  refine PIweak (pi_en hg hm (pa_cons h pa_nil hs2) hs) fun σ H Q ⟨O, ρ, K, R, hw, q⟩ => ⟨O, ρ, _, R, hw, fun r ρ1 v H1 hk R1 s ok => ?_⟩
  obtain ⟨a, ds, lk, e, hk2, h⟩ := seq_go (K := fun ds lk ρ2 => K (enD ds) lk ρ2) R R1 s ok hk
  rw [hK]
  rcases h with ⟨xs, h1, h2⟩ | ⟨xs, h1, h2⟩
  · exact ⟨a, xs, by rw [e], .inl ⟨h1, q _ _ _ _ _ hk2 R1 s (wk_en (J := Itl Z.K a) (J' := Ite Z.K a) (fun i H z => z) (fun i H z => z) (fun i H v H' ⟨T, x, y1, y2, y3, y4⟩ => ⟨T, x, y1, y2, y3, rfl, y4⟩) h2)⟩⟩
  · exact ⟨a, xs, by rw [e], .inr ⟨h1, q _ _ _ _ _ hk2 R1 s (wk_en (J := Itt Z.K a) (J' := Iet Z.K a) (fun i H z => z) (fun i H z => z) (fun i H v H' ⟨T, x, y1, y2, y3, y4⟩ => ⟨T, x, y1, y2, y3, rfl, y4⟩) h2)⟩⟩
end
/-! ### a heap without one address -/
def del (H : Hp) (D : Addr) : Hp := fun b => if b = D then none else H b
theorem del_ne {H : Hp} {D b : Addr} (h : b ≠ D) : del H D b = H b := if_neg h
theorem del_same {H : Hp} {D : Addr} : del H D D = none := if_pos rfl
theorem del_some {H : Hp} {D b : Addr} {o : HO} (h : del H D b = some o) : b ≠ D ∧ H b = some o := by
  by_cases e : b = D
  · subst e
    rw [del_same] at h
    cases h
  · rw [del_ne e] at h
    exact ⟨e, h⟩
theorem del_no {H : Hp} {D : Addr} (h : H D = none) : del H D = H := by
  funext b
  by_cases e : b = D
  · subst e
    rw [del_same, h]
  · exact del_ne e
section
variable {Z : Zz} {O : Addr → Prop} {ρ ρ' : Rho} {σ σ' : Stt} {H H' : Hp} {D : Addr}
theorem hid_del : hide (Hid O ρ σ) (del H D) = hide (Hid (fun b => O b ∨ b = D) ρ σ) H := by
  funext b
  unfold hide
  by_cases e : b = D
  · subst e
    rw [if_pos (show Hid (fun b' => O b' ∨ b' = b) ρ σ b from .inl (.inr rfl)), del_same]
    split <;> rfl
  · rw [del_ne e]
    have : Hid O ρ σ b ↔ Hid (fun b => O b ∨ b = D) ρ σ b := ⟨fun z => z.imp .inl id, fun z => z.imp (fun z => z.elim id fun z => (e z).elim) id⟩
    by_cases h : Hid O ρ σ b
    · rw [if_pos h, if_pos (this.mp h)]
    · rw [if_neg h, if_neg (fun z => h (this.mpr z))]
/-- the list D stands in no slot -/
def Nin (ρ : Rho) (σ : Stt) (D : Addr) : Prop := ∀ (i : Nat) (o l : Bool) (m : MO), ρ[i]? = some (Sl.mut o l m) → ¬ At σ i D
theorem rel_del (R : Rel Z (fun b => O b ∨ b = D) ρ σ H) (n : Nin ρ σ D) (nO : ¬ O D) : Rel Z O ρ σ (del H D) := by
  refine ⟨R.len, fun i d h => ?_, fun i o l m h => ?_, R.apart, fun b h => ?_⟩
  · rw [hid_del]
    exact R.vals i d h
  · obtain ⟨a, h1, h2, h3⟩ := R.muts i o l m h
    have na : a ≠ D := fun e => n i o l m h (by rw [← e]; exact h1)
    rw [hid_del]
    exact ⟨a, h1, ⟨fun z => h2.mp (.inl z), fun z => (h2.mpr z).elim id fun z => (na z).elim⟩, h3.to (Same.refl _) fun u e => by rw [del_ne na]; exact e⟩
  · have nb : b ≠ D := fun e => by
      subst e
      exact nO h
    rw [del_ne nb]
    exact R.odom b (.inl h)
theorem nin_del (R : Rel Z O ρ σ (del H D)) : Nin ρ σ D := fun i o l m h z => by
  obtain ⟨a, h1, _, h3⟩ := R.muts i o l m h
  cases z.inj h1
  exact h3.there del_same
theorem rel_undel (R : Rel Z O ρ σ (del H D)) (hD : H D ≠ none) : Rel Z (fun b => O b ∨ b = D) ρ σ H := by
  refine ⟨R.len, fun i d h => ?_, fun i o l m h => ?_, R.apart, fun b h => ?_⟩
  · rw [← hid_del]
    exact R.vals i d h
  · obtain ⟨a, h1, h2, h3⟩ := R.muts i o l m h
    have na : a ≠ D := fun e => h3.there (by rw [e]; exact del_same)
    rw [← hid_del]
    exact ⟨a, h1, ⟨fun z => z.elim h2.mp fun z => (na z).elim, fun z => .inl (h2.mpr z)⟩, h3.to (Same.refl _) fun u e => (del_some e).2⟩
  · rcases h with h | h
    · exact fun z => R.odom b h (by
        by_cases e : b = D
        · rw [e]; exact del_same
        · rw [del_ne e]; exact z)
    · rw [h]
      exact hD
theorem stp_del (s : Stp ρ σ H ρ' σ' H') : Stp ρ σ (del H D) ρ' σ' (del H' D) := by
  refine ⟨fun b o n e => ?_, fun b h => ?_, fun i o l m a h1 h2 => ?_, s.hold⟩
  · obtain ⟨nb, e⟩ := del_some e
    rw [del_ne nb]
    exact s.keep b o n e
  · by_cases e : b = D
    · subst e
      exact (h del_same).elim
    · rw [del_ne e] at h ⊢
      exact s.dom b h
  · rcases s.own i o l m a h1 h2 with h | ⟨h3, h4, h5⟩
    · exact .inl h
    · refine .inr ⟨h3, h4, ?_⟩
      by_cases e : a = D
      · rw [e]; exact del_same
      · rw [del_ne e]; exact h5
/-- a list under way at D, its items acc -/
structure BdAt (Z : Zz) (O : Addr → Prop) (D : Addr) (ρ : Rho) (σ : Stt) (H : Hp) (acc : List PD) : Prop where
  rel : Rel Z (fun b => O b ∨ b = D) ρ σ H
  nin : Nin ρ σ D
  nO : ¬ O D
  lst : ∃ xs, H D = some (.lst xs) ∧ IsAll Z (hide (Hid (fun b => O b ∨ b = D) ρ σ) H) xs acc
theorem BdAt.there {acc : List PD} (b : BdAt Z O D ρ σ H acc) : H D ≠ none := by
  obtain ⟨xs, h, _⟩ := b.lst
  rw [h]
  exact fun z => by cases z
theorem BdAt.step {acc : List PD} (b : BdAt Z O D ρ σ H acc) (R : Rel Z (fun b => O b ∨ b = D) ρ' σ' H') (s : Stp ρ σ H ρ' σ' H') : BdAt Z O D ρ' σ' H' acc := by
  obtain ⟨xs, h1, h2⟩ := b.lst
  refine ⟨R, fun i o l m h z => ?_, b.nO, xs, s.keep D _ (fun ⟨i, o, m, h, z⟩ => b.nin i o false m h z) h1, s.isAll h2⟩
  rcases s.own i o l m D h z with ⟨m2, h3, h4⟩ | ⟨_, _, h3⟩
  · exact b.nin i o l m2 h3 h4
  · exact b.there h3
theorem BdAt.wipe {acc : List PD} {vs : List Nat} (b : BdAt Z O D ρ σ H acc) (n : NoMut ρ vs) : BdAt Z O D (wipeR ρ vs) (wipe σ vs) H acc ∧ Stp ρ σ H (wipeR ρ vs) (wipe σ vs) H ∧ NM ρ (wipeR ρ vs) := by
  have wp := wp_wipe b.rel n
  exact ⟨b.step (wp.rel b.rel) wp.stp, wp.stp, wp.nm⟩
end
theorem wipe_wipe {σ : Stt} {vI vs : List Nat} (h : ∀ i ∈ vI, i ∈ vs) : wipe (wipe σ vI) vs = wipe σ vs := wipe_eq (wipe_length _ _) fun i hi => wipe_out fun z => hi (h i z)
/-! ### what stands behind a clause -/
abbrev WB := List PD → Rho → (List PD → Rho → Prop) → Prop
def tBd (Z : Zz) (D : Addr) (w : WB) (vI : List Nat) : TB := fun σ H N => ∃ (O : Addr → Prop) (ρ : Rho) (acc : List PD) (K : List PD → Rho → Prop), BdAt Z O D ρ σ H acc ∧ w acc ρ K ∧
  ∀ acc' ρ' H', K acc' ρ' → BdAt Z O D ρ' (wipe σ vI) H' acc' → Stp ρ σ (del H D) ρ' (wipe σ vI) (del H' D) → NM ρ ρ' → N H'
@[simp] def bLast (w : WE) : WB := fun acc ρ K => w ρ fun r ρ1 => toD r ρ1 fun x ρ2 => acc.length < 100000 ∧ K (acc ++ [x]) ρ2
def clD (g : WG) (t : WT) (b : WB) (vs : List Nat) : List PD → List PD → Rho → (List PD → Rho → Prop) → Prop
  | [], acc, ρ, k => k acc ρ
  | d :: ds, acc, ρ, k => g d ρ fun ρ1 => t ρ1 fun c ρ2 => if c = true then b acc ρ2 fun acc2 ρ3 => clD g t b vs ds acc2 (wipeR ρ3 vs) k else clD g t b vs ds acc (wipeR ρ2 vs) k
@[simp] def bFor (wi : WI) (g : WG) (t : WT) (b : WB) (vs : List Nat) : WB := fun acc ρ K => wi ρ fun ds lk ρ1 => NoMut ρ1 vs ∧ clD g t b vs ds acc (wipeR (lockAt ρ1 lk) vs) fun acc2 ρ2 => K acc2 (unl ρ2 lk)
section
variable {Z : Zz} {D : Addr}
theorem last_okD {w : WE} {σ : Stt} {H : Hp} {N : Hp → Prop} (h : tBd Z D (bLast w) [] σ H N) : tEnd (tM Z w) D σ H N := by
  obtain ⟨O, ρ, acc, K, b, hw, q⟩ := h
  refine ⟨_, ρ, _, b.rel, hw, fun r ρ1 v H1 hk R1 s ok => ?_⟩
  obtain ⟨x, ρ2, hk2, R2, s2, hx⟩ := toD_ok (K := fun x ρ2 => acc.length < 100000 ∧ K (acc ++ [x]) ρ2) R1 ok.1 hk
  have s12 := s.trans s2
  have b2 := b.step R2 s12.toStp
  obtain ⟨xs, h1, h2⟩ := b2.lst
  have hl := h2.len
  refine ⟨xs, h1, lst_line (by omega), ?_⟩
  have R3 : Rel Z (fun b => O b ∨ b = D) ρ2 σ (upd H1 D (.lst (xs ++ [v]))) := R2.updO (.inr rfl) b2.nin
  have e : del (upd H1 D (.lst (xs ++ [v]))) D = del H1 D := by
    funext b
    by_cases e : b = D
    · rw [e, del_same, del_same]
    · rw [del_ne e, del_ne e, upd_ne e]
  refine q (acc ++ [x]) ρ2 _ hk2.2 ⟨R3, b2.nin, b2.nO, _, upd_same, (h2.app (.cons hx .nil)).to (sameO (.inr rfl))⟩ ?_ s12.nm
  rw [e]
  exact stp_del s12.toStp
/-- the turns of a clause; B: the heap ahead of them without D -/
theorem loopN {J : It} {ds acc0 : List PD} {G : Hp → Prop} {Y : Nat → Hp → V → Hp → Prop} {O : Addr → Prop} {ρL : Rho} {σ : Stt} {B Hs : Hp} {N : Hp → Prop} {g : WG} {t : WT} {b : WB} {js vI vs : List Nat} {K : List PD → Rho → Prop}
    (hjs : ∀ j ∈ js, j ∈ vs) (hv : ∀ j ∈ vI, j ∈ vs) (wlk : Walk J ds.length G Y) (hG : ∀ Hh, Kept (fun _ => False) ρL σ B Hh → G Hh)
    (hY : ∀ i H1 x H2, i < ds.length → Kept (fun _ => False) ρL σ B H1 → Y i H1 x H2 → Same H1 H2 ∧ ∃ d, ds[i]? = some d ∧ ∀ U : Addr → Prop, (∀ v e, Is Z (hide (Hid O ρL σ) B) v e → Is Z (hide U H1) v e) → (∀ a, U a → H1 a ≠ none) → Is Z (hide U H2) x d)
    (b0 : BdAt Z O D (wipeR ρL vs) (wipe σ vs) Hs acc0) (s0 : Stp ρL σ B (wipeR ρL vs) (wipe σ vs) (del Hs D)) (n0 : NM ρL (wipeR ρL vs)) (h : clD g t b vs ds acc0 (wipeR ρL vs) K)
    (fin : ∀ acc ρ2 Hh, K acc ρ2 → BdAt Z O D ρ2 (wipe σ vs) Hh acc → Stp ρL σ B ρ2 (wipe σ vs) (del Hh D) → NM ρL ρ2 → (∀ j ∈ vs, j < ρ2.length → ρ2[j]? = some Sl.un) → N Hh) :
    ∃ W : Nat → Nat → Hp → Prop, (∃ m, W 0 m Hs) ∧ ∀ j m H, W j m H → (J.stop j H ∧ N H) ∨ (J.go j H ∧ ∃ N1 : Hp → Prop, (∀ H', N1 H' → ∃ m', m' < m ∧ W (j + 1) m' H') ∧ ∀ x H', J.yld j H x H' →
      tG Z js g x (wipe σ vs) H' fun σ2 H2 => wipe σ2 vs = wipe σ vs ∧ tMT Z t σ2 H2 fun c H3 => if c = true then tBd Z D b vI σ2 H3 N1 else N1 H3) := by
  refine ⟨fun j m Hh => j + m = ds.length ∧ ∃ ρ2 acc, BdAt Z O D ρ2 (wipe σ vs) Hh acc ∧ Stp ρL σ B ρ2 (wipe σ vs) (del Hh D) ∧ NM ρL ρ2 ∧ (∀ j ∈ vs, j < ρ2.length → ρ2[j]? = some Sl.un) ∧ clD g t b vs (ds.drop j) acc ρ2 K,
    ⟨ds.length, Nat.zero_add _, _, _, b0, s0, n0, fun j hj hl => wipeR_in (by rw [wipeR_len] at hl; exact hl) hj, h⟩, fun j m Hh ⟨hm, ρ2, acc, b2, s2, n2, u2, h2⟩ => ?_⟩
  have kp : Kept (fun _ => False) ρL σ B Hh := fun c o n _ e => (del_some (s2.keep c o n e)).2
  cases m with
  | zero =>
    have ej : j = ds.length := by omega
    subst ej
    rw [List.drop_length] at h2
    exact .inl ⟨wlk.stops Hh (hG Hh kp), fin acc ρ2 Hh h2 b2 s2 n2 u2⟩
  | succ m =>
    have lt : j < ds.length := by omega
    refine .inr ⟨wlk.goes j Hh lt (hG Hh kp), fun H' => ∃ ρ2 acc, BdAt Z O D ρ2 (wipe σ vs) H' acc ∧ Stp ρL σ B ρ2 (wipe σ vs) (del H' D) ∧ NM ρL ρ2 ∧ (∀ j ∈ vs, j < ρ2.length → ρ2[j]? = some Sl.un) ∧ clD g t b vs (ds.drop (j + 1)) acc ρ2 K,
      fun H' z => ⟨m, Nat.lt_succ_self m, by omega, z⟩, fun x H3 y => ?_⟩
    obtain ⟨sm, d, hd, hx⟩ := hY j Hh x H3 lt kp (wlk.yields j Hh x H3 lt (hG Hh kp) y)
    have hx := hx (Hid (fun b => O b ∨ b = D) ρ2 (wipe σ vs)) (fun v e z => by
      have := z.to s2.same
      rw [hid_del] at this
      exact this) (fun a => b2.rel.hidThere)
    rw [List.drop_eq_getElem_cons lt] at h2
    have hd2 : ds[j] = d := by
      have := List.getElem?_eq_getElem lt
      rw [hd] at this
      exact (Option.some.inj this).symm
    rw [hd2] at h2
    refine ⟨_, ρ2, d, _, b2.rel.grow sm, hx, h2, fun ρ3 σ3 hk3 R3 s3 n3 t3 => ?_⟩
    have ew : wipe σ3 vs = wipe σ vs := wipe_eq (by rw [t3.1, wipe_length]) fun i hi => by rw [t3.2 i (fun z => hi (hjs i z)), wipe_out hi]
    have s23 := (Stp.grow (ρ := ρ2) (σ := wipe σ vs) sm).trans s3
    have b3 := b2.step R3 s23
    have nomut : ∀ {ρ5 : Rho}, NM ρ3 ρ5 → NoMut ρ5 vs := fun {ρ5} n5 i hi o l m h => by
      obtain ⟨m3, h3⟩ := n5 i o l m h
      obtain ⟨m2, h2⟩ := n3 i o l m3 h3
      have := u2 i hi (List.getElem?_eq_some_iff.mp h2).1
      rw [h2] at this
      cases this
    refine ⟨ew, _, ρ3, _, R3, hk3, fun c ρ4 H4 hk4 R4 s4 => ?_⟩
    have b4 := b3.step R4 s4.toStp
    have s24 := s2.trans (stp_del (s23.trans s4.toStp))
    cases c with
    | false =>
      obtain ⟨b5, s5, n5⟩ := b4.wipe (nomut s4.nm)
      rw [ew] at b5 s5
      exact ⟨_, acc, b5, s24.trans (stp_del s5), ((n2.trans n3).trans s4.nm).trans n5, fun i hi hl => wipeR_in (by rw [wipeR_len] at hl; exact hl) hi, hk4⟩
    | true =>
      refine ⟨O, ρ4, acc, _, b4, hk4, fun acc5 ρ5 H5 hk5 b5 s5 n5 => ?_⟩
      obtain ⟨b6, s6, n6⟩ := b5.wipe (nomut (NM.trans s4.nm n5))
      rw [wipe_wipe hv, ew] at b6 s6
      exact ⟨_, acc5, b6, (s24.trans s5).trans (stp_del s6), (((n2.trans n3).trans s4.nm).trans n5).trans n6, fun i hi hl => wipeR_in (by rw [wipeR_len] at hl; exact hl) hi, hk5⟩
theorem stp_undel {ρ ρ' : Rho} {σ σ' : Stt} {H H' : Hp} (s : Stp ρ σ H ρ' σ' (del H' D)) : Stp ρ σ H ρ' σ' H' :=
  ⟨fun b o n e => (del_some (s.keep b o n e)).2, fun b h z => s.dom b h (by
    by_cases e : b = D
    · rw [e]; exact del_same
    · rw [del_ne e]; exact z), s.own, s.hold⟩
theorem lock_nin {ρ : Rho} {σ : Stt} {lk : Option Nat} (ok : okLk ρ lk) (n : Nin ρ σ D) : Nin (lockAt ρ lk) σ D := fun i o l m h z => by
  cases lk with
  | none => exact n i o l m h z
  | some j =>
    obtain ⟨l', g⟩ := (lock_lk ok).bwd h
    exact n i o l' m g z
theorem unl_hid {O : Addr → Prop} {ρ ρ2 : Rho} {σ σ2 : Stt} {H H2 : Hp} {lk : Option Nat} (ok : okLk ρ lk) (s : Stp (lockAt ρ lk) σ H ρ2 σ2 H2) : Hid O (unl ρ2 lk) σ2 = Hid O ρ2 σ2 := by
  cases lk with
  | none => rfl
  | some i =>
    have k := lock_lk ok
    obtain ⟨o0, m0, a1, a2⟩ := k.at_
    obtain ⟨e0, m1, b1, b2⟩ := s.hold i o0 true m0 a2 (.inr rfl)
    exact (unl_lk b1).hid.symm
theorem clause_okD {wi : WI} {g : WG} {t : WT} {b : WB} {js vI vs : List Nat} {σ : Stt} {H : Hp} {N : Hp → Prop} (hjs : ∀ j ∈ js, j ∈ vs) (hv : ∀ j ∈ vI, j ∈ vs) (h : tBd Z D (bFor wi g t b vs) vs σ H N) : tCl (tI Z wi) (tG Z js g) (tMT Z t) (tBd Z D b vI) vs σ H N := by
  obtain ⟨O, ρ, acc, K, bd, hw, q⟩ := h
  refine ⟨_, ρ, _, bd.rel, hw, fun ds lk ρ1 J H1 ⟨hno, hk⟩ R1 s wk => ?_⟩
  obtain ⟨okl, G, Y, wlk, hA⟩ := wk
  have b1 := bd.step R1 s.toStp
  obtain ⟨hG, hY⟩ := hA (fun b => b = D) ⟨fun b z => .inr z, fun i o l m h b z e => b1.nin i o l m h (by rw [← e]; exact z)⟩
  have kp : ∀ Hh, Kept (fun _ => False) (lockAt ρ1 lk) σ (del H1 D) Hh → Kept (fun b => b = D) (lockAt ρ1 lk) σ H1 Hh := fun Hh k c o n nD e => k c o n (fun z => z) (by rw [del_ne nD]; exact e)
  obtain ⟨xs, l1, l2⟩ := b1.lst
  have bL : BdAt Z O D (lockAt ρ1 lk) σ H1 acc := ⟨lock_rel okl R1, lock_nin okl b1.nin, b1.nO, xs, l1, by rw [lock_hid okl]; exact l2⟩
  obtain ⟨b0, s0, n0⟩ := bL.wipe (noMut_lock okl hno)
  refine loopN hjs hv wlk (fun Hh k => hG Hh (kp Hh k)) (fun i Ha x Hb hi k y => ?_) b0 (stp_del s0) n0 hk fun acc2 ρ2 Hh hk2 b2 s2 n2 u2 => ?_
  · obtain ⟨sm, d, h1, h2⟩ := hY i Ha x Hb hi (kp Ha k) y
    refine ⟨sm, d, h1, fun U hU => h2 U fun v e z => hU v e ?_⟩
    rw [hid_del, lock_hid okl]
    exact z
  · obtain ⟨gx, gs⟩ := unlock_all okl (rel_del b2.rel b2.nin b2.nO) s2
    obtain ⟨ys, m1, m2⟩ := b2.lst
    refine q acc2 (unl ρ2 lk) Hh hk2 ⟨rel_undel gx b2.there, nin_del gx, b2.nO, ys, m1, ?_⟩ ((stp_del s.toStp).trans gs) (NM.trans s.nm (unlock_nm okl s2 n2))
    rw [unl_hid okl s2]
    exact m2
theorem all_okD {wi : WI} {g : WG} {t : WT} {b : WB} {js vI vs : List Nat} {σ : Stt} {H : Hp} {Q : VK} (hjs : ∀ j ∈ js, j ∈ vs) (hv : ∀ j ∈ vI, j ∈ vs)
    (h : tM Z (fun ρ K => wi ρ fun ds lk ρ1 => NoMut ρ1 vs ∧ clD g t b vs ds [] (wipeR (lockAt ρ1 lk) vs) fun acc ρ2 => K (.m (.lst acc)) (unl ρ2 lk)) σ H Q) : tLcN (tI Z wi) (tG Z js g) (tMT Z t) (fun D => tBd Z D b vI) vs σ H Q := by
  obtain ⟨O, ρ, K, R, hw, q⟩ := h
  refine ⟨O, ρ, _, R, hw, fun ds lk ρ1 J H1 ⟨hno, hk⟩ R1 s wk D nD => ?_⟩
  obtain ⟨okl, G, Y, wlk, hA⟩ := wk
  obtain ⟨hG, hY⟩ := hA _ ApX.no
  have eB : del (upd H1 D (.lst [])) D = H1 := by
    funext c
    by_cases e : c = D
    · rw [e, del_same, nD]
    · rw [del_ne e, upd_ne e]
  have R0 : Rel Z O ρ1 σ (del (upd H1 D (.lst [])) D) := by rw [eB]; exact R1
  have nO : ¬ O D := fun z => R1.odom D z nD
  have hD0 : upd H1 D (.lst []) D ≠ none := by rw [upd_same]; exact fun z => by cases z
  have bL : BdAt Z O D (lockAt ρ1 lk) σ (upd H1 D (.lst [])) [] := ⟨lock_rel okl (rel_undel R0 hD0), lock_nin okl (nin_del R0), nO, [], upd_same, .nil⟩
  obtain ⟨b0, s0, n0⟩ := bL.wipe (noMut_lock okl hno)
  have s0 := stp_del (D := D) s0
  rw [eB] at s0
  refine loopN hjs hv wlk hG (fun i Ha x Hb hi k y => ?_) b0 (by rw [eB]; exact s0) n0 hk fun acc2 ρ2 Hh hk2 b2 s2 n2 u2 => ?_
  · obtain ⟨sm, d, h1, h2⟩ := hY i Ha x Hb hi k y
    refine ⟨sm, d, h1, fun U hU => h2 U fun v e z => hU v e ?_⟩
    rw [lock_hid okl]
    exact z
  · have wb := wp_back (vs := vs) (σ := σ) (by have := b2.rel.len; rw [wipe_length] at this; exact this) u2
    have Rb := wb.rel (rel_del b2.rel b2.nin b2.nO)
    have sb := s2.trans wb.stp
    obtain ⟨gx, gs⟩ := unlock_all okl Rb sb
    have gn := unlock_nm okl sb (n2.trans wb.nm)
    have gu := rel_undel gx b2.there
    have nin := nin_del gx
    have nH : ¬ Hid O (unl ρ2 lk) σ D := fun z => by
      rcases z with z | ⟨i, o, l, m, h1, h2⟩
      · exact nO z
      · exact nin i o l m h1 h2
    have g0 : Rel Z O (unl ρ2 lk) σ Hh := Rel.drop (l := [D]) (by rw [OT_one]; exact gu) fun a ha => by rw [List.mem_singleton.mp ha]; exact nH
    obtain ⟨xs, l1, l2⟩ := b2.lst
    refine q (.m (.lst acc2)) (unl ρ2 lk) (.ref D) Hh hk2 g0 (s.trans ⟨stp_undel gs, gn⟩) ⟨⟨D, rfl, Classical.byContradiction fun z => s.dom D z nD, nH, xs, l1, l2.to (hide_less fun c z => ?_)⟩, fun a e => by cases e; exact gu⟩
    rw [← wb.hid, ← unl_hid okl sb]
    rcases z with (z | z) | z
    · exact .inl (.inl z)
    · exact .inr z
    · exact .inl (.inr z)
end
section
variable {Z : Zz} {Y : Cx} {elt tg i1 : Expr} {gs : List Comprehension} {sc : Scope} {pos p : Pos} {k : Nat} {fs : List Expr} {D : Addr} {bd : Sem PySem.Fin → Sem PySem.Fin}
abbrev DBd (Z : Zz) (Y : Cx) (bd : Sem PySem.Fin → Sem PySem.Fin) (D : Addr) (w : WB) (vI : List Nat) : Prop := Bd Y bd (tBd Z D w vI) vI
theorem dbd_last {w : WE} (he : DE Z Y elt w) (hx : Y.xe = fun _ _ => False := by rfl) : DBd Z Y (LastIs elt (.ref D) Y.env) D (bLast w) [] := fun pins σ H s N I h => bd_last hx he pins σ H s N I (last_okD h)
theorem dbd_for {wi : WI} {g : WG} {t : WT} {b : WB} {js vI vs : List Nat} (hc : Y.calm = true) (tu : ∀ it, TurnIs (.ListComp elt gs sc pos) tg k fs p it (.ref D) Y.env bd) (hi : DI Z Y tg i1 wi) (hg : DG Z Y tg js g) (ht : DTs Z Y fs t) (hb : DBd Z Y bd D b vI) (hjs : ∀ j ∈ js, j ∈ vs := by decide) (hv : ∀ i ∈ vI, i ∈ vs := by decide)
    (hgs : ((gs)[k]?).elim false (fun g => g.is_async != 0) = false := by rfl) (hs : ∀ x, foldedSetIterable i1 Y.env x = pure x := by intro _; rfl) (hx : Y.xe = fun _ _ => False := by rfl) :
    DBd Z Y (NextIs (.ListComp elt gs sc pos) i1 k (.ref D) Y.env) D (bFor wi g t b vs) vs := fun pins σ H s N I h => bd_clause hx hc tu hgs hs hi hg ht hb hv pins σ H s N I (clause_okD hjs hv h)
end
section
variable {Z : Zz} {X : Cx}
/-- [.. for .. in .. for .. in ..] -/
@[simp] def dLcN (wi : WI) (g : WG) (t : WT) (b : WB) (vs : List Nat) : WE := fun ρ K => wi ρ fun ds lk ρ1 => NoMut ρ1 vs ∧ clD g t b vs ds [] (wipeR (lockAt ρ1 lk) vs) fun acc ρ2 => K (.m (.lst acc)) (unl ρ2 lk)
theorem de_lcN {elt tg iter : Expr} {ifs : List Expr} {rest : List Comprehension} {scope : Scope} {own : List (Str × Nat)} {pos : Pos} {wi : WI} {g : WG} {t : WT} {b : WB} {js vI : List Nat} {bd : Addr → Env → Sem PySem.Fin → Sem PySem.Fin}
    (hc : X.calm = true) (hN : X.N.Nodup) (hi : DI Z X tg iter wi) (ok : BlkOk X.N X.env.scope scope own)
    (tu : ∀ (it D : Addr) (env : Env), TurnIs (.ListComp elt (⟨tg, iter, ifs, 0⟩ :: rest) scope pos) tg 0 ifs iter.pos (.ref it) (.ref D) env (bd D env))
    (hg : ∀ (s : Shared) (H : Hp) (C : Addr) (cl : List (Str × Addr)) (fp : List Addr), DG Z (X.blk s H scope (compEnvC scope cl C X.env) fp) tg js g) (ht : ∀ (s : Shared) (H : Hp) (C : Addr) (cl : List (Str × Addr)) (fp : List Addr), DTs Z (X.blk s H scope (compEnvC scope cl C X.env) fp) ifs t)
    (hb : ∀ (s : Shared) (H : Hp) (C : Addr) (cl : List (Str × Addr)) (fp : List Addr) (D : Addr), DBd Z (X.blk s H scope (compEnvC scope cl C X.env) fp) (bd D (compEnvC scope cl C X.env)) D b vI) (hjs : ∀ j ∈ js, j ∈ own.map (·.2) := by decide) (hv : ∀ i ∈ vI, i ∈ own.map (·.2) := by decide) (hs : ∀ x, foldedSetIterable iter X.env x = pure x := by intro _; rfl) :
    DE Z X (.ListComp elt (⟨tg, iter, ifs, 0⟩ :: rest) scope pos) (dLcN wi g t b (own.map (·.2))) := PEweak (lcN_ok hc hN hi ok hs tu hg ht hb hv) fun σ H Q h => all_okD hjs hv h
end
end Dd

/-! repr, all, any, sorted(key=len); calls with keywords. -/
namespace Dd
open PySem PySem.Spec PyProof.Rows L2 PySem.W Cb
section
variable {X : Cx} {Z : Zz}
/-! ### repr(x) -/
def okRepr (d : PD) : Prop := d.showable = true ∧ d.hasDict = false ∧ d.depth ≤ 50 ∧ d.shown.length ≤ sizeLine
@[simp] def reprB : BC := fun bs K => match bs with
  | [b] => match datB b with
    | some d => okRepr d ∧ K (.d (.str d.shown))
    | none => False
  | _ => False
theorem c_repr (hu : X.A.units + 64 < cLine) (hg : Gu X.A) (hK : X.K = Z.K := by rfl) : CallR X (.builtin "repr") (rDC Z reprB) := by
  intro pins s σ H vs us Q I r ⟨U, bs, K, hU, hb, hB, q⟩
  unfold reprB at hB
  split at hB
  · rename_i b
    obtain ⟨v, rfl, h1⟩ := vals_b1 hb
    split at hB
    · rename_i d e
      obtain ⟨⟨hs, hn, hdp, hz⟩, hk⟩ := hB
      have hd : Dp X.K H v d := by
        rw [hK]
        exact Is.dp d v hn (datB_ok h1 e)
      have q := q _ (.str d.shown) H hk (Same.refl _) (Is.str _)
      cases v with
      | ref a =>
        rw [Vals.ref1 r]
        obtain ⟨as, rd⟩ := Dp.reads I d (.ref a) (.ref a) hd rfl
        exact repr_of_reads' rd hs (PyData.noDict_hsm hn) hg (by omega) (fun _ _ e => e) (fun h' u tk hk => ⟨.str d.shown, H, I.kept hk, ⟨_, rfl⟩, q⟩) hz
      | non =>
        cases hd
        obtain ⟨u, rfl, e⟩ := vals1 r
        obtain rfl : u = Value.none := e
        rw [PyData.shown] at q
        exact PySem.P.repr_of_none ⟨.str _, H, I.tok _, ⟨_, rfl⟩, q⟩
      | bl c =>
        cases hd
        obtain ⟨u, rfl, e⟩ := vals1 r
        obtain rfl : u = Value.bool c := e
        rw [PyData.shown] at q
        exact PySem.P.repr_of_bool ⟨.str _, H, I.tok _, ⟨_, rfl⟩, by cases c <;> exact q⟩
      | int i =>
        cases hd
        obtain ⟨u, rfl, t, rfl⟩ := vals1 r
        rw [PyData.showable] at hs
        rw [PyData.shown] at q
        exact PySem.P.repr_of_int (of_decide_eq_true hs) ⟨.str _, H, I.tok _, ⟨_, rfl⟩, q⟩
      | str x =>
        cases hd
        obtain ⟨u, rfl, t, rfl⟩ := vals1 r
        rw [PyData.shown] at hz q
        exact PySem.P.repr_of_str ⟨.str _, H, I.tok _, ⟨_, rfl⟩, q⟩ hz
      | _ => exact absurd hd (by intro z; cases z)
    · exact hB.elim
  · exact hB.elim
/-! ### all(x), any(x), x a list or a tuple of data -/
def okAll (ds : List PD) : Prop := PyData.plainAll ds = true ∧ PyData.hasDictAll ds = false ∧ ∀ x ∈ ds, x.fits63
@[simp] def allTB (f : List PD → Bool) : BC := fun bs K => match bs with
  | [b] => match seqB b with
    | some ds => okAll ds ∧ K (.d (.bool (f ds)))
    | none => False
  | _ => False
theorem allTB_of {f : List PD → Bool} {bs : List BV} {K : RV → Prop} (h : allTB f bs K) : ∃ b ds, bs = [b] ∧ seqB b = some ds ∧ okAll ds ∧ K (.d (.bool (f ds))) := by
  unfold allTB at h
  split at h
  · split at h
    · exact ⟨_, _, rfl, ‹_›, h⟩
    · exact h.elim
  · exact h.elim
theorem reads_seq {pins : List (Addr × Obj)} {σ : Stt} {H Hh : Hp} {s : Shared} {us : List V} {ws : List Value} {ds : List PD} (I : Inv X pins σ H s) (hZ : X.K = Z.K) (sm : Same Hh H) (ha : IsAll Z Hh us ds) (hn : PyData.hasDictAll ds = false) (r : Vals us ws) : ∃ as, ReadsAll s.heap ws ds as := by
  refine Dp.readsAll I ds us ws ?_ r
  rw [hZ]
  exact IsAll.dp ds us hn (ha.to sm)
theorem c_allT (hc : X.calm = true := by rfl) (hK : X.K = Z.K := by rfl) : CallR X (.builtin "all") (rDC Z (allTB fun ds => ds.all PyData.truthy)) := by
  intro pins s σ H vs us Q I r ⟨U, bs, K, hU, hb, hB, q⟩
  obtain ⟨b, ds, rfl, e, ⟨hp, hn, hf⟩, hk⟩ := allTB_of hB
  obtain ⟨v, rfl, h1⟩ := vals_b1 hb
  obtain ⟨a, xs, rfl, sa, ha⟩ := seqB_ok h1 e
  rw [Vals.ref1 r]
  have q := q _ (.bl (ds.all PyData.truthy)) H hk (Same.refl _) (Is.bl _)
  rcases sa with sa | sa
  · obtain ⟨its, rv, pl, hz⟩ := I.list (by rw [hK]; exact sa.sq)
    obtain ⟨as, rd⟩ := reads_seq I hK hide_same ha hn rv
    exact all_list_data (I.ok.hd hc) pl.isList (by simpa using rd) hp hf fun h' tk hk => ⟨.bl _, H, I.kept hk, rfl, q⟩
  · obtain ⟨its, rv, pl, hz⟩ := I.tuple (by rw [hK]; exact sa)
    obtain ⟨as, rd⟩ := reads_seq I hK hide_same ha hn rv
    exact all_tuple_data (I.ok.hd hc) pl (by simpa using rd) hp hf fun h' tk hk => ⟨.bl _, H, I.kept hk, rfl, q⟩
theorem c_anyT (hc : X.calm = true := by rfl) (hK : X.K = Z.K := by rfl) : CallR X (.builtin "any") (rDC Z (allTB fun ds => ds.any PyData.truthy)) := by
  intro pins s σ H vs us Q I r ⟨U, bs, K, hU, hb, hB, q⟩
  obtain ⟨b, ds, rfl, e, ⟨hp, hn, hf⟩, hk⟩ := allTB_of hB
  obtain ⟨v, rfl, h1⟩ := vals_b1 hb
  obtain ⟨a, xs, rfl, sa, ha⟩ := seqB_ok h1 e
  rw [Vals.ref1 r]
  have q := q _ (.bl (ds.any PyData.truthy)) H hk (Same.refl _) (Is.bl _)
  rcases sa with sa | sa
  · obtain ⟨its, rv, pl, hz⟩ := I.list (by rw [hK]; exact sa.sq)
    obtain ⟨as, rd⟩ := reads_seq I hK hide_same ha hn rv
    exact any_list_data (I.ok.hd hc) pl.isList (by simpa using rd) hp hf fun h' tk hk => ⟨.bl _, H, I.kept hk, rfl, q⟩
  · obtain ⟨its, rv, pl, hz⟩ := I.tuple (by rw [hK]; exact sa)
    obtain ⟨as, rd⟩ := reads_seq I hK hide_same ha hn rv
    exact any_tuple_data (I.ok.hd hc) pl (by simpa using rd) hp hf fun h' tk hk => ⟨.bl _, H, I.kept hk, rfl, q⟩
/-! ### sorted(xs, key=len), the items tuples -/
def lnD : PD → Nat
  | .tuple ds => ds.length
  | .list ds => ds.length
  | _ => 0
def keyLn (d : PD) : PD := .int (lnD d)
def srtLn (ds : List PD) : List PD := ds.mergeSort (dataLe false keyLn)
def isTp : PD → Bool
  | .tuple _ => true
  | _ => false
def tSrtLn (K : Frag) (ta : TE) : TE := fun σ H Q => ta σ H fun x H1 => ∃ (a : Addr) (bs : List (V × PD)), x = .ref a ∧ SqL K H1 a (bs.map (·.1)) ∧ (∀ b ∈ bs, ∃ t us, b.1 = .ref t ∧ SqT K H1 t us ∧ us.length = lnD b.2) ∧
  ∀ p, H1 p = none → Q (.ref p) (upd H1 p (.lst ((bs.mergeSort (dataLe false fun b : V × PD => keyLn b.2)).map (·.1))))
theorem pe_srtLn {p q pos kpos : Pos} {e : Expr} {ta : TE} (hu : X.A.units + 64 < cLine) (ms : X.mg "sorted" = none) (ml : X.mg "len" = none) (gs : Gl X "sorted") (gl : Gl X "len") (ha : PE X e ta)
    (he : backTo pos (starEach [e] X.env) = (false, eval e X.env) :: backTo pos (starEach [] X.env) := by rfl) (hpl : (backTo pos (starEach [e] X.env)).any (·.1) = false := by rfl)
    (hall : (backToKw pos (keywordEach [⟨some "key", .Name "len" q, kpos⟩] X.env)).all (·.1.isSome) = true := by rfl) (hnone : (backToKw pos (keywordEach [⟨some "key", .Name "len" q, kpos⟩] X.env)).any (·.1.isNone) = false := by rfl)
    (hks : (backToKw pos (keywordEach [⟨some "key", .Name "len" q, kpos⟩] X.env)).filterMap (·.1) = [Str.ofString "key"] := by rfl)
    (hst : starEach [e] X.env = (false, eval e X.env) :: starEach [] X.env := by rfl) : PE X (.Call (.Name "sorted" p) [e] [⟨some "key", .Name "len" q, kpos⟩] pos) (tSrtLn X.K ta) := by
  refine ⟨fun pins s σ H Q I h => wpAny_Call_Name_kw (ld_blt I gs ms (u := .builtin "sorted") (by decide +kernel) ?_)⟩
  refine PyProof.Rows.callWith_kw (thn ((pa_cons ha pa_nil hst).run pos pins s σ H (fun vs H1 => ∃ x, vs = [x] ∧ ∃ (a : Addr) (bs : List (V × PD)), x = .ref a ∧ SqL X.K H1 a (bs.map (·.1)) ∧ (∀ b ∈ bs, ∃ t us, b.1 = .ref t ∧ SqT X.K H1 t us ∧ us.length = lnD b.2) ∧
    ∀ p, H1 p = none → Q (.ref p) (upd H1 p (.lst ((bs.mergeSort (dataLe false fun b : V × PD => keyLn b.2)).map (·.1))))) I ?_) fun us s1 hz => ?_) he hpl hall hnone
  · have fe : (fun (x : V) (H1 : Hp) => ∃ y, [x] = [y] ∧ ∃ (a : Addr) (bs : List (V × PD)), y = .ref a ∧ SqL X.K H1 a (bs.map (·.1)) ∧ (∀ b ∈ bs, ∃ t us, b.1 = .ref t ∧ SqT X.K H1 t us ∧ us.length = lnD b.2) ∧
        ∀ p, H1 p = none → Q (.ref p) (upd H1 p (.lst ((bs.mergeSort (dataLe false fun b : V × PD => keyLn b.2)).map (·.1))))) =
          fun x H1 => ∃ (a : Addr) (bs : List (V × PD)), x = .ref a ∧ SqL X.K H1 a (bs.map (·.1)) ∧ (∀ b ∈ bs, ∃ t us, b.1 = .ref t ∧ SqT X.K H1 t us ∧ us.length = lnD b.2) ∧
        ∀ p, H1 p = none → Q (.ref p) (upd H1 p (.lst ((bs.mergeSort (dataLe false fun b : V × PD => keyLn b.2)).map (·.1)))) := by
      funext x H1
      refine propext ⟨fun ⟨y, e, z⟩ => ?_, fun z => ⟨x, rfl, z⟩⟩
      cases e
      exact z
    show ta σ H (fun x H1 => ∃ y, [x] = [y] ∧ _)
    rw [fe]
    exact h
  · obtain ⟨vs, H1, I1, r1, x, rfl, a, bs, rfl, hs, hb, q1⟩ := hz
    rw [Vals.ref1 r1]
    show wpAny _ _ (evalAll [(do let v ← eval (.Name "len" q) X.env; standAt pos; pure v)]) _ _ s1
    refine wpAny_evalAll_cons (wpAny_bind (ld_blt I1 gl ml (u := .builtin "len") (by decide +kernel) (wpAny_bind (wpAny_standAt (wpAny_pure (wpAny_evalAll_nil ?_))))))
    rw [hks]
    obtain ⟨its, rv, hl, hz⟩ := I1.list hs
    have e0 := each_in (fun b : V × PD => b.1) rv
    have hn := line63
    refine sorted_key_data (R := fun u b => RelV b.1 u) (b := false) (f := .builtin "len") (kw := [("key", .builtin "len")]) (fun b : V × PD => keyLn b.2) hl.isList e0 (fun d hd d' hd' => ?_) (.inr fun d hd => ?_) (by rw [List.length_map] at hz; exact hz) (fun b _ => ?_) (ksk_s1 _ _) (fun x => ksk_l1 _ _) (fun x => ksk_t4 "len" x) (fun v b hr hbm h tk keep => ?_) fun out c h' tk keep _ hat h1 h2 => ?_
    · obtain ⟨b, _, rfl⟩ := List.mem_map.mp hd
      obtain ⟨b', _, rfl⟩ := List.mem_map.mp hd'
      simp [alike, keyLn]
    · obtain ⟨b, _, rfl⟩ := List.mem_map.mp hd
      exact ⟨fun z => (nomatch z), fun _ z => (nomatch z)⟩
    · simp [keyLn, PyData.depth]
      omega
    · obtain ⟨t, us', e, ht, hlen⟩ := hb b hbm
      rw [e] at hr
      obtain rfl : v = Value.ref t := hr
      obtain ⟨ws, r', ⟨o, ho, hc, n, hd⟩, hz'⟩ := I1.tuple ht
      have hl2 := r'.length
      exact len_tuple (items := ws.toArray) ⟨o, keep _ _ ho, hc, n, hd⟩ (by simp only [List.size_toArray]; omega) ⟨h, tk + 1 + 1, rfl, fun _ _ e => e, by rw [List.size_toArray, ← hl2, hlen]; exact .int _ _⟩
    · have ro := each_out (fun b : V × PD => b.1) h2
      have hl2 : ((bs.mergeSort (dataLe false fun b : V × PD => keyLn b.2)).map (·.1)).length ≤ sizeLine := by
        rw [List.length_map, List.length_mergeSort, ← List.length_map (f := (·.1))]
        exact hz
      exact ⟨.ref _, upd H1 (s1.heap.objs.size + 1) (.lst ((bs.mergeSort (dataLe false fun b : V × PD => keyLn b.2)).map (·.1))), I1.laid (t' := tk) keep (Nat.le_succ _) ⟨hl2, out, c, ro, hat⟩, rfl, q1 _ (I1.hok.fresh (Nat.le_succ _))⟩
@[simp] def dSrtLn (w : WE) : WE := fun ρ K => w ρ fun r ρ1 => lk r ρ1 fun b => match lstB b with
  | some ds => (∀ d ∈ ds, isTp d = true) ∧ K (.m (.lst (srtLn ds))) ρ1
  | none => False
theorem de_srtLn {p q pos kpos : Pos} {e : Expr} {w : WE} (hu : X.A.units + 64 < cLine) (ms : X.mg "sorted" = none) (ml : X.mg "len" = none) (gs : Gl X "sorted") (gl : Gl X "len") (ha : DE Z X e w)
    (he : backTo pos (starEach [e] X.env) = (false, eval e X.env) :: backTo pos (starEach [] X.env) := by rfl) (hpl : (backTo pos (starEach [e] X.env)).any (·.1) = false := by rfl)
    (hall : (backToKw pos (keywordEach [⟨some "key", .Name "len" q, kpos⟩] X.env)).all (·.1.isSome) = true := by rfl) (hnone : (backToKw pos (keywordEach [⟨some "key", .Name "len" q, kpos⟩] X.env)).any (·.1.isNone) = false := by rfl)
    (hks : (backToKw pos (keywordEach [⟨some "key", .Name "len" q, kpos⟩] X.env)).filterMap (·.1) = [Str.ofString "key"] := by rfl)
    (hst : starEach [e] X.env = (false, eval e X.env) :: starEach [] X.env := by rfl) (hK : X.K = Z.K := by rfl) : DE Z X (.Call (.Name "sorted" p) [e] [⟨some "key", .Name "len" q, kpos⟩] pos) (dSrtLn w) :=
  PEweak (pe_srtLn hu ms ml gs gl ha he hpl hall hnone hks hst) fun σ H Q ⟨O, ρ, K, R, hw, q⟩ => ⟨O, ρ, _, R, hw, fun r ρ1 v H1 hk R1 s ok => by
    obtain ⟨b, e, hB⟩ := lk_res hk
    rw [hK]
    split at hB
    · rename_i ds e2
      obtain ⟨ht, hk2⟩ := hB
      obtain ⟨a, xs, rfl, sa, ha⟩ := lstB_ok (ok.1.look R1 e) e2
      obtain ⟨ps, rfl, rfl, hp⟩ := ha.pairs
      refine ⟨a, ps, rfl, sa.sq, fun c hc => ?_, fun p np => ?_⟩
      · have h1 := (hp c hc).to hide_same
        have h2 := ht c.2 (List.mem_map.mpr ⟨c, hc, rfl⟩)
        obtain ⟨u, d⟩ := c
        cases d with
        | tuple es =>
          have h1 : Is Z H1 u (.tuple es) := h1
          cases h1 with
          | @tup t us _ st sa2 => exact ⟨t, us, rfl, st, sa2.len⟩
        | none => cases h2
        | bool _ => cases h2
        | int _ => cases h2
        | str _ => cases h2
        | list _ => cases h2
        | dict _ => cases h2
      · have e3 : srtLn (ps.map (·.2)) = (ps.mergeSort (dataLe false fun b : V × PD => keyLn b.2)).map (·.2) := (sort_maps (fun b : V × PD => b.2) (r := dataLe false fun b : V × PD => keyLn b.2) (s := dataLe false keyLn) fun _ _ _ _ => rfl).symm
        rw [e3] at hk2
        exact q _ _ _ _ hk2 (R1.grow (same_upd np)) (s.trans (Est.grow (same_upd np))) (nv_f R1 (same_upd np) (nv_lst (U := Hid O ρ1 σ) (H := H1) np (isAll_of fun p hm => hp p (List.mem_mergeSort.mp hm))) s.dom)
    · exact hB.elim⟩
end
end Dd

/-! Calls with keywords and defaults, the arguments data. -/
namespace Dd
open PySem PySem.Spec PyProof.Rows L2 PySem.W Cb
/-- the items at these places -/
def reo {α : Type} (l : List α) (ix : List Nat) : List α := ix.filterMap fun i => l[i]?
theorem prd_reo {α β : Type} {F : α → β → Prop} {xs : List α} {ys : List β} (h : Paired F xs ys) : ∀ ix : List Nat, Paired F (reo xs ix) (reo ys ix)
  | [] => .nil
  | i :: ix => by
    unfold reo
    cases e : xs[i]? with
    | none =>
      have e2 : ys[i]? = none := by
        rw [List.getElem?_eq_none_iff] at e ⊢
        rw [← prd_len h]
        exact e
      rw [List.filterMap_cons_none e, List.filterMap_cons_none e2]
      exact prd_reo h ix
    | some x =>
      obtain ⟨y, e2, r⟩ := prd_getL h e
      rw [List.filterMap_cons_some e, List.filterMap_cons_some e2]
      exact .cons r (prd_reo h ix)
theorem isAll_prd {Z : Zz} {H : Hp} {vs : List V} {ds : List PD} (h : IsAll Z H vs ds) : Paired (Is Z H) vs ds := by
  induction ds generalizing vs with
  | nil => cases h; exact .nil
  | cons d ds ih =>
    cases h with
    | cons h1 h2 => exact .cons h1 (ih h2)
theorem prd_isAll {Z : Zz} {H : Hp} {vs : List V} {ds : List PD} (h : Paired (Is Z H) vs ds) : IsAll Z H vs ds := by
  induction h with
  | nil => exact .nil
  | cons h1 _ ih => exact .cons h1 ih
section
variable {X : Cx} {Z : Zz}
/-- the binding of such a call: n values by place, then those by name, then the defaults, each at its parameter -/
def BindsM (K : Frag) (fd : FuncData) (n : Nat) (ks ps : List Str) (ds : List Value) (ix : List Nat) : Prop := ∀ (s : Shared) (us ws : List Value), K.In s.heap → us.length = n → ws.length = ks.length → BindsTo s fd ⟨us, ks.zip ws⟩ (ps.zip (reo (us ++ (ws ++ ds)) ix))
def tCallM (sp : Sp) (n m : Nat) (dvs : List V) (ix : List Nat) (t tk : TA) : TE := fun σ H Q => t σ H fun vs H1 => tk σ H1 fun zs H2 => vs.length = n ∧ zs.length = m ∧ sp (reo (vs ++ (zs ++ dvs)) ix) H2 Q E0
theorem runM {pins : List (Addr × Obj)} {σ : Stt} {H : Hp} {s : Shared} {Q : VK} {k : Nat} {f : Addr} {fd : FuncData} {ps : List Str} {sp : Sp} {ar : Args} {us : List Value} {vs : List V} (F : FnG X.prog X.w X.K X.mg X.base k f fd ps sp) (g : Gu X.A) (hr : Room k X.A) (I : Inv X pins σ H s) (hb : BindsTo s fd ar (ps.zip us)) (r : Vals vs us)
    (h : sp vs H Q E0) : wpAny (model X.prog X.w) X.A (call (.ref f) ar.pos ar.kw) (EP X pins σ Q) X.xe s := by
  refine wpAny_call (codeAny_mono (F.go X.A X.stack s H ar us vs Q E0 g hr I.env0 hb r h) fun z s' hq => ?_)
  match z, hq with
  | .ok (.ret u), hq => exact I.after hq
  | .ok .next, hq => exact False.elim hq
  | .ok .brk, hq => exact False.elim hq
  | .ok .cont, hq => exact False.elim hq
  | .error _, hq => exact False.elim hq
theorem valsM {vs zs dvs : List V} {us ws ds : List Value} (h1 : Vals vs us) (h2 : Vals zs ws) (h3 : Vals dvs ds) (ix : List Nat) : Vals (reo (vs ++ (zs ++ dvs)) ix) (reo (us ++ (ws ++ ds)) ix) := prd_reo (h1.append (h2.append h3)) ix
/-- f(e, .., k=e, ..) -/
theorem pe_callM {k n : Nat} {f : Addr} {fd : FuncData} {ps ks : List Str} {sp : Sp} {x : Str} {p pos : Pos} {e : Expr} {es : List Expr} {kws : List Keyword} {t tk : TA} {ds : List Value} {dvs : List V} {ix : List Nat} (F : FnG X.prog X.w X.K X.mg X.base k f fd ps sp) (g : Gu X.A) (hr : Room k X.A) (hg : Gl X x) (hm : X.mg x = some (.ref f)) (hk : keepIn X.K (.ref f) = true)
    (hb : BindsM X.K fd n ks ps ds ix) (hd : Vals dvs ds) (ha : PA X (e :: es) t) (hkw : PK X kws tk) (hks : (backToKw pos (keywordEach kws X.env)).filterMap (·.1) = ks := by rfl) (hall : (backToKw pos (keywordEach kws X.env)).all (·.1.isSome) = true := by rfl) (hdb : (x == ("__debug__" : Str)) = false := by decide)
    (hpl : ((backTo pos (starEach (e :: es) X.env)).any (·.1) || (backToKw pos (keywordEach kws X.env)).any (·.1.isNone)) = false := by rfl) (he : starEach (e :: es) X.env = (false, eval e X.env) :: starEach es X.env := by rfl) :
    PE X (.Call (.Name x p) (e :: es) kws pos) (tCallM sp n ks.length dvs ix t tk) := by
  refine ⟨fun pins s σ H Q I h => wpAny_Call_Name_kw (ld_glob I hg hm ?_ hdb)⟩
  refine PySem.W.callWith_KW (h₀ := X.base) I.ok.mod.kin hk hall (thn (ha.run pos pins s σ H _ I h) fun us s1 ⟨vs, H1, I1, r1, q1⟩ => thn (hkw.run pos pins s1 σ H1 _ I1 q1) fun ws s2 ⟨zs, H2, I2, r2, l1, l2, q2⟩ => ⟨I2.kIn, ?_⟩) hpl he
  rw [hks]
  exact runM (ar := ⟨us, ks.zip ws⟩) F g hr I2 (hb s2 us ws I2.kIn (by rw [← r1.length]; exact l1) (by rw [← r2.length]; exact l2)) (valsM r1 r2 hd ix) q2
theorem pe_callM0 {k : Nat} {f : Addr} {fd : FuncData} {ps ks : List Str} {sp : Sp} {x : Str} {p pos : Pos} {kws : List Keyword} {tk : TA} {ds : List Value} {dvs : List V} {ix : List Nat} (F : FnG X.prog X.w X.K X.mg X.base k f fd ps sp) (g : Gu X.A) (hr : Room k X.A) (hg : Gl X x) (hm : X.mg x = some (.ref f)) (hk : keepIn X.K (.ref f) = true)
    (hb : BindsM X.K fd 0 ks ps ds ix) (hd : Vals dvs ds) (hkw : PK X kws tk) (hks : (backToKw pos (keywordEach kws X.env)).filterMap (·.1) = ks := by rfl) (hall : (backToKw pos (keywordEach kws X.env)).all (·.1.isSome) = true := by rfl) (hdb : (x == ("__debug__" : Str)) = false := by decide)
    (hpl : ((backTo pos (starEach [] X.env)).any (·.1) || (backToKw pos (keywordEach kws X.env)).any (·.1.isNone)) = false := by rfl) :
    PE X (.Call (.Name x p) [] kws pos) (tCallM sp 0 ks.length dvs ix tNil tk) := by
  refine ⟨fun pins s σ H Q I h => wpAny_Call_Name_kw (ld_glob I hg hm ?_ hdb)⟩
  have h : tk σ H fun zs H2 => ([] : List V).length = 0 ∧ zs.length = ks.length ∧ sp (reo ([] ++ (zs ++ dvs)) ix) H2 Q E0 := h
  refine PySem.W.callWith_KW0 (h₀ := X.base) I.ok.mod.kin hk hall (thn (hkw.run pos pins s σ H _ I h) fun ws s2 ⟨zs, H2, I2, r2, _, l2, q2⟩ => ⟨I2.kIn, ?_⟩) hpl
  rw [hks]
  exact runM (ar := ⟨[], ks.zip ws⟩) F g hr I2 (hb s2 [] ws I2.kIn rfl (by rw [← r2.length]; exact l2)) (valsM .nil r2 hd ix) q2
theorem pe_callMP {k n : Nat} {f : Addr} {fd : FuncData} {ps : List Str} {sp : Sp} {x : Str} {p pos : Pos} {e : Expr} {es : List Expr} {t : TA} {ds : List Value} {dvs : List V} {ix : List Nat} (F : FnG X.prog X.w X.K X.mg X.base k f fd ps sp) (g : Gu X.A) (hr : Room k X.A) (hg : Gl X x) (hm : X.mg x = some (.ref f)) (hk : keepIn X.K (.ref f) = true)
    (hb : BindsM X.K fd n [] ps ds ix) (hd : Vals dvs ds) (ha : PA X (e :: es) t) (hdb : (x == ("__debug__" : Str)) = false := by decide) (he : starEach (e :: es) X.env = (false, eval e X.env) :: starEach es X.env := by rfl) (hpl : (backTo pos (starEach es X.env)).any (·.1) = false := by rfl) :
    PE X (.Call (.Name x p) (e :: es) [] pos) (tCallM sp n 0 dvs ix t tNil) := by
  refine ⟨fun pins s σ H Q I h => wpAny_Call_Name_kw (ld_glob I hg hm ?_ hdb)⟩
  refine callWith_K (h₀ := X.base) I.ok.mod.kin hk (thn (ha.run pos pins s σ H _ I h) fun us s1 ⟨vs, H1, I1, r, l1, _, q⟩ => ⟨I1.kIn, ?_⟩) he hpl
  exact runM (ar := ⟨us, []⟩) F g hr I1 (hb s1 us [] I1.kIn (by rw [← r.length]; exact l1) rfl) (valsM r .nil hd ix) q
/-! ### by data -/
abbrev DKs (Z : Zz) (X : Cx) (kws : List Keyword) (w : WA) : Prop := PK X kws (tMA Z w)
theorem PKweak {kws : List Keyword} {t t' : TA} (h : PK X kws t) (k : ∀ σ H Q, t' σ H Q → t σ H Q) : PK X kws t' := ⟨fun pos pins s σ H Q I z => h.run pos pins s σ H Q I (k σ H Q z)⟩
theorem dk_nil : DKs Z X [] aNil := PKweak pk_nil fun σ H Q ⟨O, ρ, K, R, h, q⟩ => q _ _ _ _ h R Est.refl trivial ⟨by rw [show tmpOf [] [] = [] from rfl, OT_nil]; exact R, trivial, List.nodup_nil, fun a z => by cases z⟩
theorem dk_cons {nm : Option Str} {e : Expr} {kpos : Pos} {kws : List Keyword} {w : WE} {ws : WA} (he : DE Z X e w) (hr : DKs Z X kws ws) : DKs Z X (⟨nm, e, kpos⟩ :: kws) (aCons w ws) :=
  PKweak (pk_cons he hr) fun σ H Q ⟨O, ρ, K, R, h, q⟩ => ⟨O, ρ, _, R, h, fun r ρ1 v H1 hk R1 s ok => by
    obtain ⟨R1', n1⟩ := tmp_one ok R1
    refine ⟨_, ρ1, _, R1', hk, fun rs ρ2 vs H2 hk2 R2 s2 ok2 f2 => ?_⟩
    have R2' : Rel Z O ρ2 σ H2 := R2.drop fun a ha => (s.trans s2).newH R (n1 a ha).1
    exact q _ _ _ _ hk2 R2' (s.trans s2) ⟨ok.1.step R s s2, RvsOk.back s.dom (rvsOk_less ok2)⟩ (rvsF_cons R s ok s2 f2 R1)⟩
/-- what a def does with data alone -/
@[simp] def dCallM (φ : Fnc) (n m : Nat) (dd : List PD) (ix : List Nat) (w1 w2 : WA) : WE := fun ρ K => w1 ρ fun rs1 ρ1 => w2 ρ1 fun rs2 ρ2 => match allD rs1, allD rs2 with
  | some d1, some d2 => d1.length = n ∧ d2.length = m ∧ φ ((reo (d1 ++ (d2 ++ dd)) ix).map .d) fun r _ => K r ρ2
  | _, _ => False
theorem argsOk_data {O : Addr → Prop} {H : Hp} : ∀ {vs : List V} {ds : List PD}, IsAll Z (hide O H) vs ds → ArgsOk Z O H vs (ds.map .d)
  | _, [], h => by cases h; trivial
  | _, d :: ds, h => by
    cases h with
    | cons h1 h2 => exact ⟨h1, argsOk_data h2⟩
theorem tmp_data : ∀ {vs : List V} {ds : List PD}, tmpOf vs (ds.map .d) = []
  | [], [] => rfl
  | [], _ :: _ => rfl
  | v :: vs, [] => by cases v <;> rfl
  | v :: vs, d :: ds => by
    have e : tmpOf (v :: vs) ((d :: ds).map RV.d) = tmpOf vs (ds.map .d) := by cases v <;> rfl
    rw [e]
    exact tmp_data
theorem callM_ok {φ : Fnc} {n m : Nat} {dd : List PD} {dvs : List V} {ix : List Nat} {w1 w2 : WA} {σ : Stt} {H : Hp} {Q : VK} (hdd : ∀ H, IsAll Z H dvs dd) (h : tM Z (dCallM φ n m dd ix w1 w2) σ H Q) : tCallM (spD Z φ) n m dvs ix (tMA Z w1) (tMA Z w2) σ H Q := by
  obtain ⟨O, ρ, K, R, hw, q⟩ := h
  refine ⟨O, ρ, _, R, hw, fun rs1 ρ1 vs1 H1 hk1 R1 s1 ok1 _ => ⟨O, ρ1, _, R1, hk1, fun rs2 ρ2 vs2 H2 hk2 R2 s2 ok2 _ => ?_⟩⟩
  split at hk2
  · rename_i d1 d2 e1 e2
    obtain ⟨l1, l2, hφ⟩ := hk2
    have i1 := s2.toStp.isAll (allD_ok e1 ok1)
    have i2 := allD_ok e2 ok2
    have i3 : IsAll Z (hide (Hid O ρ2 σ) H2) (reo (vs1 ++ (vs2 ++ dvs)) ix) (reo (d1 ++ (d2 ++ dd)) ix) := prd_isAll (prd_reo (isAll_prd (i1.app (i2.app (hdd _)))) ix)
    refine ⟨by rw [i1.len]; exact l1, by rw [i2.len]; exact l2, Hid O ρ2 σ, _, _, fun a => R2.hidThere, argsOk_data i3, by rw [tmp_data]; exact List.nodup_nil, hφ, fun r ms v H' hk f => ?_⟩
    have sm : Same H2 H' := fun b o e => f.keep b o (by rw [tmp_data]; exact fun z => by cases z) e
    refine q r ρ2 v H' hk (R2.grow sm) ((s1.trans s2).trans (Est.grow sm)) (nv_f R2 sm ?_ (s1.trans s2).dom)
    have ret := f.ret
    cases r with
    | d x => exact ret
    | m mo =>
      obtain ⟨a, e, na, ob⟩ := ret
      subst e
      refine ⟨a, rfl, na, ?_⟩
      have eOX : OX (Hid O ρ2 σ) (.m mo) (.ref a) = fun b => Hid O ρ2 σ b ∨ b = a := by
        funext b
        refine propext ⟨fun z => z.imp id fun z => by cases z; rfl, fun z => z.imp id fun z => by rw [z]⟩
      rw [eOX] at ob
      exact ob
    | s i => exact ret.elim
  · exact hk2.elim
theorem de_callM {k n m : Nat} {f : Addr} {fd : FuncData} {ps ks : List Str} {φ : Fnc} {x : Str} {p pos : Pos} {e : Expr} {es : List Expr} {kws : List Keyword} {w1 w2 : WA} {ds : List Value} {dvs : List V} {dd : List PD} {ix : List Nat} (F : FnG X.prog X.w X.K X.mg X.base k f fd ps (spD Z φ)) (g : Gu X.A) (hr : Room k X.A) (hg : Gl X x) (hm : X.mg x = some (.ref f)) (hk : keepIn X.K (.ref f) = true)
    (hb : BindsM X.K fd n ks ps ds ix) (hd : Vals dvs ds) (hdd : ∀ H, IsAll Z H dvs dd) (ha : DA Z X (e :: es) w1) (hkw : DKs Z X kws w2) (hm2 : ks.length = m := by rfl) (hks : (backToKw pos (keywordEach kws X.env)).filterMap (·.1) = ks := by rfl) (hall : (backToKw pos (keywordEach kws X.env)).all (·.1.isSome) = true := by rfl) (hdb : (x == ("__debug__" : Str)) = false := by decide)
    (hpl : ((backTo pos (starEach (e :: es) X.env)).any (·.1) || (backToKw pos (keywordEach kws X.env)).any (·.1.isNone)) = false := by rfl) (he : starEach (e :: es) X.env = (false, eval e X.env) :: starEach es X.env := by rfl) :
    DE Z X (.Call (.Name x p) (e :: es) kws pos) (dCallM φ n m dd ix w1 w2) := by
  subst hm2
  exact PEweak (pe_callM F g hr hg hm hk hb hd ha hkw hks hall hdb hpl he) fun _ _ _ => callM_ok hdd
theorem de_callM0 {k m : Nat} {f : Addr} {fd : FuncData} {ps ks : List Str} {φ : Fnc} {x : Str} {p pos : Pos} {kws : List Keyword} {w2 : WA} {ds : List Value} {dvs : List V} {dd : List PD} {ix : List Nat} (F : FnG X.prog X.w X.K X.mg X.base k f fd ps (spD Z φ)) (g : Gu X.A) (hr : Room k X.A) (hg : Gl X x) (hm : X.mg x = some (.ref f)) (hk : keepIn X.K (.ref f) = true)
    (hb : BindsM X.K fd 0 ks ps ds ix) (hd : Vals dvs ds) (hdd : ∀ H, IsAll Z H dvs dd) (hkw : DKs Z X kws w2) (hm2 : ks.length = m := by rfl) (hks : (backToKw pos (keywordEach kws X.env)).filterMap (·.1) = ks := by rfl) (hall : (backToKw pos (keywordEach kws X.env)).all (·.1.isSome) = true := by rfl) (hdb : (x == ("__debug__" : Str)) = false := by decide)
    (hpl : ((backTo pos (starEach [] X.env)).any (·.1) || (backToKw pos (keywordEach kws X.env)).any (·.1.isNone)) = false := by rfl) :
    DE Z X (.Call (.Name x p) [] kws pos) (dCallM φ 0 m dd ix aNil w2) := by
  subst hm2
  refine PEweak (pe_callM0 F g hr hg hm hk hb hd hkw hks hall hdb hpl) fun σ H Q h => ?_
  obtain ⟨O, ρ, K, R, hw, q⟩ := h
  obtain ⟨O', ρ', K', R', hw', q'⟩ := callM_ok (w1 := aNil) hdd ⟨O, ρ, K, R, hw, q⟩
  exact q' [] ρ' [] H hw' R' Est.refl trivial ⟨by rw [show tmpOf [] [] = [] from rfl, OT_nil]; exact R', trivial, List.nodup_nil, fun a z => by cases z⟩
theorem de_callMP {k n : Nat} {f : Addr} {fd : FuncData} {ps : List Str} {φ : Fnc} {x : Str} {p pos : Pos} {e : Expr} {es : List Expr} {w1 : WA} {ds : List Value} {dvs : List V} {dd : List PD} {ix : List Nat} (F : FnG X.prog X.w X.K X.mg X.base k f fd ps (spD Z φ)) (g : Gu X.A) (hr : Room k X.A) (hg : Gl X x) (hm : X.mg x = some (.ref f)) (hk : keepIn X.K (.ref f) = true)
    (hb : BindsM X.K fd n [] ps ds ix) (hd : Vals dvs ds) (hdd : ∀ H, IsAll Z H dvs dd) (ha : DA Z X (e :: es) w1) (hdb : (x == ("__debug__" : Str)) = false := by decide) (he : starEach (e :: es) X.env = (false, eval e X.env) :: starEach es X.env := by rfl) (hpl : (backTo pos (starEach es X.env)).any (·.1) = false := by rfl) :
    DE Z X (.Call (.Name x p) (e :: es) [] pos) (dCallM φ n 0 dd ix w1 aNil) := by
  refine PEweak (pe_callMP F g hr hg hm hk hb hd ha hdb he hpl) fun σ H Q h => ?_
  obtain ⟨O', ρ', K', R', hw', q'⟩ := callM_ok (w2 := aNil) hdd h
  refine ⟨O', ρ', K', R', hw', fun rs1 ρ1 vs1 H1 a b c d e => ?_⟩
  obtain ⟨O2, ρ2, K2, R2, hw2, q2⟩ := q' rs1 ρ1 vs1 H1 a b c d e
  exact q2 [] ρ2 [] H1 hw2 R2 Est.refl trivial ⟨by rw [show tmpOf [] [] = [] from rfl, OT_nil]; exact R2, trivial, List.nodup_nil, fun a z => by cases z⟩
end
end Dd

/-! The end of a law's row, by data. -/
namespace Dd
open PySem PySem.Spec PyProof.Rows L2 PySem.W Cb
theorem LsK.of {K : Frag} {H : Hp} {a : Addr} {xs : List V} (h : SqL K H a xs) (hex : ∀ o, K.lookup a = some o → ∃ its n, o = { cls := .type "list", data := .seq its n }) : LsK K H a xs := by
  rcases h with h | ⟨o, its, n, h1, h2, h3, h4, hz, r⟩
  · exact .inl h
  · obtain ⟨its', n', e⟩ := hex o h1
    subst e
    obtain ⟨rfl, rfl⟩ : its' = its ∧ n' = n := by
      have : Data.seq its' n' = Data.seq its n := by first | exact h2 | exact h3 | exact h4
      cases this
      exact ⟨rfl, rfl⟩
    exact .inr ⟨its', n', h1, by first | exact hz | exact r, by first | exact r | exact hz⟩
theorem walkD {l : OpenLaw} {n k : Nat} {q : Program} {loose : List Str} {XP : (Str → Option Value) → Heap → Prop} {YP : World → Heap → Prop} {d : DefRec} {K : Params → Frag} {φ : Fnc} {x : Str}
    (hn : l.most = some n) (hn2 : n ≤ sizeLine) (hdf : d.params.defaults = []) (hr : Room k callerA) (hY : ∀ (w : World) (h : Heap), YP w h → (K w.params).In h)
    (F : ∀ (w : World) (mg : Str → Option Value) (fa : Addr) (h : Heap), (K w.params).In h → h.Ns mainGlobals mg → mg d.name = some (.ref fa) →
      ∃ fd : FuncData, (∀ (s : Shared) (u : Value), BindsTo s fd ⟨[u], []⟩ [(x, u)]) ∧ ∀ base : Heap, (K w.params).In base → base.Ns mainGlobals mg → FnG l.prog w (K w.params) mg base k fa fd [x] (spD ⟨l.prog, K w.params, w⟩ φ))
    (hφ : ∀ ns : List Int, ns.length ≤ n → φ [.d (.list (ns.map PyData.int))] fun r _ => r = .d (.bool true)) :
    WalkO q loose XP YP l.row.toRowW d [] (fun f vs => PySem.call f vs) := by
  refine Att.attach_call hn hdf fun w s₀ s₁ mg mb fa o pm cd doc a vs ns G Y ho hd hcd hmg hobj hints hlen hg => ?_
  obtain ⟨fd, hb, hF⟩ := F w mg fa _ (hY w _ Y) G.T.g hmg
  refine lawG (hY w _ Y) G.T.g G.T.b G.T.builtins G.T.nolimit hg hobj hints (Nat.le_trans hlen hn2) hr hF hb fun H hO hS => ?_
  have hL := LsK.of hS fun o e => by
    have := (hY w _ Y) a o e
    rw [hobj] at this
    cases this
    exact ⟨_, _, rfl⟩
  have h0 : Same H (hide (fun _ => False) H) := fun b o e => by rw [hide_out (fun z => z)]; exact e
  have hi : ∀ ms : List Int, IsAll ⟨l.prog, K w.params, w⟩ (hide (fun _ => False) H) (ms.map V.int) (ms.map PyData.int) := fun ms => by
    induction ms with
    | nil => exact .nil
    | cons m ms ih => exact .cons (.int m) ih
  refine ⟨fun _ => False, [.d (.list (ns.map PyData.int))], _, fun _ z => z.elim, ⟨.lst (hL.sub h0) (hi ns), trivial⟩, List.nodup_nil, hφ ns hlen, fun r ms v H' e f => ?_⟩
  have ret := f.ret
  subst e
  cases (show Is ⟨l.prog, K w.params, w⟩ (hide (fun _ => False) H') v (.bool true) from ret)
  rfl
end Dd

/-! Words for derivations; comprehensions told as maps and filters. -/
namespace Dd
open PySem PySem.Spec PyProof.Rows L2 PySem.W Cb
section
variable {X : Cx} {Z : Zz}
theorem dv (i : Nat) {x : Str} {pos : Pos} (hN : X.N[i]? = some x := by rfl) (hv : Vis X.env.scope x := by first | exact Or.inl rfl | exact Or.inr (Or.inl rfl) | exact Or.inr (Or.inr rfl)) (hd : (x == ("__debug__" : Str)) = false := by decide) (hcd : (x == ("__classdict__" : Str)) = false := by decide) : DE Z X (.Name x pos) (dVar i) := de_var hN hv hd hcd
theorem u9 {A : Around} {k : Nat} (r : Room k A) : A.units + 9 < cLine := by have := r.un; omega
theorem u65 {A : Around} {k : Nat} (r : Room k A) : A.units + 65 < cLine := by have := r.un; omega
theorem lcD_map {β : Type} (enc : β → PD) (p : β → Bool) (f : β → PD) {g : WG} {t : WT} {w : WE} {vs : List Nat} {ρ : Rho} : ∀ {bs : List β} {acc : List PD} {k : List PD → Rho → Prop}, (∀ b ∈ bs, ∀ (Y : PD → Rho → Prop) (N : Rho → Prop), (if p b = true then Y (f b) ρ else N ρ) →
    g (enc b) ρ fun ρ1 => t ρ1 fun c ρ2 => if c = true then w ρ2 fun r ρ3 => toD r ρ3 fun x ρ4 => Y x (wipeR ρ4 vs) else N (wipeR ρ2 vs)) → k (acc ++ (bs.filter p).map f) ρ → lcD g t w vs (bs.map enc) acc ρ k
  | [], acc, k, _, h => by
    rw [List.filter_nil, List.map_nil, List.append_nil] at h
    exact h
  | b :: bs, acc, k, st, h => by
    refine st b List.mem_cons_self (fun x ρ4 => lcD g t w vs (bs.map enc) (acc ++ [x]) ρ4 k) (fun ρ2 => lcD g t w vs (bs.map enc) acc ρ2 k) ?_
    rw [List.filter_cons] at h
    split at h
    · rename_i e
      rw [if_pos e]
      refine lcD_map enc p f (fun c hc => st c (List.mem_cons_of_mem _ hc)) ?_
      rw [List.map_cons, List.append_cons] at h
      exact h
    · rename_i e
      rw [if_neg e]
      exact lcD_map enc p f (fun c hc => st c (List.mem_cons_of_mem _ hc)) h
theorem clD_flat {β : Type} (enc : β → PD) (F : β → List PD) (M : Nat) {g : WG} {t : WT} {b : WB} {vs : List Nat} {ρ : Rho} : ∀ {bs : List β} {acc : List PD} {k : List PD → Rho → Prop}, (∀ c ∈ bs, ∀ (acc : List PD) (Y : List PD → Rho → Prop), acc.length + (F c).length ≤ M → Y (acc ++ F c) ρ →
    g (enc c) ρ fun ρ1 => t ρ1 fun q ρ2 => if q = true then b acc ρ2 fun acc2 ρ3 => Y acc2 (wipeR ρ3 vs) else Y acc (wipeR ρ2 vs)) → acc.length + (bs.flatMap F).length ≤ M → k (acc ++ bs.flatMap F) ρ → clD g t b vs (bs.map enc) acc ρ k
  | [], acc, k, _, _, h => by
    rw [List.flatMap_nil, List.append_nil] at h
    exact h
  | c :: bs, acc, k, st, hl, h => by
    rw [List.flatMap_cons, List.length_append] at hl
    refine st c List.mem_cons_self acc (fun acc2 ρ3 => clD g t b vs (bs.map enc) acc2 ρ3 k) (by omega) ?_
    refine clD_flat enc F M (fun d hd => st d (List.mem_cons_of_mem _ hd)) (by rw [List.length_append]; omega) ?_
    rw [List.flatMap_cons] at h
    rw [List.append_assoc]
    exact h
end
/-- a def of the text that stands where its name says, with what it does with data -/
structure OwnD (P : Program) (w : World) (K : Frag) (mg : Str → Option Value) (base : Heap) (k : Nat) (x : Str) (ps : List Str) (φ : Fnc) where
  f : Addr
  fd : FuncData
  G : FnG P w K mg base k f fd ps (spD ⟨P, K, w⟩ φ)
  m : mg x = some (.ref f)
  kp : keepIn K (.ref f) = true
  b : Binds K fd ps []
@[simp] theorem noMut_nil {ρ : Rho} : NoMut ρ [] = True := eq_true fun i h => by cases h
@[simp] theorem noMut_cons {ρ : Rho} {i : Nat} {vs : List Nat} : NoMut ρ (i :: vs) = ((∀ o l m, ρ[i]? ≠ some (Sl.mut o l m)) ∧ NoMut ρ vs) := propext
  ⟨fun h => ⟨h i List.mem_cons_self, fun j hj => h j (List.mem_cons_of_mem _ hj)⟩, fun ⟨h, t⟩ j hj => by
    rcases List.mem_cons.mp hj with e | e
    · rw [e]; exact h
    · exact t j e⟩
/-! ### texts, sets of texts -/
theorem flat_strs' (ns : List Str) : (ns.map PyData.str).all flatD = true := by
  rw [List.all_map]
  exact List.all_eq_true.mpr fun _ _ => rfl
@[simp] theorem okIn_str (x : Str) (ns : List Str) : okIn (.str x) (ns.map PyData.str) = True := eq_true (.inl ⟨rfl, flat_strs' ns⟩)
@[simp] theorem any_str (x : Str) (ns : List Str) : ((ns.map PyData.str).any fun z => PyData.eqv z (.str x)) = Cb.isIn x ns := by
  rw [List.any_map]
  unfold Cb.isIn
  congr 1
theorem okSrt_strs (ns : List Str) : okSrt (ns.map PyData.str) := by
  refine ⟨fun d hd d' hd' => ?_, .inr fun d hd => ?_, fun d hd => ?_, fun d hd => ?_⟩
  · obtain ⟨s, _, rfl⟩ := List.mem_map.mp hd
    obtain ⟨s', _, rfl⟩ := List.mem_map.mp hd'
    simp [alike]
  · obtain ⟨s, _, rfl⟩ := List.mem_map.mp hd
    exact ⟨fun z => (nomatch z), fun _ z => (nomatch z)⟩
  · obtain ⟨s, _, rfl⟩ := List.mem_map.mp hd
    simp [PyData.depth]
  · obtain ⟨s, _, rfl⟩ := List.mem_map.mp hd
    rfl
theorem srtD_strs (ns : List Str) : srtD (ns.map PyData.str) = (srt ns).map PyData.str := (sort_maps PyData.str (r := dataLe false PyData.str) (s := dataLe false id) fun _ _ _ _ => rfl).symm
end Dd

/-! The program's own defs, by data. -/
namespace K49
open PySem PySem.Spec PyProof.Rows L2 PySem.W Cb Dd
section
variable {P : Program} {w : World} {K : Frag} {mg : Str → Option Value} {base : Heap}
def φ_newcomers : Fnc := fun rs K => ∃ c o : List Str, rs = [.d (sD c), .d (sD o)] ∧ o.length ≤ 1000 ∧ K (.d (sD (nc c o))) []
theorem d_newcomers {f : Addr} {fd : FuncData} {k : Nat} (F : Fun K "newcomers" "newcomers" s_newcomers f fd) (B : Blt mg) : FnG P w K mg base (k + 1) f fd ["crew", "other"] (spD ⟨P, K, w⟩ φ_newcomers) := by
  refine Dd.FnG.mono (fn_D F sc_newcomers (by decide) fun cdv A out s H E g hr => dss_one (ds_ret (de_callTy c_tup (by rfl) B.tuple (by decide +kernel) (da_cons (de_lc (own := [("person", 2)]) rfl sc_newcomers.nd (di_seq (dv 1)) (blkOk_by (own := [("person", 2)]) (N := N_newcomers) (sc := defScope s_newcomers) (by decide +kernel))
    (fun _ _ _ _ _ => dg_name (i := 2) sc_newcomers.nd rfl (Or.inl rfl)) (fun _ _ _ _ _ => dts_one (dt_cmp (o_ninD (u65 hr)) (dv 2) (dv 0) rfl)) (fun _ _ _ _ _ => dv 2)) da_nil)))) fun rs K h => ?_
  obtain ⟨c, o, rfl, hl, hk⟩ := h
  simp only [dVar, dC, d2, dTb, gNm, gTp, gsCons, gsNil, okSlot, lk, lks, aNil, aCons, dCB, dTup, dLst, wds, allD, toD, dYes, sSeq, sNil, sRet, sSet, sExp, sIf, asg, wipeR, iSeq, seqK, lockAt, unl, bLast, initR, parsR, dF, seqB, lstB, datB, kyB, Dd.keyD, tupB, lisB, dNew, dSrtLn, dLc, dLcN, bFor, iEn, sPar, noS, asgL, dCallM, dCall, argsK, mutIx, backR, dDisp, dPs, onLs, isLs, dApp, dExt, dPopAt, dPop, sSetL, sSetD, isDk, onDk, sAsgT, iRange1, iRange2, dSl, oNone, oSome, dIf, dNot, dAnd, dOr, dTru, dNeg, truB, dDef, sFor, sWhile, sPass, sBrk, sCnt, sRetN, addB, iB, allTB, reprB, lenB, dAndV, dOrV, dNotV, inB, eqB, isB, ixB, slB, nonB, Dd.allB, srtB, mm2B, nsB, ixDB, inDB, getB, hasB, dkB, dnB, nkB, noMut_nil, noMut_cons, okIn_str, any_str, sD, List.getElem?_cons_zero, List.getElem?_cons_succ, List.getElem?_nil, List.set_cons_zero, List.set_cons_succ, List.length_map, List.replicate_succ, List.replicate_zero, List.replicate, List.length_cons, List.length_nil, List.map_cons, List.map_nil, List.length_singleton, Nat.reduceAdd, Nat.reduceSub, Nat.add_one_sub_one, Nat.sub_self, Nat.add_zero, Nat.zero_add, if_true, if_false, Bool.false_eq_true, Option.some.injEq, true_and, and_true, ne_eq, reduceCtorEq, not_false_eq_true, implies_true, List.nodup_nil, List.nil_append, Bool.not_true, Bool.not_false, ite_true, ite_false]
  refine ⟨by omega, lcD_map PyData.str (fun p => !Cb.isIn p c) PyData.str (fun b hb Y N h => ?_) ?_⟩
  · simp only [dVar, dC, d2, dTb, gNm, gTp, gsCons, gsNil, okSlot, lk, lks, aNil, aCons, dCB, dTup, dLst, wds, allD, toD, dYes, sSeq, sNil, sRet, sSet, sExp, sIf, asg, wipeR, iSeq, seqK, lockAt, unl, bLast, initR, parsR, dF, seqB, lstB, datB, kyB, Dd.keyD, tupB, lisB, dNew, dSrtLn, dLc, dLcN, bFor, iEn, sPar, noS, asgL, dCallM, dCall, argsK, mutIx, backR, dDisp, dPs, onLs, isLs, dApp, dExt, dPopAt, dPop, sSetL, sSetD, isDk, onDk, sAsgT, iRange1, iRange2, dSl, oNone, oSome, dIf, dNot, dAnd, dOr, dTru, dNeg, truB, dDef, sFor, sWhile, sPass, sBrk, sCnt, sRetN, addB, iB, allTB, reprB, lenB, dAndV, dOrV, dNotV, inB, eqB, isB, ixB, slB, nonB, Dd.allB, srtB, mm2B, nsB, ixDB, inDB, getB, hasB, dkB, dnB, nkB, noMut_nil, noMut_cons, okIn_str, any_str, sD, List.getElem?_cons_zero, List.getElem?_cons_succ, List.getElem?_nil, List.set_cons_zero, List.set_cons_succ, List.length_map, List.replicate_succ, List.replicate_zero, List.replicate, List.length_cons, List.length_nil, List.map_cons, List.map_nil, List.length_singleton, Nat.reduceAdd, Nat.reduceSub, Nat.add_one_sub_one, Nat.sub_self, Nat.add_zero, Nat.zero_add, if_true, if_false, Bool.false_eq_true, Option.some.injEq, true_and, and_true, ne_eq, reduceCtorEq, not_false_eq_true, implies_true, List.nodup_nil, List.nil_append, Bool.not_true, Bool.not_false, ite_true, ite_false]
    exact h
  · exact hk
abbrev s_exchanged : Stmt := top 3
abbrev N_exchanged : List Str := ["crew", "person", "other", "member"]
theorem sc_exchanged : FnScope N_exchanged ["crew", "person", "other"] (defScope s_exchanged) := ⟨rfl, rfl, rfl, by decide +kernel, rfl, by decide +kernel, by decide +kernel⟩
def φ_exchanged : Fnc := fun rs K => ∃ (c : List Str) (p o : Str), rs = [.d (sD c), .d (.str p), .d (.str o)] ∧ c.length ≤ 1000 ∧ K (.d (sD (ex c p o))) []
theorem d_exchanged {f : Addr} {fd : FuncData} {k : Nat} (F : Fun K "exchanged" "exchanged" s_exchanged f fd) (B : Blt mg)  : FnG P w K mg base (k + 1) f fd ["crew", "person", "other"] (spD ⟨P, K, w⟩ φ_exchanged) := by
  refine Dd.FnG.mono (fn_D F sc_exchanged (by decide) fun cdv A out s H E g hr => (dss_one (ds_ret (de_callTy c_tup (by rfl) B.tuple (by decide +kernel) (da_cons (de_callB (c_srtD hr.units) (by rfl) B.sorted (by decide +kernel) (da_cons (de_op o_add (de_lc (own := [("member", 3)]) rfl sc_exchanged.nd (di_seq (dv 0)) (blkOk_by (own := [("member", 3)]) (N := N_exchanged) (sc := defScope s_exchanged) (by decide +kernel)) (fun _ _ _ _ _ => (dg_name (i := 3) sc_exchanged.nd rfl (Or.inl rfl))) (fun _ _ _ _ _ => (dts_one (dt_cmp (o_ne hr.units) (dv 3) (dv 1) (nomark _)))) (fun _ _ _ _ _ => (dv 3))) (de_lst (da_cons (de_F (dv 2)) da_nil))) da_nil)) da_nil))))) fun rs K h => ?_
  obtain ⟨c, p, o, rfl, hl, hk⟩ := h
  simp only [dVar, dC, d2, dTb, gNm, gTp, gsCons, gsNil, okSlot, lk, lks, aNil, aCons, dCB, dTup, dLst, wds, allD, toD, dYes, sSeq, sNil, sRet, sSet, sExp, sIf, asg, wipeR, iSeq, seqK, lockAt, unl, bLast, initR, parsR, dF, seqB, lstB, datB, kyB, Dd.keyD, tupB, lisB, dNew, dSrtLn, dLc, dLcN, bFor, iEn, sPar, noS, asgL, dCallM, dCall, argsK, mutIx, backR, dDisp, dPs, onLs, isLs, dApp, dExt, dPopAt, dPop, sSetL, sSetD, isDk, onDk, sAsgT, iRange1, iRange2, dSl, oNone, oSome, dIf, dNot, dAnd, dOr, dTru, dNeg, truB, dDef, sFor, sWhile, sPass, sBrk, sCnt, sRetN, addB, iB, allTB, reprB, lenB, dAndV, dOrV, dNotV, inB, eqB, isB, ixB, slB, nonB, Dd.allB, srtB, mm2B, nsB, ixDB, inDB, getB, hasB, dkB, dnB, nkB, noMut_nil, noMut_cons, okIn_str, any_str, sD, List.getElem?_cons_zero, List.getElem?_cons_succ, List.getElem?_nil, List.set_cons_zero, List.set_cons_succ, List.length_map, List.replicate_succ, List.replicate_zero, List.replicate, List.length_cons, List.length_nil, List.map_cons, List.map_nil, List.length_singleton, Nat.reduceAdd, Nat.reduceSub, Nat.add_one_sub_one, Nat.sub_self, Nat.add_zero, Nat.zero_add, if_true, if_false, Bool.false_eq_true, Option.some.injEq, true_and, and_true, ne_eq, reduceCtorEq, not_false_eq_true, implies_true, List.nodup_nil, List.nil_append, Bool.not_true, Bool.not_false, ite_true, ite_false]
  refine ⟨by omega, lcD_map PyData.str (fun m => !decide (m = p)) PyData.str (fun b hb Y N h => ?_) ?_⟩
  · simp only [dVar, dC, d2, dTb, gNm, gTp, gsCons, gsNil, okSlot, lk, lks, aNil, aCons, dCB, dTup, dLst, wds, allD, toD, dYes, sSeq, sNil, sRet, sSet, sExp, sIf, asg, wipeR, iSeq, seqK, lockAt, unl, bLast, initR, parsR, dF, seqB, lstB, datB, kyB, Dd.keyD, tupB, lisB, dNew, dSrtLn, dLc, dLcN, bFor, iEn, sPar, noS, asgL, dCallM, dCall, argsK, mutIx, backR, dDisp, dPs, onLs, isLs, dApp, dExt, dPopAt, dPop, sSetL, sSetD, isDk, onDk, sAsgT, iRange1, iRange2, dSl, oNone, oSome, dIf, dNot, dAnd, dOr, dTru, dNeg, truB, dDef, sFor, sWhile, sPass, sBrk, sCnt, sRetN, addB, iB, allTB, reprB, lenB, dAndV, dOrV, dNotV, inB, eqB, isB, ixB, slB, nonB, Dd.allB, srtB, mm2B, nsB, ixDB, inDB, getB, hasB, dkB, dnB, nkB, noMut_nil, noMut_cons, okIn_str, any_str, sD, List.getElem?_cons_zero, List.getElem?_cons_succ, List.getElem?_nil, List.set_cons_zero, List.set_cons_succ, List.length_map, List.replicate_succ, List.replicate_zero, List.replicate, List.length_cons, List.length_nil, List.map_cons, List.map_nil, List.length_singleton, Nat.reduceAdd, Nat.reduceSub, Nat.add_one_sub_one, Nat.sub_self, Nat.add_zero, Nat.zero_add, if_true, if_false, Bool.false_eq_true, Option.some.injEq, true_and, and_true, ne_eq, reduceCtorEq, not_false_eq_true, implies_true, List.nodup_nil, List.nil_append, Bool.not_true, Bool.not_false, ite_true, ite_false]
    refine ⟨.inl rfl, ?_⟩
    have e : PyData.eqv (.str b) (.str p) = decide (b = p) := by rw [PyData.eqv]; rfl
    rw [e]
    exact h
  · have l1 : (but c p).length ≤ 1000 := Nat.le_trans (List.length_filter_le _ _) hl
    have e : (but c p).map PyData.str ++ [PyData.str o] = (but c p ++ [o]).map PyData.str := by rw [List.map_append]; rfl
    show 1 ≤ 1000 ∧ ((but c p).map PyData.str).length + 1 ≤ sizeLine ∧ okSrt ((but c p).map PyData.str ++ [PyData.str o]) ∧ K (.d (.tuple (srtD ((but c p).map PyData.str ++ [PyData.str o])))) []
    rw [e, srtD_strs]
    exact ⟨by decide, lst_line2 (by rw [List.length_map]; omega), okSrt_strs _, hk⟩
abbrev s_exchange_places : Stmt := top 4
abbrev N_exchange_places : List Str := ["crews", "i", "crew", "j", "other", "person"]
theorem sc_exchange_places : FnScope N_exchange_places ["crews"] (defScope s_exchange_places) := ⟨rfl, rfl, rfl, by decide +kernel, rfl, by decide +kernel, by decide +kernel⟩
def tT (ts : List (List Str)) : PyData := .tuple (ts.map sD)
def plD (i j : Nat) (p : Str) : PyData := .tuple [.int i, .int j, .str p]
def plF (ts : List (List Str)) (x : List Str × Nat) : List PyData := ts.zipIdx.flatMap fun y => (nc y.1 x.1).map fun p => plD x.2 y.2 p
def places (ts : List (List Str)) : List PyData := ts.zipIdx.flatMap (plF ts)
def enT (x : List Str × Nat) : PyData := .tuple [.int x.2, sD x.1]
theorem en_ts (ts : List (List Str)) : enD (ts.map sD) = ts.zipIdx.map enT := by
  unfold enD
  rw [List.mapIdx_eq_zipIdx_map, List.zipIdx_map, List.map_map]
  rfl
theorem zip_mem {ts : List (List Str)} {x : List Str × Nat} (h : x ∈ ts.zipIdx) : x.1 ∈ ts := (List.mem_zipIdx' h).2 ▸ List.getElem_mem _
def φ_exchange_places : Fnc := fun rs K => ∃ ts : List (List Str), rs = [.d (tT ts)] ∧ Gt ts ∧ K (.m (.lst (places ts))) []
theorem d_exchange_places {f : Addr} {fd : FuncData} {k : Nat} (F : Fun K "exchange_places" "exchange_places" s_exchange_places f fd) (B : Blt mg) (be : mg "enumerate" = none) (D_newcomers : OwnD P w K mg base 1 "newcomers" ["crew", "other"] φ_newcomers) : FnG P w K mg base (k + 2) f fd ["crews"] (spD ⟨P, K, w⟩ φ_exchange_places) := by
  refine Dd.FnG.mono (fn_D F sc_exchange_places (by decide) fun cdv A out s H E g hr => (dss_one (ds_ret (de_lcN (own := [("i", 1), ("crew", 2), ("j", 3), ("other", 4), ("person", 5)]) (bd := fun D env => NextIs _ _ 1 (.ref D) env) rfl sc_exchange_places.nd (di_en rfl be (dv 0)) (blkOk_by (own := [("i", 1), ("crew", 2), ("j", 3), ("other", 4), ("person", 5)]) (N := N_exchange_places) (sc := defScope s_exchange_places) (by decide +kernel)) (fun _ _ _ => turn3_0 ..) (fun _ _ _ _ _ => (dg_tup (n := 2) rfl (dgs_cons (dg_name (i := 1) sc_exchange_places.nd rfl (Or.inl rfl)) (dgs_cons (dg_name (i := 2) sc_exchange_places.nd rfl (Or.inl rfl)) dgs_nil)))) (fun _ _ _ _ _ => dts_nil) (fun _ _ _ _ _ D => (dbd_for (vs := [3, 4, 5]) rfl (fun it => turn3_1 ..) (di_en rfl be (dv 0)) (dg_tup (n := 2) rfl (dgs_cons (dg_name (i := 3) sc_exchange_places.nd rfl (Or.inl rfl)) (dgs_cons (dg_name (i := 4) sc_exchange_places.nd rfl (Or.inl rfl)) dgs_nil))) dts_nil (dbd_for (vs := [5]) rfl (fun it => turn3_2 ..) (di_seq (de_call D_newcomers.G g (hr.mono (by omega)) rfl D_newcomers.m D_newcomers.kp D_newcomers.b (da_cons (dv 4) (da_cons (dv 2) da_nil)))) (dg_name (i := 5) sc_exchange_places.nd rfl (Or.inl rfl)) dts_nil (dbd_last (de_tup (da_cons (de_F (dv 1)) (da_cons (de_F (dv 3)) (da_cons (de_F (dv 5)) da_nil)))))))))))) fun rs K h => ?_
  obtain ⟨ts, rfl, gt, hk⟩ := h
  have z8 : ∀ x ∈ ts.zipIdx, x.1.length ≤ 8 := fun x hx => (gt.each _ (zip_mem hx)).2.1
  have f1 : ∀ x ∈ ts.zipIdx, ∀ y ∈ ts.zipIdx, ((nc y.1 x.1).map fun p => plD x.2 y.2 p).length ≤ 8 := fun x hx y _ => by
    rw [List.length_map]
    exact Nat.le_trans (nc_le _ _) (z8 x hx)
  have hm := gt.many
  have f2 : ∀ x ∈ ts.zipIdx, (plF ts x).length ≤ 512 := fun x hx => by
    have := flat_le 8 (fun y : List Str × Nat => (nc y.1 x.1).map fun p => plD x.2 y.2 p) ts.zipIdx (f1 x hx)
    rw [List.length_zipIdx] at this
    unfold plF
    omega
  have f3 : (places ts).length ≤ 32768 := by
    have := flat_le 512 (plF ts) ts.zipIdx f2
    rw [List.length_zipIdx] at this
    unfold places
    omega
  simp only [dVar, dC, d2, dTb, gNm, gTp, gsCons, gsNil, okSlot, lk, lks, aNil, aCons, dCB, dTup, dLst, wds, allD, toD, dYes, sSeq, sNil, sRet, sSet, sExp, sIf, asg, wipeR, iSeq, seqK, lockAt, unl, bLast, initR, parsR, dF, seqB, lstB, datB, kyB, Dd.keyD, tupB, lisB, dNew, dSrtLn, dLc, dLcN, bFor, iEn, sPar, noS, asgL, dCallM, dCall, argsK, mutIx, backR, dDisp, dPs, onLs, isLs, dApp, dExt, dPopAt, dPop, sSetL, sSetD, isDk, onDk, sAsgT, iRange1, iRange2, dSl, oNone, oSome, dIf, dNot, dAnd, dOr, dTru, dNeg, truB, dDef, sFor, sWhile, sPass, sBrk, sCnt, sRetN, addB, iB, allTB, reprB, lenB, dAndV, dOrV, dNotV, inB, eqB, isB, ixB, slB, nonB, Dd.allB, srtB, mm2B, nsB, ixDB, inDB, getB, hasB, dkB, dnB, nkB, noMut_nil, noMut_cons, okIn_str, any_str, sD, List.getElem?_cons_zero, List.getElem?_cons_succ, List.getElem?_nil, List.set_cons_zero, List.set_cons_succ, List.length_map, List.replicate_succ, List.replicate_zero, List.replicate, List.length_cons, List.length_nil, List.map_cons, List.map_nil, List.length_singleton, Nat.reduceAdd, Nat.reduceSub, Nat.add_one_sub_one, Nat.sub_self, Nat.add_zero, Nat.zero_add, if_true, if_false, Bool.false_eq_true, Option.some.injEq, true_and, and_true, ne_eq, reduceCtorEq, not_false_eq_true, implies_true, List.nodup_nil, List.nil_append, Bool.not_true, Bool.not_false, ite_true, ite_false, tT]
  rw [en_ts]
  refine clD_flat enT (plF ts) 50000 (fun x hx acc Y hl hY => ?_) (by show 0 + (places ts).length ≤ 50000; omega) hk
  simp only [dVar, dC, d2, dTb, gNm, gTp, gsCons, gsNil, okSlot, lk, lks, aNil, aCons, dCB, dTup, dLst, wds, allD, toD, dYes, sSeq, sNil, sRet, sSet, sExp, sIf, asg, wipeR, iSeq, seqK, lockAt, unl, bLast, initR, parsR, dF, seqB, lstB, datB, kyB, Dd.keyD, tupB, lisB, dNew, dSrtLn, dLc, dLcN, bFor, iEn, sPar, noS, asgL, dCallM, dCall, argsK, mutIx, backR, dDisp, dPs, onLs, isLs, dApp, dExt, dPopAt, dPop, sSetL, sSetD, isDk, onDk, sAsgT, iRange1, iRange2, dSl, oNone, oSome, dIf, dNot, dAnd, dOr, dTru, dNeg, truB, dDef, sFor, sWhile, sPass, sBrk, sCnt, sRetN, addB, iB, allTB, reprB, lenB, dAndV, dOrV, dNotV, inB, eqB, isB, ixB, slB, nonB, Dd.allB, srtB, mm2B, nsB, ixDB, inDB, getB, hasB, dkB, dnB, nkB, noMut_nil, noMut_cons, okIn_str, any_str, sD, List.getElem?_cons_zero, List.getElem?_cons_succ, List.getElem?_nil, List.set_cons_zero, List.set_cons_succ, List.length_map, List.replicate_succ, List.replicate_zero, List.replicate, List.length_cons, List.length_nil, List.map_cons, List.map_nil, List.length_singleton, Nat.reduceAdd, Nat.reduceSub, Nat.add_one_sub_one, Nat.sub_self, Nat.add_zero, Nat.zero_add, if_true, if_false, Bool.false_eq_true, Option.some.injEq, true_and, and_true, ne_eq, reduceCtorEq, not_false_eq_true, implies_true, List.nodup_nil, List.nil_append, Bool.not_true, Bool.not_false, ite_true, ite_false, enT]
  rw [en_ts]
  refine clD_flat enT (fun y => (nc y.1 x.1).map fun p => plD x.2 y.2 p) 50000 (fun y hy acc2 Y2 hl2 hY2 => ?_) hl ?_
  · simp only [dVar, dC, d2, dTb, gNm, gTp, gsCons, gsNil, okSlot, lk, lks, aNil, aCons, dCB, dTup, dLst, wds, allD, toD, dYes, sSeq, sNil, sRet, sSet, sExp, sIf, asg, wipeR, iSeq, seqK, lockAt, unl, bLast, initR, parsR, dF, seqB, lstB, datB, kyB, Dd.keyD, tupB, lisB, dNew, dSrtLn, dLc, dLcN, bFor, iEn, sPar, noS, asgL, dCallM, dCall, argsK, mutIx, backR, dDisp, dPs, onLs, isLs, dApp, dExt, dPopAt, dPop, sSetL, sSetD, isDk, onDk, sAsgT, iRange1, iRange2, dSl, oNone, oSome, dIf, dNot, dAnd, dOr, dTru, dNeg, truB, dDef, sFor, sWhile, sPass, sBrk, sCnt, sRetN, addB, iB, allTB, reprB, lenB, dAndV, dOrV, dNotV, inB, eqB, isB, ixB, slB, nonB, Dd.allB, srtB, mm2B, nsB, ixDB, inDB, getB, hasB, dkB, dnB, nkB, noMut_nil, noMut_cons, okIn_str, any_str, sD, List.getElem?_cons_zero, List.getElem?_cons_succ, List.getElem?_nil, List.set_cons_zero, List.set_cons_succ, List.length_map, List.replicate_succ, List.replicate_zero, List.replicate, List.length_cons, List.length_nil, List.map_cons, List.map_nil, List.length_singleton, Nat.reduceAdd, Nat.reduceSub, Nat.add_one_sub_one, Nat.sub_self, Nat.add_zero, Nat.zero_add, if_true, if_false, Bool.false_eq_true, Option.some.injEq, true_and, and_true, ne_eq, reduceCtorEq, not_false_eq_true, implies_true, List.nodup_nil, List.nil_append, Bool.not_true, Bool.not_false, ite_true, ite_false, enT, φ_newcomers]
    rw [List.map_eq_flatMap] at hl2 hY2
    refine ⟨y.1, x.1, rfl, by have := z8 x hx; omega, clD_flat PyData.str (fun p => [plD x.2 y.2 p]) 50000 (fun p hp acc3 Y3 hl3 hY3 => ?_) hl2 hY2⟩
    simp only [dVar, dC, d2, dTb, gNm, gTp, gsCons, gsNil, okSlot, lk, lks, aNil, aCons, dCB, dTup, dLst, wds, allD, toD, dYes, sSeq, sNil, sRet, sSet, sExp, sIf, asg, wipeR, iSeq, seqK, lockAt, unl, bLast, initR, parsR, dF, seqB, lstB, datB, kyB, Dd.keyD, tupB, lisB, dNew, dSrtLn, dLc, dLcN, bFor, iEn, sPar, noS, asgL, dCallM, dCall, argsK, mutIx, backR, dDisp, dPs, onLs, isLs, dApp, dExt, dPopAt, dPop, sSetL, sSetD, isDk, onDk, sAsgT, iRange1, iRange2, dSl, oNone, oSome, dIf, dNot, dAnd, dOr, dTru, dNeg, truB, dDef, sFor, sWhile, sPass, sBrk, sCnt, sRetN, addB, iB, allTB, reprB, lenB, dAndV, dOrV, dNotV, inB, eqB, isB, ixB, slB, nonB, Dd.allB, srtB, mm2B, nsB, ixDB, inDB, getB, hasB, dkB, dnB, nkB, noMut_nil, noMut_cons, okIn_str, any_str, sD, List.getElem?_cons_zero, List.getElem?_cons_succ, List.getElem?_nil, List.set_cons_zero, List.set_cons_succ, List.length_map, List.replicate_succ, List.replicate_zero, List.replicate, List.length_cons, List.length_nil, List.map_cons, List.map_nil, List.length_singleton, Nat.reduceAdd, Nat.reduceSub, Nat.add_one_sub_one, Nat.sub_self, Nat.add_zero, Nat.zero_add, if_true, if_false, Bool.false_eq_true, Option.some.injEq, true_and, and_true, ne_eq, reduceCtorEq, not_false_eq_true, implies_true, List.nodup_nil, List.nil_append, Bool.not_true, Bool.not_false, ite_true, ite_false]
    rw [List.length_singleton] at hl3
    exact ⟨by decide, by omega, hY3⟩
  · exact hY
abbrev s_exchange_partners : Stmt := top 5
abbrev N_exchange_partners : List Str := ["crews", "place", "i", "j", "person", "other"]
theorem sc_exchange_partners : FnScope N_exchange_partners ["crews", "place"] (defScope s_exchange_partners) := ⟨rfl, rfl, rfl, by decide +kernel, rfl, by decide +kernel, by decide +kernel⟩
def farP (ts : List (List Str)) (c o : List Str) (p : Str) : List Str := (nc c o).filter fun m => isOne (ex c p m) ts
def φ_exchange_partners : Fnc := fun rs K => ∃ (ts : List (List Str)) (i j : Nat) (c o : List Str) (p : Str), rs = [.d (tT ts), .d (plD i j p)] ∧ Gt ts ∧ ts[i]? = some c ∧ ts[j]? = some o ∧ okS p ∧ K (.m (.lst ((farP ts c o p).map .str))) []
theorem d_exchange_partners {f : Addr} {fd : FuncData} {k : Nat} (F : Fun K "exchange_partners" "exchange_partners" s_exchange_partners f fd) (B : Blt mg) (D_newcomers : OwnD P w K mg base 1 "newcomers" ["crew", "other"] φ_newcomers) (D_exchanged : OwnD P w K mg base 1 "exchanged" ["crew", "person", "other"] φ_exchanged) : FnG P w K mg base (k + 2) f fd ["crews", "place"] (spD ⟨P, K, w⟩ φ_exchange_partners) := by
  refine Dd.FnG.mono (fn_D F sc_exchange_partners (by decide) fun cdv A out s H E g hr => (dss_cons (ds_asgT (dv 1) (dg_tup (n := 3) rfl (dgs_cons (dg_name (i := 2) sc_exchange_partners.nd rfl (Or.inr rfl)) (dgs_cons (dg_name (i := 3) sc_exchange_partners.nd rfl (Or.inl rfl)) (dgs_cons (dg_name (i := 4) sc_exchange_partners.nd rfl (Or.inr rfl)) dgs_nil)))))
      (dss_one (ds_ret (de_lc (own := [("other", 5)]) rfl sc_exchange_partners.nd (di_seq (de_call D_newcomers.G g (hr.mono (by omega)) rfl D_newcomers.m D_newcomers.kp D_newcomers.b (da_cons (de_ix ix_seqD (dv 0) (dv 2) (fun _ _ => rfl)) (da_cons (de_ix ix_seqD (dv 0) (dv 3) (fun _ _ => rfl)) da_nil)))) (blkOk_by (own := [("other", 5)]) (N := N_exchange_partners) (sc := defScope s_exchange_partners) (by decide +kernel)) (fun _ _ _ _ _ => (dg_name (i := 5) sc_exchange_partners.nd rfl (Or.inl rfl))) (fun _ _ _ _ _ => (dts_one (dt_cmp (o_inD (u65 hr)) (de_call D_exchanged.G g (hr.mono (by omega)) rfl D_exchanged.m D_exchanged.kp D_exchanged.b (da_cons (de_ix ix_seqD (dv 0) (dv 2) (fun _ _ => rfl)) (da_cons (dv 4) (da_cons (dv 5) da_nil)))) (dv 0) rfl))) (fun _ _ _ _ _ => (dv 5))))))) fun rs K h => ?_
  obtain ⟨ts, i, j, c, o, p, rfl, gt, hi, hj, op, hk⟩ := h
  have ci : atI (ts.map sD) (i : Int) = some (sD c) := atI_nat (by rw [List.getElem?_map, hi]; rfl)
  have cj : atI (ts.map sD) (j : Int) = some (sD o) := atI_nat (by rw [List.getElem?_map, hj]; rfl)
  have hc := gt.each c (List.mem_of_getElem? hi)
  have ho := gt.each o (List.mem_of_getElem? hj)
  simp only [dVar, dC, d2, dTb, gNm, gTp, gsCons, gsNil, okSlot, lk, lks, aNil, aCons, dCB, dTup, dLst, wds, allD, toD, dYes, sSeq, sNil, sRet, sSet, sExp, sIf, asg, wipeR, iSeq, seqK, lockAt, unl, bLast, initR, parsR, dF, seqB, lstB, datB, kyB, Dd.keyD, tupB, lisB, dNew, dSrtLn, dLc, dLcN, bFor, iEn, sPar, noS, asgL, dCallM, dCall, argsK, mutIx, backR, dDisp, dPs, onLs, isLs, dApp, dExt, dPopAt, dPop, sSetL, sSetD, isDk, onDk, sAsgT, iRange1, iRange2, dSl, oNone, oSome, dIf, dNot, dAnd, dOr, dTru, dNeg, truB, dDef, sFor, sWhile, sPass, sBrk, sCnt, sRetN, addB, iB, allTB, reprB, lenB, dAndV, dOrV, dNotV, inB, eqB, isB, ixB, slB, nonB, Dd.allB, srtB, mm2B, nsB, ixDB, inDB, getB, hasB, dkB, dnB, nkB, noMut_nil, noMut_cons, okIn_str, any_str, sD, List.getElem?_cons_zero, List.getElem?_cons_succ, List.getElem?_nil, List.set_cons_zero, List.set_cons_succ, List.length_map, List.replicate_succ, List.replicate_zero, List.replicate, List.length_cons, List.length_nil, List.map_cons, List.map_nil, List.length_singleton, Nat.reduceAdd, Nat.reduceSub, Nat.add_one_sub_one, Nat.sub_self, Nat.add_zero, Nat.zero_add, if_true, if_false, Bool.false_eq_true, Option.some.injEq, true_and, and_true, ne_eq, reduceCtorEq, not_false_eq_true, implies_true, List.nodup_nil, List.nil_append, Bool.not_true, Bool.not_false, ite_true, ite_false, tT, plD]
  refine ⟨_, ci, _, cj, c, o, rfl, by omega, ?_⟩
  simp only [dVar, dC, d2, dTb, gNm, gTp, gsCons, gsNil, okSlot, lk, lks, aNil, aCons, dCB, dTup, dLst, wds, allD, toD, dYes, sSeq, sNil, sRet, sSet, sExp, sIf, asg, wipeR, iSeq, seqK, lockAt, unl, bLast, initR, parsR, dF, seqB, lstB, datB, kyB, Dd.keyD, tupB, lisB, dNew, dSrtLn, dLc, dLcN, bFor, iEn, sPar, noS, asgL, dCallM, dCall, argsK, mutIx, backR, dDisp, dPs, onLs, isLs, dApp, dExt, dPopAt, dPop, sSetL, sSetD, isDk, onDk, sAsgT, iRange1, iRange2, dSl, oNone, oSome, dIf, dNot, dAnd, dOr, dTru, dNeg, truB, dDef, sFor, sWhile, sPass, sBrk, sCnt, sRetN, addB, iB, allTB, reprB, lenB, dAndV, dOrV, dNotV, inB, eqB, isB, ixB, slB, nonB, Dd.allB, srtB, mm2B, nsB, ixDB, inDB, getB, hasB, dkB, dnB, nkB, noMut_nil, noMut_cons, okIn_str, any_str, sD, List.getElem?_cons_zero, List.getElem?_cons_succ, List.getElem?_nil, List.set_cons_zero, List.set_cons_succ, List.length_map, List.replicate_succ, List.replicate_zero, List.replicate, List.length_cons, List.length_nil, List.map_cons, List.map_nil, List.length_singleton, Nat.reduceAdd, Nat.reduceSub, Nat.add_one_sub_one, Nat.sub_self, Nat.add_zero, Nat.zero_add, if_true, if_false, Bool.false_eq_true, Option.some.injEq, true_and, and_true, ne_eq, reduceCtorEq, not_false_eq_true, implies_true, List.nodup_nil, List.nil_append, Bool.not_true, Bool.not_false, ite_true, ite_false]
  have l1 := nc_le c o
  refine ⟨by omega, lcD_map PyData.str (fun m => isOne (ex c p m) ts) PyData.str (fun m hm Y N h => ?_) hk⟩
  simp only [dVar, dC, d2, dTb, gNm, gTp, gsCons, gsNil, okSlot, lk, lks, aNil, aCons, dCB, dTup, dLst, wds, allD, toD, dYes, sSeq, sNil, sRet, sSet, sExp, sIf, asg, wipeR, iSeq, seqK, lockAt, unl, bLast, initR, parsR, dF, seqB, lstB, datB, kyB, Dd.keyD, tupB, lisB, dNew, dSrtLn, dLc, dLcN, bFor, iEn, sPar, noS, asgL, dCallM, dCall, argsK, mutIx, backR, dDisp, dPs, onLs, isLs, dApp, dExt, dPopAt, dPop, sSetL, sSetD, isDk, onDk, sAsgT, iRange1, iRange2, dSl, oNone, oSome, dIf, dNot, dAnd, dOr, dTru, dNeg, truB, dDef, sFor, sWhile, sPass, sBrk, sCnt, sRetN, addB, iB, allTB, reprB, lenB, dAndV, dOrV, dNotV, inB, eqB, isB, ixB, slB, nonB, Dd.allB, srtB, mm2B, nsB, ixDB, inDB, getB, hasB, dkB, dnB, nkB, noMut_nil, noMut_cons, okIn_str, any_str, sD, List.getElem?_cons_zero, List.getElem?_cons_succ, List.getElem?_nil, List.set_cons_zero, List.set_cons_succ, List.length_map, List.replicate_succ, List.replicate_zero, List.replicate, List.length_cons, List.length_nil, List.map_cons, List.map_nil, List.length_singleton, Nat.reduceAdd, Nat.reduceSub, Nat.add_one_sub_one, Nat.sub_self, Nat.add_zero, Nat.zero_add, if_true, if_false, Bool.false_eq_true, Option.some.injEq, true_and, and_true, ne_eq, reduceCtorEq, not_false_eq_true, implies_true, List.nodup_nil, List.nil_append, Bool.not_true, Bool.not_false, ite_true, ite_false]
  refine ⟨_, ci, c, p, m, rfl, by omega, ?_⟩
  simp only [dVar, dC, d2, dTb, gNm, gTp, gsCons, gsNil, okSlot, lk, lks, aNil, aCons, dCB, dTup, dLst, wds, allD, toD, dYes, sSeq, sNil, sRet, sSet, sExp, sIf, asg, wipeR, iSeq, seqK, lockAt, unl, bLast, initR, parsR, dF, seqB, lstB, datB, kyB, Dd.keyD, tupB, lisB, dNew, dSrtLn, dLc, dLcN, bFor, iEn, sPar, noS, asgL, dCallM, dCall, argsK, mutIx, backR, dDisp, dPs, onLs, isLs, dApp, dExt, dPopAt, dPop, sSetL, sSetD, isDk, onDk, sAsgT, iRange1, iRange2, dSl, oNone, oSome, dIf, dNot, dAnd, dOr, dTru, dNeg, truB, dDef, sFor, sWhile, sPass, sBrk, sCnt, sRetN, addB, iB, allTB, reprB, lenB, dAndV, dOrV, dNotV, inB, eqB, isB, ixB, slB, nonB, Dd.allB, srtB, mm2B, nsB, ixDB, inDB, getB, hasB, dkB, dnB, nkB, noMut_nil, noMut_cons, okIn_str, any_str, sD, List.getElem?_cons_zero, List.getElem?_cons_succ, List.getElem?_nil, List.set_cons_zero, List.set_cons_succ, List.length_map, List.replicate_succ, List.replicate_zero, List.replicate, List.length_cons, List.length_nil, List.map_cons, List.map_nil, List.length_singleton, Nat.reduceAdd, Nat.reduceSub, Nat.add_one_sub_one, Nat.sub_self, Nat.add_zero, Nat.zero_add, if_true, if_false, Bool.false_eq_true, Option.some.injEq, true_and, and_true, ne_eq, reduceCtorEq, not_false_eq_true, implies_true, List.nodup_nil, List.nil_append, Bool.not_true, Bool.not_false, ite_true, ite_false]
  refine ⟨.inr ⟨shaped_sD (ok_ex hc.2.2 (ok_nc ho.2.2 m hm)), shaped_teams fun t ht => (gt.each t ht).2.2⟩, ?_⟩
  have e : ((ts.map sD).any fun z => PyData.eqv z (.tuple ((ex c p m).map PyData.str))) = isOne (ex c p m) ts := any_sD _ _
  simp only [e]
  exact h
abbrev s_all_exchange : Stmt := top 6
abbrev N_all_exchange : List Str := ["crews", "place"]
theorem sc_all_exchange : FnScope N_all_exchange ["crews"] (defScope s_all_exchange) := ⟨rfl, rfl, rfl, by decide +kernel, rfl, by decide +kernel, by decide +kernel⟩
abbrev Pl := (List Str × Nat) × (List Str × Nat) × Str
def pls (ts : List (List Str)) : List Pl := ts.zipIdx.flatMap fun x => ts.zipIdx.flatMap fun y => (nc y.1 x.1).map fun p => (x, y, p)
def encP (t : Pl) : PyData := plD t.1.2 t.2.1.2 t.2.2
def resP (ts : List (List Str)) (t : Pl) : PyData := .list ((farP ts t.1.1 t.2.1.1 t.2.2).map .str)
theorem places_enc (ts : List (List Str)) : places ts = (pls ts).map encP := by
  unfold places pls plF
  rw [List.map_flatMap]
  congr 1
  funext x
  rw [List.map_flatMap]
  congr 1
  funext y
  rw [List.map_map]
  rfl
theorem pls_mem {ts : List (List Str)} {t : Pl} (h : t ∈ pls ts) : t.1 ∈ ts.zipIdx ∧ t.2.1 ∈ ts.zipIdx ∧ t.2.2 ∈ nc t.2.1.1 t.1.1 := by
  unfold pls at h
  obtain ⟨x, hx, h⟩ := List.mem_flatMap.mp h
  obtain ⟨y, hy, h⟩ := List.mem_flatMap.mp h
  obtain ⟨p, hp, rfl⟩ := List.mem_map.mp h
  exact ⟨hx, hy, hp⟩
theorem zip_at {ts : List (List Str)} {x : List Str × Nat} (h : x ∈ ts.zipIdx) : ts[x.2]? = some x.1 := by
  obtain ⟨i, hi, e⟩ := List.mem_iff_getElem.mp h
  rw [List.getElem_zipIdx] at e
  subst e
  simp at hi
  simp [hi]
theorem truthy_res (ts : List (List Str)) (t : Pl) : PyData.truthy (resP ts t) = canEx ts t.1.1 t.2.2 t.2.1.1 := by
  unfold resP farP canEx
  rw [PyData.truthy]
  generalize nc t.1.1 t.2.1.1 = l
  induction l with
  | nil => rfl
  | cons m l ih =>
    rw [List.filter_cons, List.any_cons, ← ih]
    split
    · rename_i e
      rw [e]
      rfl
    · rename_i e
      rw [Bool.not_eq_true _ |>.mp e, Bool.false_or]
theorem zip_all (ts : List (List Str)) (q : List Str → Bool) : ts.zipIdx.all (fun x => q x.1) = ts.all q := by
  have h : (ts.zipIdx.map Prod.fst).all q = ts.all q := by rw [List.zipIdx_map_fst]
  rw [← h, List.all_map]
  rfl
theorem all_same (ts : List (List Str)) : ((pls ts).map (resP ts)).all PyData.truthy = (goodB ts).all id := by
  have e : (PyData.truthy ∘ resP ts) = fun t : Pl => canEx ts t.1.1 t.2.2 t.2.1.1 := funext fun t => truthy_res ts t
  rw [List.all_map, e]
  unfold pls goodB
  simp only [List.all_flatMap, List.all_map]
  exact (zip_all ts fun c => ts.zipIdx.all fun y => (nc y.1 c).all fun p => canEx ts c p y.1).trans (by
    congr 1
    funext c
    exact zip_all ts fun o => (nc o c).all fun p => canEx ts c p o)
theorem plain_strs : ∀ ns : List Str, PyData.plainAll (ns.map .str) = true
  | [] => rfl
  | n :: ns => by show PyData.plainAll (.str n :: ns.map .str) = true; rw [PyData.plainAll, plain_strs ns]; rfl
theorem noDict_strs : ∀ ns : List Str, PyData.hasDictAll (ns.map .str) = false
  | [] => rfl
  | n :: ns => by show PyData.hasDictAll (.str n :: ns.map .str) = false; rw [PyData.hasDictAll, noDict_strs ns]; rfl
theorem all_res (ts : List (List Str)) : ∀ l : List Pl, PyData.plainAll (l.map (resP ts)) = true ∧ PyData.hasDictAll (l.map (resP ts)) = false
  | [] => ⟨rfl, rfl⟩
  | t :: l => by
    obtain ⟨h1, h2⟩ := all_res ts l
    rw [List.map_cons]
    unfold resP at h1 h2 ⊢
    refine ⟨?_, ?_⟩
    · rw [PyData.plainAll, h1, PyData.plain, plain_strs]
      rfl
    · rw [PyData.hasDictAll, h2, PyData.hasDict, noDict_strs]
      rfl
def φ_all_exchange : Fnc := fun rs K => ∃ ts : List (List Str), rs = [.d (tT ts)] ∧ Gt ts ∧ K (.d (.bool ((goodB ts).all id))) []
theorem d_all_exchange {f : Addr} {fd : FuncData} {k : Nat} (F : Fun K "all_exchange" "all_exchange" s_all_exchange f fd) (B : Blt mg) (D_exchange_places : OwnD P w K mg base 2 "exchange_places" ["crews"] φ_exchange_places) (D_exchange_partners : OwnD P w K mg base 2 "exchange_partners" ["crews", "place"] φ_exchange_partners) : FnG P w K mg base (k + 3) f fd ["crews"] (spD ⟨P, K, w⟩ φ_all_exchange) := by
  refine Dd.FnG.mono (fn_D F sc_all_exchange (by decide) fun cdv A out s H E g hr => (dss_one (ds_ret (de_callB c_allT (by rfl) B.all (by decide +kernel) (da_cons (de_lc (own := [("place", 1)]) rfl sc_all_exchange.nd (di_seq (de_call D_exchange_places.G g (hr.mono (by omega)) rfl D_exchange_places.m D_exchange_places.kp D_exchange_places.b (da_cons (dv 0) da_nil))) (blkOk_by (own := [("place", 1)]) (N := N_all_exchange) (sc := defScope s_all_exchange) (by decide +kernel)) (fun _ _ _ _ _ => (dg_name (i := 1) sc_all_exchange.nd rfl (Or.inl rfl))) (fun _ _ _ _ _ => dts_nil) (fun _ _ _ _ _ => (de_call D_exchange_partners.G g (hr.mono (by omega)) rfl D_exchange_partners.m D_exchange_partners.kp D_exchange_partners.b (da_cons (dv 0) (da_cons (dv 1) da_nil))))) da_nil))))) fun rs K h => ?_
  obtain ⟨ts, rfl, gt, hk⟩ := h
  have hp : (pls ts).length ≤ 32768 := by
    have := flat_le 512 (fun x : List Str × Nat => ts.zipIdx.flatMap fun y => (nc y.1 x.1).map fun p => ((x, y, p) : Pl)) ts.zipIdx fun x hx => by
      have := flat_le 8 (fun y : List Str × Nat => (nc y.1 x.1).map fun p => ((x, y, p) : Pl)) ts.zipIdx fun y _ => by
        rw [List.length_map]
        exact Nat.le_trans (nc_le _ _) (gt.each _ (zip_mem hx)).2.1
      rw [List.length_zipIdx] at this
      have := gt.many
      omega
    rw [List.length_zipIdx] at this
    have := gt.many
    unfold pls
    omega
  simp only [dVar, dC, d2, dTb, gNm, gTp, gsCons, gsNil, okSlot, lk, lks, aNil, aCons, dCB, dTup, dLst, wds, allD, toD, dYes, sSeq, sNil, sRet, sSet, sExp, sIf, asg, wipeR, iSeq, seqK, lockAt, unl, bLast, initR, parsR, dF, seqB, lstB, datB, kyB, Dd.keyD, tupB, lisB, dNew, dSrtLn, dLc, dLcN, bFor, iEn, sPar, noS, asgL, dCallM, dCall, argsK, mutIx, backR, dDisp, dPs, onLs, isLs, dApp, dExt, dPopAt, dPop, sSetL, sSetD, isDk, onDk, sAsgT, iRange1, iRange2, dSl, oNone, oSome, dIf, dNot, dAnd, dOr, dTru, dNeg, truB, dDef, sFor, sWhile, sPass, sBrk, sCnt, sRetN, addB, iB, allTB, reprB, lenB, dAndV, dOrV, dNotV, inB, eqB, isB, ixB, slB, nonB, Dd.allB, srtB, mm2B, nsB, ixDB, inDB, getB, hasB, dkB, dnB, nkB, noMut_nil, noMut_cons, okIn_str, any_str, sD, List.getElem?_cons_zero, List.getElem?_cons_succ, List.getElem?_nil, List.set_cons_zero, List.set_cons_succ, List.length_map, List.replicate_succ, List.replicate_zero, List.replicate, List.length_cons, List.length_nil, List.map_cons, List.map_nil, List.length_singleton, Nat.reduceAdd, Nat.reduceSub, Nat.add_one_sub_one, Nat.sub_self, Nat.add_zero, Nat.zero_add, if_true, if_false, Bool.false_eq_true, Option.some.injEq, true_and, and_true, ne_eq, reduceCtorEq, not_false_eq_true, implies_true, List.nodup_nil, List.nil_append, Bool.not_true, Bool.not_false, ite_true, ite_false]
  refine ⟨ts, rfl, gt, ?_⟩
  simp only [dVar, dC, d2, dTb, gNm, gTp, gsCons, gsNil, okSlot, lk, lks, aNil, aCons, dCB, dTup, dLst, wds, allD, toD, dYes, sSeq, sNil, sRet, sSet, sExp, sIf, asg, wipeR, iSeq, seqK, lockAt, unl, bLast, initR, parsR, dF, seqB, lstB, datB, kyB, Dd.keyD, tupB, lisB, dNew, dSrtLn, dLc, dLcN, bFor, iEn, sPar, noS, asgL, dCallM, dCall, argsK, mutIx, backR, dDisp, dPs, onLs, isLs, dApp, dExt, dPopAt, dPop, sSetL, sSetD, isDk, onDk, sAsgT, iRange1, iRange2, dSl, oNone, oSome, dIf, dNot, dAnd, dOr, dTru, dNeg, truB, dDef, sFor, sWhile, sPass, sBrk, sCnt, sRetN, addB, iB, allTB, reprB, lenB, dAndV, dOrV, dNotV, inB, eqB, isB, ixB, slB, nonB, Dd.allB, srtB, mm2B, nsB, ixDB, inDB, getB, hasB, dkB, dnB, nkB, noMut_nil, noMut_cons, okIn_str, any_str, sD, List.getElem?_cons_zero, List.getElem?_cons_succ, List.getElem?_nil, List.set_cons_zero, List.set_cons_succ, List.length_map, List.replicate_succ, List.replicate_zero, List.replicate, List.length_cons, List.length_nil, List.map_cons, List.map_nil, List.length_singleton, Nat.reduceAdd, Nat.reduceSub, Nat.add_one_sub_one, Nat.sub_self, Nat.add_zero, Nat.zero_add, if_true, if_false, Bool.false_eq_true, Option.some.injEq, true_and, and_true, ne_eq, reduceCtorEq, not_false_eq_true, implies_true, List.nodup_nil, List.nil_append, Bool.not_true, Bool.not_false, ite_true, ite_false, places_enc]
  refine ⟨by omega, lcD_map encP (fun _ => true) (resP ts) (fun t ht Y N h => ?_) ?_⟩
  · obtain ⟨h1, h2, h3⟩ := pls_mem ht
    simp only [dVar, dC, d2, dTb, gNm, gTp, gsCons, gsNil, okSlot, lk, lks, aNil, aCons, dCB, dTup, dLst, wds, allD, toD, dYes, sSeq, sNil, sRet, sSet, sExp, sIf, asg, wipeR, iSeq, seqK, lockAt, unl, bLast, initR, parsR, dF, seqB, lstB, datB, kyB, Dd.keyD, tupB, lisB, dNew, dSrtLn, dLc, dLcN, bFor, iEn, sPar, noS, asgL, dCallM, dCall, argsK, mutIx, backR, dDisp, dPs, onLs, isLs, dApp, dExt, dPopAt, dPop, sSetL, sSetD, isDk, onDk, sAsgT, iRange1, iRange2, dSl, oNone, oSome, dIf, dNot, dAnd, dOr, dTru, dNeg, truB, dDef, sFor, sWhile, sPass, sBrk, sCnt, sRetN, addB, iB, allTB, reprB, lenB, dAndV, dOrV, dNotV, inB, eqB, isB, ixB, slB, nonB, Dd.allB, srtB, mm2B, nsB, ixDB, inDB, getB, hasB, dkB, dnB, nkB, noMut_nil, noMut_cons, okIn_str, any_str, sD, List.getElem?_cons_zero, List.getElem?_cons_succ, List.getElem?_nil, List.set_cons_zero, List.set_cons_succ, List.length_map, List.replicate_succ, List.replicate_zero, List.replicate, List.length_cons, List.length_nil, List.map_cons, List.map_nil, List.length_singleton, Nat.reduceAdd, Nat.reduceSub, Nat.add_one_sub_one, Nat.sub_self, Nat.add_zero, Nat.zero_add, if_true, if_false, Bool.false_eq_true, Option.some.injEq, true_and, and_true, ne_eq, reduceCtorEq, not_false_eq_true, implies_true, List.nodup_nil, List.nil_append, Bool.not_true, Bool.not_false, ite_true, ite_false]
    refine ⟨ts, _, _, t.1.1, t.2.1.1, t.2.2, rfl, gt, zip_at h1, zip_at h2, ok_nc (gt.each _ (zip_mem h1)).2.2 _ h3, ?_⟩
    simp only [dVar, dC, d2, dTb, gNm, gTp, gsCons, gsNil, okSlot, lk, lks, aNil, aCons, dCB, dTup, dLst, wds, allD, toD, dYes, sSeq, sNil, sRet, sSet, sExp, sIf, asg, wipeR, iSeq, seqK, lockAt, unl, bLast, initR, parsR, dF, seqB, lstB, datB, kyB, Dd.keyD, tupB, lisB, dNew, dSrtLn, dLc, dLcN, bFor, iEn, sPar, noS, asgL, dCallM, dCall, argsK, mutIx, backR, dDisp, dPs, onLs, isLs, dApp, dExt, dPopAt, dPop, sSetL, sSetD, isDk, onDk, sAsgT, iRange1, iRange2, dSl, oNone, oSome, dIf, dNot, dAnd, dOr, dTru, dNeg, truB, dDef, sFor, sWhile, sPass, sBrk, sCnt, sRetN, addB, iB, allTB, reprB, lenB, dAndV, dOrV, dNotV, inB, eqB, isB, ixB, slB, nonB, Dd.allB, srtB, mm2B, nsB, ixDB, inDB, getB, hasB, dkB, dnB, nkB, noMut_nil, noMut_cons, okIn_str, any_str, sD, List.getElem?_cons_zero, List.getElem?_cons_succ, List.getElem?_nil, List.set_cons_zero, List.set_cons_succ, List.length_map, List.replicate_succ, List.replicate_zero, List.replicate, List.length_cons, List.length_nil, List.map_cons, List.map_nil, List.length_singleton, Nat.reduceAdd, Nat.reduceSub, Nat.add_one_sub_one, Nat.sub_self, Nat.add_zero, Nat.zero_add, if_true, if_false, Bool.false_eq_true, Option.some.injEq, true_and, and_true, ne_eq, reduceCtorEq, not_false_eq_true, implies_true, List.nodup_nil, List.nil_append, Bool.not_true, Bool.not_false, ite_true, ite_false]
    exact h
  · simp only [dVar, dC, d2, dTb, gNm, gTp, gsCons, gsNil, okSlot, lk, lks, aNil, aCons, dCB, dTup, dLst, wds, allD, toD, dYes, sSeq, sNil, sRet, sSet, sExp, sIf, asg, wipeR, iSeq, seqK, lockAt, unl, bLast, initR, parsR, dF, seqB, lstB, datB, kyB, Dd.keyD, tupB, lisB, dNew, dSrtLn, dLc, dLcN, bFor, iEn, sPar, noS, asgL, dCallM, dCall, argsK, mutIx, backR, dDisp, dPs, onLs, isLs, dApp, dExt, dPopAt, dPop, sSetL, sSetD, isDk, onDk, sAsgT, iRange1, iRange2, dSl, oNone, oSome, dIf, dNot, dAnd, dOr, dTru, dNeg, truB, dDef, sFor, sWhile, sPass, sBrk, sCnt, sRetN, addB, iB, allTB, reprB, lenB, dAndV, dOrV, dNotV, inB, eqB, isB, ixB, slB, nonB, Dd.allB, srtB, mm2B, nsB, ixDB, inDB, getB, hasB, dkB, dnB, nkB, noMut_nil, noMut_cons, okIn_str, any_str, sD, List.getElem?_cons_zero, List.getElem?_cons_succ, List.getElem?_nil, List.set_cons_zero, List.set_cons_succ, List.length_map, List.replicate_succ, List.replicate_zero, List.replicate, List.length_cons, List.length_nil, List.map_cons, List.map_nil, List.length_singleton, Nat.reduceAdd, Nat.reduceSub, Nat.add_one_sub_one, Nat.sub_self, Nat.add_zero, Nat.zero_add, if_true, if_false, Bool.false_eq_true, Option.some.injEq, true_and, and_true, ne_eq, reduceCtorEq, not_false_eq_true, implies_true, List.nodup_nil, List.nil_append, Bool.not_true, Bool.not_false, ite_true, ite_false]
    have e : (pls ts).filter (fun _ => true) = pls ts := List.filter_eq_self.mpr fun _ _ => rfl
    simp only [e]
    obtain ⟨p1, p2⟩ := all_res ts (pls ts)
    refine ⟨⟨p1, p2, fun x hx => ?_⟩, ?_⟩
    · obtain ⟨t, ht, rfl⟩ := List.mem_map.mp hx
      obtain ⟨h1, h2, h3⟩ := pls_mem ht
      have := (gt.each _ (zip_mem h2)).2.1
      have l1 : (farP ts t.1.1 t.2.1.1 t.2.2).length ≤ t.2.1.1.length := Nat.le_trans (List.length_filter_le _ _) (nc_le _ _)
      unfold resP PyData.fits63
      simp only [List.length_map]
      omega
    · rw [all_same]
      exact hk
abbrev s_is_good : Stmt := top 8
abbrev N_is_good : List Str := ["crews"]
theorem sc_is_good : FnScope N_is_good ["crews"] (defScope s_is_good) := ⟨rfl, rfl, rfl, by decide +kernel, rfl, by decide +kernel, by decide +kernel⟩

theorem d_is_good {f : Addr} {fd : FuncData} {k : Nat} (F : Fun K "is_good" "is_good" s_is_good f fd)  (D_all_exchange : OwnD P w K mg base 3 "all_exchange" ["crews"] φ_all_exchange) : FnG P w K mg base (k + 4) f fd ["crews"] (spD ⟨P, K, w⟩ φ_all_exchange) := by
  refine Dd.FnG.mono (fn_D F sc_is_good (by decide) fun cdv A out s H E g hr => (dss_one (ds_ret (de_call D_all_exchange.G g (hr.mono (by omega)) rfl D_all_exchange.m D_all_exchange.kp D_all_exchange.b (da_cons (dv 0) da_nil))))) fun rs K h => ?_
  obtain ⟨ts, rfl, gt, hk⟩ := h
  simp only [dVar, dC, d2, dTb, gNm, gTp, gsCons, gsNil, okSlot, lk, lks, aNil, aCons, dCB, dTup, dLst, wds, allD, toD, dYes, sSeq, sNil, sRet, sSet, sExp, sIf, asg, wipeR, iSeq, seqK, lockAt, unl, bLast, initR, parsR, dF, seqB, lstB, datB, kyB, Dd.keyD, tupB, lisB, dNew, dSrtLn, dLc, dLcN, bFor, iEn, sPar, noS, asgL, dCallM, dCall, argsK, mutIx, backR, dDisp, dPs, onLs, isLs, dApp, dExt, dPopAt, dPop, sSetL, sSetD, isDk, onDk, sAsgT, iRange1, iRange2, dSl, oNone, oSome, dIf, dNot, dAnd, dOr, dTru, dNeg, truB, dDef, sFor, sWhile, sPass, sBrk, sCnt, sRetN, addB, iB, allTB, reprB, lenB, dAndV, dOrV, dNotV, inB, eqB, isB, ixB, slB, nonB, Dd.allB, srtB, mm2B, nsB, ixDB, inDB, getB, hasB, dkB, dnB, nkB, noMut_nil, noMut_cons, okIn_str, any_str, sD, List.getElem?_cons_zero, List.getElem?_cons_succ, List.getElem?_nil, List.set_cons_zero, List.set_cons_succ, List.length_map, List.replicate_succ, List.replicate_zero, List.replicate, List.length_cons, List.length_nil, List.map_cons, List.map_nil, List.length_singleton, Nat.reduceAdd, Nat.reduceSub, Nat.add_one_sub_one, Nat.sub_self, Nat.add_zero, Nat.zero_add, if_true, if_false, Bool.false_eq_true, Option.some.injEq, true_and, and_true, ne_eq, reduceCtorEq, not_false_eq_true, implies_true, List.nodup_nil, List.nil_append, Bool.not_true, Bool.not_false, ite_true, ite_false]
  exact ⟨ts, rfl, gt, hk⟩
end
end K49

/-! From data back to the law's words. -/
namespace K49
open PySem PySem.Spec PyProof.Rows L2 PySem.W Cb
structure OwnG (P : Program) (w : World) (K : Frag) (mg : Str → Option Value) (base : Heap) (k : Nat) (x : Str) (ps : List Str) (sp : Sp) where
  f : Addr
  fd : FuncData
  G : FnG P w K mg base k f fd ps sp
  m : mg x = some (.ref f)
  kp : keepIn K (.ref f) = true
  b : Binds K fd ps []
section
variable {P : Program} {w : World} {K : Frag} {mg : Str → Option Value} {base : Heap} {Z : Dd.Zz} {H : Hp}
theorem is_S1 {v : V} {ns : List Str} (h : S1 Z.K H v ns) : Dd.Is Z H v (sD ns) := by
  obtain ⟨a, rfl, h⟩ := h
  exact .tup h (Dd.isStrs ns)
theorem is_prd {vs : List V} {ts : List (List Str)} (h : Paired (S1 Z.K H) vs ts) : Dd.IsAll Z H vs (ts.map sD) := by
  induction h with
  | nil => exact .nil
  | cons r _ ih => exact .cons (is_S1 r) ih
theorem is_S2 {v : V} {ts : List (List Str)} (h : S2 Z.K H v ts) : Dd.Is Z H v (tT ts) := by
  obtain ⟨a, xs, rfl, h, p⟩ := h
  exact .tup h (is_prd p)
theorem good_old {k : Nat} {f : Addr} {fd : FuncData} (F : FnG P w K mg base k f fd ["crews"] (Dd.spD ⟨P, K, w⟩ φ_all_exchange)) : FnG P w K mg base k f fd ["crews"] (sp_good K) := by
  refine ⟨fun vs H Q E h => ?_, fun A out s H ar us vs Q E g hr e0 hb r h => F.go A out s H ar us vs Q E g hr e0 hb r ?_⟩
  · obtain ⟨_, _, rfl, _⟩ := h
    rfl
  · obtain ⟨x, ts, rfl, h2, gt, q⟩ := h
    have h0 : Same H (Dd.hide (fun _ => False) H) := fun b o e => by rw [Dd.hide_out (fun z => z)]; exact e
    refine ⟨fun _ => False, [.d (tT ts)], fun r _ => r = .d (.bool ((goodB ts).all id)), fun _ z => z.elim, ⟨(is_S2 (Z := ⟨P, K, w⟩) h2).to h0, trivial⟩, ?_, ⟨ts, rfl, gt, rfl⟩, fun r ms v H' e f => ?_⟩
    · have e : Dd.tmpOf [x] [Dd.RV.d (tT ts)] = [] := Dd.tmp_data (vs := [x]) (ds := [tT ts])
      rw [e]
      exact List.nodup_nil
    · subst e
      have ret : Dd.Is ⟨P, K, w⟩ (Dd.hide (fun _ => False) H') v (.bool ((goodB ts).all id)) := f.ret
      generalize (goodB ts).all id = c at ret q
      cases ret
      refine q H' fun b o e => f.keep b o ?_ e
      have e : Dd.tmpOf [x] [Dd.RV.d (tT ts)] = [] := Dd.tmp_data (vs := [x]) (ds := [tT ts])
      rw [e]
      exact fun z => by cases z
end
section
variable {X : Cx} {k : Nat} {f : Addr} {fd : FuncData} {sp : Sp} {x y : Str} {p pos : Pos} {kws : List Keyword} {tk : TA}
/-- f(y=e) -/
theorem pe_callG1 (F : FnG X.prog X.w X.K X.mg X.base k f fd [y] sp) (g : Gu X.A) (hr : Room k X.A) (hg : Gl X x) (hm : X.mg x = some (.ref f)) (hk : keepIn X.K (.ref f) = true) (hb : ∀ (s : Shared) (u : Value), BindsTo s fd ⟨[], [(y, u)]⟩ [(y, u)]) (hkw : PK X kws tk)
    (hall : (backToKw pos (keywordEach kws X.env)).all (·.1.isSome) = true := by rfl) (hks : (backToKw pos (keywordEach kws X.env)).filterMap (·.1) = [y] := by rfl) (hdb : (x == ("__debug__" : Str)) = false := by decide)
    (hpl : ((backTo pos (starEach [] X.env)).any (·.1) || (backToKw pos (keywordEach kws X.env)).any (·.1.isNone)) = false := by rfl) :
    PE X (.Call (.Name x p) [] kws pos) (tCall sp [] E0 tk) := by
  refine ⟨fun pins s σ H Q I h => wpAny_Call_Name_kw (ld_glob I hg hm ?_ hdb)⟩
  refine PySem.W.callWith_KW0 (h₀ := X.base) I.ok.mod.kin hk hall (thn (hkw.run pos pins s σ H _ I h) fun ws s2 ⟨zs, H2, I2, rz, q2⟩ => ⟨I2.kIn, ?_⟩) hpl
  rw [hks]
  have q3 : sp (zs ++ []) H2 Q E0 := q2
  rw [List.append_nil] at q3
  have hl := F.ln _ _ _ _ q3
  have hl2 := rz.length
  obtain ⟨u, rfl⟩ : ∃ u, ws = [u] := by
    match ws, hl2 with
    | [], e => rw [hl] at e; simp at e
    | [u], _ => exact ⟨u, rfl⟩
    | _ :: _ :: _, e => rw [hl] at e; simp at e
  exact Dd.runM (ar := ⟨[], [(y, u)]⟩) (us := [u]) F g hr I2 (hb s2 u) rz q3
end
end K49

namespace K49
open PySem PySem.Spec PyProof.Rows L2 PySem.W Cb Evl
section
variable {P : Program} {w : World} {K : Frag} {mg : Str → Option Value} {base : Heap}
abbrev s_many : Stmt := top 20
theorem sc_many : FnScope ["_law_rng", "_law_most"] ["_law_rng", "_law_most"] (defScope s_many) := ⟨rfl, rfl, rfl, by decide +kernel, rfl, by decide +kernel, by decide +kernel⟩
def sp_many (K : Frag) : Sp := fun vs H Q _ => ∃ (r c : Addr) (d : Int), vs = [.ref r, .int 5] ∧ d ≤ 900000 ∧ Rng H r c d ∧ ∀ v ts H', Ch r H H' → Rng H' r c (d + 1010) → S2 K H' v ts → Gt ts → ts ≠ [] → Q v H'
theorem ok_many {f : Addr} {fd : FuncData} {k : Nat} (F : Fun K "_law_make_any" "_law_make_any" s_many f fd) (D__law_draw : Own P w K mg base 1 "_law_draw" ["_law_rng", "_law_limit"] sp_draw) (D__law_make_good : Own P w K mg base 3 "_law_make_good" ["_law_rng", "_law_most"] (sp_made 2 5 K))
    (D__law_make_teams : Own P w K mg base 3 "_law_make_teams" ["_law_rng", "_law_most"] (sp_made 3 5 K)) : FnOk P w K mg base CX0 (k + 4) f fd ["_law_rng", "_law_most"] (sp_many K) := by
  refine F.ok sc_many (fun vs H Q E h => ?_) (fun cdv A outer s H vs Q E hr h => ?_)
  · obtain ⟨_, _, _, rfl, _⟩ := h
    rfl
  · obtain ⟨r, c, d, rfl, hd, hR, q⟩ := h
    have hr1 : Room 1 _ := hr.mono (by omega)
    have hr3 : Room 3 _ := hr.mono (by omega)
    refine ⟨_, (pss_cons (ps_if (pt_cmpR op_eq (pe_call D__law_draw.G hr1 rfl D__law_draw.m D__law_draw.kp D__law_draw.b .nil pass0 (pa_cons (pv 0) (pa_cons pe_int pa_nil))) pe_int (nomark _)) (pss_one (ps_ret (pe_call D__law_make_good.G hr3 rfl D__law_make_good.m D__law_make_good.kp D__law_make_good.b .nil pass0 (pa_cons (pv 0) (pa_cons (pe_op op_add pe_int (pe_call D__law_draw.G hr1 rfl D__law_draw.m D__law_draw.kp D__law_draw.b .nil pass0 (pa_cons (pv 0) (pa_cons (pe_op op_sub (pv 1) pe_int) pa_nil)))) pa_nil))))) pss_nil)
      (pss_one (ps_ret (pe_call D__law_make_teams.G hr3 rfl D__law_make_teams.m D__law_make_teams.kp D__law_make_teams.b .nil pass0 (pa_cons (pv 0) (pa_cons (pv 1) pa_nil)))))), ?_⟩
    refine ⟨_, rfl, r, c, 3, d, rfl, by decide, by decide, by omega, hR, fun z H1 c1 g1 z0 z1 => ⟨rfl, _, rfl, ite2 (fun _ => ?_) (fun _ => ?_)⟩⟩
    · refine ⟨_, rfl, _, rfl, _, rfl, _, _, rfl, rfl, r, c, 5 - 1, d + 1, rfl, by decide, by decide, by omega, g1, fun z2 H2 c2 g2 z20 z21 => ⟨_, _, rfl, rfl, r, c, 2 + z2, d + 1 + 1, rfl, by omega, by omega, by omega, g2, fun v ts H3 c3 g3 h3 gt ne => ?_⟩⟩
      exact q v ts H3 ((c1.trans c2).trans c3) (g3.le (by omega)) h3 gt ne
    · refine ⟨_, rfl, _, rfl, r, c, 5, d + 1, rfl, by decide, by decide, by omega, g1, fun v ts H3 c3 g3 h3 gt ne => ?_⟩
      exact q v ts H3 (c1.trans c3) (g3.le (by omega)) h3 gt ne
/-! ### the law -/
abbrev s_law : Stmt := top 21
abbrev N_law : List Str := ["_law_script", "_law_rng", "_law_lap", "_law_teams", "_law_spot", "_law_some", "_law_before", "_law_want"]
theorem sc_law : FnScope N_law ["_law_script"] (defScope s_law) := ⟨rfl, rfl, rfl, by decide +kernel, rfl, by decide +kernel, by decide +kernel⟩
def sp_law (K : Frag) : Sp := fun vs H Q _ => ∃ (a : Addr) (ns : List Int), vs = [.ref a] ∧ SqL K H a (ns.map V.int) ∧ ∀ H', Q (.bl true) H'
def tf (b : Bool) : Str := if b then "True" else "False"
theorem tf_ok (b : Bool) : okS (tf b) := by
  have h : (PyData.strOk (tf b) && decide ((reprText (tf b)).length ≤ 20)) = true := by cases b <;> decide +kernel
  simp only [Bool.and_eq_true, decide_eq_true_eq] at h
  exact h
theorem ok_law {f : Addr} {fd : FuncData} (F : Fun K "law" "law" s_law f fd) (B : Blt mg) (D_is_good : OwnG P w K mg base 4 "is_good" ["crews"] (sp_good K)) (bk : ∀ (s : Shared) (u : Value), BindsTo s D_is_good.fd ⟨[], [("crews", u)]⟩ [("crews", u)])
    (D__law_source : Own P w K mg base 1 "_law_source" ["_law_script"] (sp_source K)) (D__law_draw : Own P w K mg base 1 "_law_draw" ["_law_rng", "_law_limit"] sp_draw)
    (D__law_make_any : Own P w K mg base 4 "_law_make_any" ["_law_rng", "_law_most"] (sp_many K)) (D__law_is_good : Own P w K mg base 3 "_law_is_good" ["_law_teams"] (sp_good K)) : FnG P w K mg base 5 f fd ["_law_script"] (sp_law K) := by
  refine fnG_mk F sc_law (fun vs H Q E h => ?_) (fun cdv A outer s H vs Q E g hr h => ?_)
  · obtain ⟨_, _, rfl, _⟩ := h
    rfl
  · obtain ⟨a, ns, rfl, ha, q⟩ := h
    have hr1 : Room 1 _ := hr.mono (by omega)
    have hr3 : Room 3 _ := hr.mono (by omega)
    have g2 : Gu (A.deeper (envOfC "law" (defScope s_law) s.heap.objs.size f cdv)) := g
    refine ⟨_, (pss_cons (ps_set (i := 1) sc_law.nd rfl (Or.inl rfl) (pe_call D__law_source.G hr1 rfl D__law_source.m D__law_source.kp D__law_source.b .nil pass0 (pa_cons (pv 0) pa_nil)))
      (pss_cons (ps_for PassesOwn.never rfl (pi_range1 rfl B.range (pa_cons pe_int pa_nil)) (pg_name (i := 2) sc_law.nd rfl (Or.inl rfl))
      (pss_cons (ps_set (i := 3) sc_law.nd rfl (Or.inl rfl) (pe_call D__law_make_any.G hr rfl D__law_make_any.m D__law_make_any.kp D__law_make_any.b .nil pass0 (pa_cons (pv 1) (pa_cons pe_int pa_nil))))
      (pss_cons (ps_set (i := 4) sc_law.nd rfl (Or.inl rfl) (pe_call D__law_draw.G hr1 rfl D__law_draw.m D__law_draw.kp D__law_draw.b .nil pass0 (pa_cons (pv 1) (pa_cons (pe_callB (c_len K) (by rfl) B.len (by decide +kernel) (pa_cons (pv 3) pa_nil)) pa_nil))))
      (pss_one (ps_for PassesOwn.never rfl (p_tup K (pe_tup (pa_cons (pv 3) (pa_cons (pe_op (o_catA K) (pe_slice (s_tupA K) (pv 3) po_none (po_some (pv 4))) (pe_slice (s_tupA K) (pv 3) (po_some (pe_op op_add (pv 4) pe_int)) po_none)) (pa_cons (pe_slice (s_tupA K) (pv 3) po_none (po_some pe_int)) pa_nil))))) (pg_name (i := 5) sc_law.nd rfl (Or.inl rfl))
      (pss_one (ps_if (pt_cmpR (o_neD K hr.units) (pv 5) (pe_tup pa_nil) (nomark _)) (pss_cons (ps_par (by rfl) sc_law.nd (i := 6) (j := 7) rfl rfl (by decide) rfl rfl (pa_cons (pe_callB (c_repr K hr.units g2) (by rfl) B.repr (by decide +kernel) (pa_cons (pv 5) pa_nil)) (pa_cons (pe_callB cr_reprB (by rfl) B.repr (by decide +kernel) (pa_cons (pe_call D__law_is_good.G hr3 rfl D__law_is_good.m D__law_is_good.kp D__law_is_good.b .nil pass0 (pa_cons (pv 5) pa_nil)) pa_nil)) pa_nil)) (by rfl))
      (pss_one (ps_if (PW.pt (pw_or (pt_cmpR (o_neD K hr.units) (pe_lst (pa_cons (pe_callB cr_reprB (by rfl) B.repr (by decide +kernel) (pa_cons (pe_callG D_is_good.G g2 hr rfl D_is_good.m D_is_good.kp D_is_good.b (pa_cons (pv 5) pa_nil)) pa_nil)) (pa_cons (pe_callB cr_reprB (by rfl) B.repr (by decide +kernel) (pa_cons (pe_callG1 D_is_good.G g2 hr rfl D_is_good.m D_is_good.kp bk (pk_cons (pv 5) pk_nil)) pa_nil)) pa_nil))) (pe_lst (pa_cons (pv 7) (pa_cons (pv 7) pa_nil))) (nomark _)) (pw_or1 (pt_cmpR op_ne (pe_callB (c_repr K hr.units g2) (by rfl) B.repr (by decide +kernel) (pa_cons (pv 5) pa_nil)) (pv 6) (nomark _))))) (pss_one (ps_ret pe_bl)) pss_nil))) pss_nil)))))))
      (pss_one (ps_ret pe_bl)))), ?_⟩
    refine sq_set ⟨_, rfl, a, ns, rfl, ha, fun r c H1 s1 hR => ?_⟩
    refine sq_for ?_
    refine ⟨8, rfl, by decide, by decide, ?_⟩
    refine for_range (lo := 0) (n := (8 : Int).toNat) (fun i σ' H' => ∃ (v2 v3 v4 v5 v6 v7 : Option V), σ' = [some (.ref a), some (.ref r), v2, v3, v4, v5, v6, v7] ∧ Rng H' r c (2000 * i)) ⟨none, none, none, none, none, none, rfl, hR.le (by omega)⟩ (fun i σ' H2 hi z => ?_) fun σ' H2 z => ?_
    · obtain ⟨v2, v3, v4, v5, v6, v7, rfl, hR2⟩ := z
      have hi8 : i < 8 := by omega
      -- teams
      refine sq_set ⟨_, rfl, r, c, 2000 * i, rfl, by omega, hR2, fun x ts H3 c3 g3 h3 gt ne => ?_⟩
      have gm := gt.many
      obtain ⟨b, xs, rfl, hb, hp⟩ := h3
      have h3 : S2 K H3 (.ref b) ts := ⟨b, xs, rfl, hb, hp⟩
      have hxl := prd_len hp
      have hx0 : 0 < ts.length := List.length_pos_iff.mpr ne
      -- spot
      refine sq_set ⟨_, rfl, _, rfl, b, _, rfl, .inr hb, r, c, _, 2000 * i + 1010, rfl, by omega, by omega, by omega, g3, fun z H4 c4 g4 z0 z1 => ?_⟩
      obtain ⟨sp, rfl⟩ : ∃ j : Nat, z = (j : Int) := ⟨z.toNat, by omega⟩
      have h4 : S2 K H4 (.ref b) ts := c4.s2 h3
      -- the three
      refine ⟨_, rfl, _, rfl, _, rfl, _, rfl, slA_teams h4 fun x5 H5 t5 s5 h5 l5 m5 => ?_⟩
      refine ⟨_, rfl, _, rfl, _, _, rfl, rfl, (sp : Int) + 1, rfl, ?_⟩
      unfold tNoPart
      show rSlA K (.ref b) (some ((sp : Int) + 1)) none H5 _
      refine slA_teams (h4.same s5) fun x6 H6 t6 s6 h6 l6 m6 => ?_
      have e5 : t5.length ≤ sp := by
        rw [HT.sIx_nat, HT.sIx_none] at l5
        omega
      have e6 : t6.length ≤ ts.length - (sp + 1) := by
        rw [show (sp : Int) + 1 = ((sp + 1 : Nat) : Int) by omega, HT.sIx_nat, HT.sIx_none] at l6
        omega
      refine cat_teams (h5.same s6) h6 (by omega) fun x7 H7 s7 h7 => ?_
      have h47 : S2 K H7 (.ref b) ts := ((h4.same s5).same s6).same s7
      refine ⟨_, rfl, 1, rfl, ?_⟩
      show rSlA K (.ref b) none (some 1) H7 _
      refine slA_teams h47 fun x8 H8 t8 s8 h8 l8 m8 => ?_
      have e8 : t8.length ≤ ts.length := by
        have := HT.sIx_le ts.length ts.length (Nat.le_refl _) (some 1)
        omega
      refine ⟨(by decide : 3 ≤ sizeLine), fun p np => ?_⟩
      have sA : Same H4 (upd H8 p (.tup [.ref b, x7, x8])) := (((s5.trans s6).trans s7).trans s8).trans (same_upd np)
      have G7 : Gt (t5 ++ t6) := ⟨by rw [List.length_append]; omega, fun t ht => gt.each t (by
        rcases List.mem_append.mp ht with ht | ht
        · exact m5 t ht
        · exact m6 t ht)⟩
      have G8 : Gt t8 := ⟨by omega, fun t ht => gt.each t (m8 t ht)⟩
      have it : ∀ (i : Nat) (x : V), [V.ref b, x7, x8][i]? = some x → ∃ us, S2 K (upd H8 p (.tup [.ref b, x7, x8])) x us ∧ Gt us := fun i x hx => by
        have hm := List.mem_of_getElem? hx
        simp only [List.mem_cons, List.not_mem_nil, or_false] at hm
        rcases hm with rfl | rfl | rfl
        · exact ⟨ts, (h47.same s8).same (same_upd np), gt⟩
        · exact ⟨_, (h7.same s8).same (same_upd np), G7⟩
        · exact ⟨_, h8.same (same_upd np), G8⟩
      have hpT : SqT K (upd H8 p (.tup [.ref b, x7, x8])) p [.ref b, x7, x8] := st_ upd_same
      have gA : Rng (upd H8 p (.tup [.ref b, x7, x8])) r c (2000 * i + 1010 + 1) := g4.same sA
      generalize upd H8 p (.tup [.ref b, x7, x8]) = HA at it hpT gA
      refine ⟨p, rfl, ⟨_, hpT⟩, for_tup (xs := [V.ref b, x7, x8]) (fun j σ' H' => ∃ (v5 v6 v7 : Option V), σ' = [some (.ref a), some (.ref r), some (.int (0 + i)), some (.ref b), some (.int sp), v5, v6, v7] ∧ Same HA H') ⟨v5, v6, v7, rfl, Same.refl _⟩ (fun j σ' H' _ z => sameT z.choose_spec.choose_spec.choose_spec.2 hpT) (fun j x σ' H' hj z => ?_) fun σ' H' z => ?_⟩
      · obtain ⟨v5, v6, v7, rfl, sB⟩ := z
        obtain ⟨us, hx, gu⟩ := it j x hj
        have hx := hx.same sB
        obtain ⟨y, zs, rfl, hy, hzs⟩ := hx
        have hx : S2 K H' (.ref y) us := ⟨y, zs, rfl, hy, hzs⟩
        have oku : ∀ t ∈ us, ∀ n ∈ t, okS n := fun t ht => (gu.each t ht).2.2
        have oku8 : ∀ t ∈ us, t.length ≤ 8 ∧ ∀ n ∈ t, okS n := fun t ht => (gu.each t ht).2
        have many : us.length ≤ 1000 := by
          have := gu.many
          omega
        refine ⟨_, rfl, Nat.zero_le _, fun p9 np9 => ⟨tD us, .tuple [], (hx.same (same_upd np9)).dp, .tup (st_ upd_same) .nil, shaped_tD oku, shaped_nilT, _, rfl, ite2 (fun _ => ?_) (fun _ => ⟨_, _, _, rfl, sB.trans (same_upd np9)⟩)⟩⟩
        have sC := sB.trans (same_upd (o := .tup []) np9)
        have hC := hx.same (same_upd (o := .tup []) np9)
        generalize upd H' p9 (.tup []) = HC at sC hC
        -- before, want
        refine sq_par ⟨_, rfl, ?_⟩
        unfold tNil
        show rRepr K [.ref y] HC _
        refine repr_teams hC oku8 many ?_
        refine ⟨_, rfl, _, us, rfl, hC, gu, fun HD sD' => ⟨_, rfl, _, _, rfl, ?_⟩⟩
        have hD := hC.same sD'
        refine ⟨_, rfl, _, us, rfl, hD, gu, fun HE sE => ⟨_, rfl, _, rfl, _, us, rfl, hD.same sE, gu, fun HF sF => ⟨_, rfl, (by decide : 2 ≤ sizeLine), fun l1 nl1 => ⟨_, rfl, _, rfl, (by decide : 2 ≤ sizeLine), fun l2 nl2 => ?_⟩⟩⟩⟩
        generalize hb0 : (goodB us).all id = b0 at nl1 nl2
        have okt : ∀ n ∈ [tf b0, tf b0], okS n := fun n hn => by
          simp only [List.mem_cons, List.not_mem_nil, or_false, or_self] at hn
          rw [hn]
          exact tf_ok b0
        have heq : PyData.eqv (.list ([tf b0, tf b0].map .str)) (.list ([tf b0, tf b0].map .str)) = true := by
          rw [PyData.eqv, eqv_strs]
          simp
        have sG := ((sE.trans sF).trans (same_upd (o := .lst [V.str (tf b0), V.str (tf b0)]) nl1)).trans (same_upd (o := .lst [V.str (tf b0), V.str (tf b0)]) nl2)
        have hG := hD.same sG
        refine ⟨.list ([tf b0, tf b0].map .str), .list ([tf b0, tf b0].map .str), .lst (sl_ (same_upd nl2 _ _ upd_same)) (dpStrs [tf b0, tf b0]), .lst (sl_ upd_same) (dpStrs [tf b0, tf b0]), shaped_strs okt, shaped_strs okt, _, rfl, ?_⟩
        rw [heq]
        refine ite2 (fun h => absurd h (by simp)) fun _ => ?_
        refine ⟨_, rfl, ?_⟩
        show rRepr K [.ref y] _ _
        refine repr_teams hG oku8 many ?_
        refine ⟨_, rfl, rfl, _, rfl, ?_⟩
        refine ite2 (fun h => absurd h (by simp)) fun _ => ?_
        exact ⟨_, _, _, rfl, (sC.trans sD').trans sG⟩
      · obtain ⟨v5, v6, v7, rfl, sB⟩ := z
        exact ⟨_, _, _, _, _, _, rfl, (gA.same sB).le (by omega)⟩
    · exact q H2
end
end K49

namespace K49
open PySem PySem.Spec PyProof.Rows L2 PySem.W Cb Evl
theorem all_mk {P : Program} {w : World} {K : Frag} {h : Heap} {mg : Str → Option Value} {fa : Addr} (X : K.In h) (G : h.Ns mainGlobals mg) (hfa : mg "law" = some (.ref fa))
    {od0 an0 : Option Addr} {sl0 : Array (Option Value)} {oc0 kV0 dc0 pm0 cd0 ct0 : Value} {f0 : Addr}
    (a0 : nsIn K mainGlobals "newcomers" = some (some (.ref f0))) (l0 : K.lookup f0 = some ⟨oc0, od0, .func (fnOf "newcomers" "newcomers" (defArgs s_newcomers) (defBody s_newcomers) (defScope s_newcomers) .none kV0 dc0 pm0 an0 cd0 ct0), sl0⟩) (c0 : codeIn K cd0 "newcomers" = true) (k0 : keepIn K (.ref f0) = true)
    {od1 an1 : Option Addr} {sl1 : Array (Option Value)} {oc1 kV1 dc1 pm1 cd1 ct1 : Value} {f1 : Addr}
    (a1 : nsIn K mainGlobals "exchanged" = some (some (.ref f1))) (l1 : K.lookup f1 = some ⟨oc1, od1, .func (fnOf "exchanged" "exchanged" (defArgs s_exchanged) (defBody s_exchanged) (defScope s_exchanged) .none kV1 dc1 pm1 an1 cd1 ct1), sl1⟩) (c1 : codeIn K cd1 "exchanged" = true) (k1 : keepIn K (.ref f1) = true)
    {od2 an2 : Option Addr} {sl2 : Array (Option Value)} {oc2 kV2 dc2 pm2 cd2 ct2 : Value} {f2 : Addr}
    (a2 : nsIn K mainGlobals "exchange_places" = some (some (.ref f2))) (l2 : K.lookup f2 = some ⟨oc2, od2, .func (fnOf "exchange_places" "exchange_places" (defArgs s_exchange_places) (defBody s_exchange_places) (defScope s_exchange_places) .none kV2 dc2 pm2 an2 cd2 ct2), sl2⟩) (c2 : codeIn K cd2 "exchange_places" = true) (k2 : keepIn K (.ref f2) = true)
    {od3 an3 : Option Addr} {sl3 : Array (Option Value)} {oc3 kV3 dc3 pm3 cd3 ct3 : Value} {f3 : Addr}
    (a3 : nsIn K mainGlobals "exchange_partners" = some (some (.ref f3))) (l3 : K.lookup f3 = some ⟨oc3, od3, .func (fnOf "exchange_partners" "exchange_partners" (defArgs s_exchange_partners) (defBody s_exchange_partners) (defScope s_exchange_partners) .none kV3 dc3 pm3 an3 cd3 ct3), sl3⟩) (c3 : codeIn K cd3 "exchange_partners" = true) (k3 : keepIn K (.ref f3) = true)
    {od4 an4 : Option Addr} {sl4 : Array (Option Value)} {oc4 kV4 dc4 pm4 cd4 ct4 : Value} {f4 : Addr}
    (a4 : nsIn K mainGlobals "all_exchange" = some (some (.ref f4))) (l4 : K.lookup f4 = some ⟨oc4, od4, .func (fnOf "all_exchange" "all_exchange" (defArgs s_all_exchange) (defBody s_all_exchange) (defScope s_all_exchange) .none kV4 dc4 pm4 an4 cd4 ct4), sl4⟩) (c4 : codeIn K cd4 "all_exchange" = true) (k4 : keepIn K (.ref f4) = true)
    {od5 an5 : Option Addr} {sl5 : Array (Option Value)} {oc5 kV5 dc5 pm5 cd5 ct5 : Value} {f5 : Addr}
    (a5 : nsIn K mainGlobals "is_good" = some (some (.ref f5))) (l5 : K.lookup f5 = some ⟨oc5, od5, .func (fnOf "is_good" "is_good" (defArgs s_is_good) (defBody s_is_good) (defScope s_is_good) .none kV5 dc5 pm5 an5 cd5 ct5), sl5⟩) (c5 : codeIn K cd5 "is_good" = true) (k5 : keepIn K (.ref f5) = true)
    {od6 an6 : Option Addr} {sl6 : Array (Option Value)} {oc6 kV6 dc6 pm6 cd6 ct6 : Value} {f6 : Addr}
    (a6 : nsIn K mainGlobals "_law_source" = some (some (.ref f6))) (l6 : K.lookup f6 = some ⟨oc6, od6, .func (fnOf "_law_source" "_law_source" (defArgs s_source) (defBody s_source) (defScope s_source) .none kV6 dc6 pm6 an6 cd6 ct6), sl6⟩) (c6 : codeIn K cd6 "_law_source" = true) (k6 : keepIn K (.ref f6) = true)
    {od7 an7 : Option Addr} {sl7 : Array (Option Value)} {oc7 kV7 dc7 pm7 cd7 ct7 : Value} {f7 : Addr}
    (a7 : nsIn K mainGlobals "_law_draw" = some (some (.ref f7))) (l7 : K.lookup f7 = some ⟨oc7, od7, .func (fnOf "_law_draw" "_law_draw" (defArgs s_draw) (defBody s_draw) (defScope s_draw) .none kV7 dc7 pm7 an7 cd7 ct7), sl7⟩) (c7 : codeIn K cd7 "_law_draw" = true) (k7 : keepIn K (.ref f7) = true)
    {od8 an8 : Option Addr} {sl8 : Array (Option Value)} {oc8 kV8 dc8 pm8 cd8 ct8 : Value} {f8 : Addr}
    (a8 : nsIn K mainGlobals "_law_sample" = some (some (.ref f8))) (l8 : K.lookup f8 = some ⟨oc8, od8, .func (fnOf "_law_sample" "_law_sample" (defArgs s_sample) (defBody s_sample) (defScope s_sample) .none kV8 dc8 pm8 an8 cd8 ct8), sl8⟩) (c8 : codeIn K cd8 "_law_sample" = true) (k8 : keepIn K (.ref f8) = true)
    {od9 an9 : Option Addr} {sl9 : Array (Option Value)} {oc9 kV9 dc9 pm9 cd9 ct9 : Value} {f9 : Addr}
    (a9 : nsIn K mainGlobals "_law_make_teams" = some (some (.ref f9))) (l9 : K.lookup f9 = some ⟨oc9, od9, .func (fnOf "_law_make_teams" "_law_make_teams" (defArgs s_teams) (defBody s_teams) (defScope s_teams) .none kV9 dc9 pm9 an9 cd9 ct9), sl9⟩) (c9 : codeIn K cd9 "_law_make_teams" = true) (k9 : keepIn K (.ref f9) = true)
    {od10 an10 : Option Addr} {sl10 : Array (Option Value)} {oc10 kV10 dc10 pm10 cd10 ct10 : Value} {f10 : Addr}
    (a10 : nsIn K mainGlobals "_law_is_within" = some (some (.ref f10))) (l10 : K.lookup f10 = some ⟨oc10, od10, .func (fnOf "_law_is_within" "_law_is_within" (defArgs s_within) (defBody s_within) (defScope s_within) .none kV10 dc10 pm10 an10 cd10 ct10), sl10⟩) (c10 : codeIn K cd10 "_law_is_within" = true) (k10 : keepIn K (.ref f10) = true)
    {od11 an11 : Option Addr} {sl11 : Array (Option Value)} {oc11 kV11 dc11 pm11 cd11 ct11 : Value} {f11 : Addr}
    (a11 : nsIn K mainGlobals "_law_make_good" = some (some (.ref f11))) (l11 : K.lookup f11 = some ⟨oc11, od11, .func (fnOf "_law_make_good" "_law_make_good" (defArgs s_mgood) (defBody s_mgood) (defScope s_mgood) .none kV11 dc11 pm11 an11 cd11 ct11), sl11⟩) (c11 : codeIn K cd11 "_law_make_good" = true) (k11 : keepIn K (.ref f11) = true)
    {od12 an12 : Option Addr} {sl12 : Array (Option Value)} {oc12 kV12 dc12 pm12 cd12 ct12 : Value} {f12 : Addr}
    (a12 : nsIn K mainGlobals "_law_all_sets" = some (some (.ref f12))) (l12 : K.lookup f12 = some ⟨oc12, od12, .func (fnOf "_law_all_sets" "_law_all_sets" (defArgs s_sets) (defBody s_sets) (defScope s_sets) .none kV12 dc12 pm12 an12 cd12 ct12), sl12⟩) (c12 : codeIn K cd12 "_law_all_sets" = true) (k12 : keepIn K (.ref f12) = true)
    {od13 an13 : Option Addr} {sl13 : Array (Option Value)} {oc13 kV13 dc13 pm13 cd13 ct13 : Value} {f13 : Addr}
    (a13 : nsIn K mainGlobals "_law_but" = some (some (.ref f13))) (l13 : K.lookup f13 = some ⟨oc13, od13, .func (fnOf "_law_but" "_law_but" (defArgs s_but) (defBody s_but) (defScope s_but) .none kV13 dc13 pm13 an13 cd13 ct13), sl13⟩) (c13 : codeIn K cd13 "_law_but" = true) (k13 : keepIn K (.ref f13) = true)
    {od14 an14 : Option Addr} {sl14 : Array (Option Value)} {oc14 kV14 dc14 pm14 cd14 ct14 : Value} {f14 : Addr}
    (a14 : nsIn K mainGlobals "_law_is_good" = some (some (.ref f14))) (l14 : K.lookup f14 = some ⟨oc14, od14, .func (fnOf "_law_is_good" "_law_is_good" (defArgs s_lgood) (defBody s_lgood) (defScope s_lgood) .none kV14 dc14 pm14 an14 cd14 ct14), sl14⟩) (c14 : codeIn K cd14 "_law_is_good" = true) (k14 : keepIn K (.ref f14) = true)
    {od15 an15 : Option Addr} {sl15 : Array (Option Value)} {oc15 kV15 dc15 pm15 cd15 ct15 : Value} {f15 : Addr}
    (a15 : nsIn K mainGlobals "_law_exchanges" = some (some (.ref f15))) (l15 : K.lookup f15 = some ⟨oc15, od15, .func (fnOf "_law_exchanges" "_law_exchanges" (defArgs s_exs) (defBody s_exs) (defScope s_exs) .none kV15 dc15 pm15 an15 cd15 ct15), sl15⟩) (c15 : codeIn K cd15 "_law_exchanges" = true) (k15 : keepIn K (.ref f15) = true)
    {od16 an16 : Option Addr} {sl16 : Array (Option Value)} {oc16 kV16 dc16 pm16 cd16 ct16 : Value} {f16 : Addr}
    (a16 : nsIn K mainGlobals "_law_make_any" = some (some (.ref f16))) (l16 : K.lookup f16 = some ⟨oc16, od16, .func (fnOf "_law_make_any" "_law_make_any" (defArgs s_many) (defBody s_many) (defScope s_many) .none kV16 dc16 pm16 an16 cd16 ct16), sl16⟩) (c16 : codeIn K cd16 "_law_make_any" = true) (k16 : keepIn K (.ref f16) = true)
    {od17 an17 : Option Addr} {sl17 : Array (Option Value)} {oc17 kV17 dc17 pm17 cd17 ct17 : Value} {f17 : Addr}
    (a17 : nsIn K mainGlobals "law" = some (some (.ref f17))) (l17 : K.lookup f17 = some ⟨oc17, od17, .func (fnOf "law" "law" (defArgs s_law) (defBody s_law) (defScope s_law) .none kV17 dc17 pm17 an17 cd17 ct17), sl17⟩) (c17 : codeIn K cd17 "law" = true) (k17 : keepIn K (.ref f17) = true)
    (z0 : nsIn K mainGlobals "len" = some none)
    (z1 : nsIn K mainGlobals "list" = some none)
    (z2 : nsIn K mainGlobals "tuple" = some none)
    (z3 : nsIn K mainGlobals "range" = some none)
    (z4 : nsIn K mainGlobals "sorted" = some none)
    (z5 : nsIn K mainGlobals "any" = some none)
    (z6 : nsIn K mainGlobals "all" = some none)
    (z7 : nsIn K mainGlobals "min" = some none)
    (z8 : nsIn K mainGlobals "max" = some none)
    (z9 : nsIn K mainGlobals "repr" = some none)
    (z10 : nsIn K mainGlobals "enumerate" = some none) :
    ∃ fd : FuncData, (∀ (s : Shared) (v : Value), BindsTo s fd ⟨[v], []⟩ [("_law_script", v)]) ∧ ∀ base : Heap, K.In base → base.Ns mainGlobals mg → FnG P w K mg base 5 fa fd ["_law_script"] (sp_law K) := by
  have e := hfa.symm.trans (mg_of X G a17)
  cases e
  have F0 := fun_mk (st := s_newcomers) l0 c0 k0
  have b0 := F0.binds (ps := ["crew", "other"]) fun _ _ _ _ _ _ us hl => match us, hl with | [_, _], _ => rfl
  have F1 := fun_mk (st := s_exchanged) l1 c1 k1
  have b1 := F1.binds (ps := ["crew", "person", "other"]) fun _ _ _ _ _ _ us hl => match us, hl with | [_, _, _], _ => rfl
  have F2 := fun_mk (st := s_exchange_places) l2 c2 k2
  have b2 := F2.binds (ps := ["crews"]) fun _ _ _ _ _ _ us hl => match us, hl with | [_], _ => rfl
  have F3 := fun_mk (st := s_exchange_partners) l3 c3 k3
  have b3 := F3.binds (ps := ["crews", "place"]) fun _ _ _ _ _ _ us hl => match us, hl with | [_, _], _ => rfl
  have F4 := fun_mk (st := s_all_exchange) l4 c4 k4
  have b4 := F4.binds (ps := ["crews"]) fun _ _ _ _ _ _ us hl => match us, hl with | [_], _ => rfl
  have F5 := fun_mk (st := s_is_good) l5 c5 k5
  have b5 := F5.binds (ps := ["crews"]) fun _ _ _ _ _ _ us hl => match us, hl with | [_], _ => rfl
  have F6 := fun_mk (st := s_source) l6 c6 k6
  have b6 := F6.binds (ps := ["_law_script"]) fun _ _ _ _ _ _ us hl => match us, hl with | [_], _ => rfl
  have F7 := fun_mk (st := s_draw) l7 c7 k7
  have b7 := F7.binds (ps := ["_law_rng", "_law_limit"]) fun _ _ _ _ _ _ us hl => match us, hl with | [_, _], _ => rfl
  have F8 := fun_mk (st := s_sample) l8 c8 k8
  have b8 := F8.binds (ps := ["_law_rng", "_law_pool", "_law_amount"]) fun _ _ _ _ _ _ us hl => match us, hl with | [_, _, _], _ => rfl
  have F9 := fun_mk (st := s_teams) l9 c9 k9
  have b9 := F9.binds (ps := ["_law_rng", "_law_most"]) fun _ _ _ _ _ _ us hl => match us, hl with | [_, _], _ => rfl
  have F10 := fun_mk (st := s_within) l10 c10 k10
  have b10 := F10.binds (ps := ["_law_some", "_law_more"]) fun _ _ _ _ _ _ us hl => match us, hl with | [_, _], _ => rfl
  have F11 := fun_mk (st := s_mgood) l11 c11 k11
  have b11 := F11.binds (ps := ["_law_rng", "_law_most"]) fun _ _ _ _ _ _ us hl => match us, hl with | [_, _], _ => rfl
  have F12 := fun_mk (st := s_sets) l12 c12 k12
  have b12 := F12.binds (ps := ["_law_names_now"]) fun _ _ _ _ _ _ us hl => match us, hl with | [_], _ => rfl
  have F13 := fun_mk (st := s_but) l13 c13 k13
  have b13 := F13.binds (ps := ["_law_here", "_law_name"]) fun _ _ _ _ _ _ us hl => match us, hl with | [_, _], _ => rfl
  have F14 := fun_mk (st := s_lgood) l14 c14 k14
  have b14 := F14.binds (ps := ["_law_teams"]) fun _ _ _ _ _ _ us hl => match us, hl with | [_], _ => rfl
  have F15 := fun_mk (st := s_exs) l15 c15 k15
  have b15 := F15.binds (ps := ["_law_teams"]) fun _ _ _ _ _ _ us hl => match us, hl with | [_], _ => rfl
  have F16 := fun_mk (st := s_many) l16 c16 k16
  have b16 := F16.binds (ps := ["_law_rng", "_law_most"]) fun _ _ _ _ _ _ us hl => match us, hl with | [_, _], _ => rfl
  have F17 := fun_mk (st := s_law) l17 c17 k17
  have b17 := F17.binds (ps := ["_law_script"]) fun _ _ _ _ _ _ us hl => match us, hl with | [_], _ => rfl
  have B : Blt mg := ⟨mg_none_of X G z0, mg_none_of X G z1, mg_none_of X G z2, mg_none_of X G z3, mg_none_of X G z4, mg_none_of X G z5, mg_none_of X G z6, mg_none_of X G z7, mg_none_of X G z8, mg_none_of X G z9⟩
  have b_enumerate : mg "enumerate" = none := mg_none_of X G z10
  refine ⟨fnOf "law" "law" (defArgs s_law) (defBody s_law) (defScope s_law) .none kV17 dc17 pm17 an17 cd17 ct17, fun s v => .of_eq rfl, fun base _ _ => ?_⟩
  let D0 : Dd.OwnD P w K mg base 1 "newcomers" ["crew", "other"] φ_newcomers := ⟨f0, _, d_newcomers F0 B, mg_of X G a0, k0, b0⟩
  let D1 : Dd.OwnD P w K mg base 1 "exchanged" ["crew", "person", "other"] φ_exchanged := ⟨f1, _, d_exchanged F1 B, mg_of X G a1, k1, b1⟩
  let D2 : Dd.OwnD P w K mg base 2 "exchange_places" ["crews"] φ_exchange_places := ⟨f2, _, d_exchange_places F2 B b_enumerate D0, mg_of X G a2, k2, b2⟩
  let D3 : Dd.OwnD P w K mg base 2 "exchange_partners" ["crews", "place"] φ_exchange_partners := ⟨f3, _, d_exchange_partners F3 B D0 D1, mg_of X G a3, k3, b3⟩
  let D4 : Dd.OwnD P w K mg base 3 "all_exchange" ["crews"] φ_all_exchange := ⟨f4, _, d_all_exchange F4 B D2 D3, mg_of X G a4, k4, b4⟩
  let D5 : OwnG P w K mg base 4 "is_good" ["crews"] (sp_good K) := ⟨f5, _, good_old (d_is_good F5 D4), mg_of X G a5, k5, b5⟩
  let D6 : Own P w K mg base 1 "_law_source" ["_law_script"] (sp_source K) := ⟨f6, _, ok_source F6 B, mg_of X G a6, k6, b6⟩
  let D7 : Own P w K mg base 1 "_law_draw" ["_law_rng", "_law_limit"] sp_draw := ⟨f7, _, ok_draw F7 B, mg_of X G a7, k7, b7⟩
  let D8 : Own P w K mg base 2 "_law_sample" ["_law_rng", "_law_pool", "_law_amount"] (sp_sample K) := ⟨f8, _, ok_sample F8 B D7, mg_of X G a8, k8, b8⟩
  let D10 : Own P w K mg base 1 "_law_is_within" ["_law_some", "_law_more"] (sp_within K) := ⟨f10, _, ok_within F10, mg_of X G a10, k10, b10⟩
  let D9 : Own P w K mg base 3 "_law_make_teams" ["_law_rng", "_law_most"] (sp_made 3 5 K) := ⟨f9, _, ok_teams F9 B D7 D8 D10, mg_of X G a9, k9, b9⟩
  let D12 : Own P w K mg base 1 "_law_all_sets" ["_law_names_now"] (sp_sets K) := ⟨f12, _, ok_sets F12 B, mg_of X G a12, k12, b12⟩
  let D11 : Own P w K mg base 3 "_law_make_good" ["_law_rng", "_law_most"] (sp_made 2 5 K) := ⟨f11, _, ok_mgood F11 B D7 D8 D12, mg_of X G a11, k11, b11⟩
  let D13 : Own P w K mg base 1 "_law_but" ["_law_here", "_law_name"] (sp_but K) := ⟨f13, _, ok_but' F13 B, mg_of X G a13, k13, b13⟩
  let D15 : Own P w K mg base 2 "_law_exchanges" ["_law_teams"] (sp_exs K) := ⟨f15, _, ok_exs F15 B D13, mg_of X G a15, k15, b15⟩
  let D14 : Own P w K mg base 3 "_law_is_good" ["_law_teams"] (sp_good K) := ⟨f14, _, ok_lgood F14 D15, mg_of X G a14, k14, b14⟩
  let D16 : Own P w K mg base 4 "_law_make_any" ["_law_rng", "_law_most"] (sp_many K) := ⟨f16, _, ok_many F16 D7 D11 D9, mg_of X G a16, k16, b16⟩
  exact ok_law F17 B D5 (fun s u => BindsTo.of_eq (by rfl)) D6 D7 D16 D14
end K49
open PySem PySem.W PyProof.Rows
set_option maxHeartbeats 0 in
theorem PySem.Challenge.cw_crewbook_k49_good_crews_told_holds : PySem.Challenge.rw_crewbook_k49_good_crews_told.Holds := by
  w_on; o_law; k_head; (case hw => w_witness2)
  k_fill
  refine Cb.walkG (l := PySem.Challenge.rw_crewbook_k49_good_crews_told) (n := 63) (k := 5) (x := "_law_script") (sp := fun w => K49.sp_law _) rfl (by decide) rfl ⟨rfl, by decide, by decide⟩ (fun w h Y => PySem.W.kIn_of Y) ?F (fun _ _ a ns hl _ hS => ⟨a, ns, rfl, hS, fun _ => rfl⟩)
  case F =>
    intro w mg fa h KX G hmg
    refine' K49.all_mk KX G hmg ?a0 ?l0 ?c0 ?k0 ?a1 ?l1 ?c1 ?k1 ?a2 ?l2 ?c2 ?k2 ?a3 ?l3 ?c3 ?k3 ?a4 ?l4 ?c4 ?k4 ?a5 ?l5 ?c5 ?k5 ?a6 ?l6 ?c6 ?k6 ?a7 ?l7 ?c7 ?k7 ?a8 ?l8 ?c8 ?k8 ?a9 ?l9 ?c9 ?k9 ?a10 ?l10 ?c10 ?k10 ?a11 ?l11 ?c11 ?k11 ?a12 ?l12 ?c12 ?k12 ?a13 ?l13 ?c13 ?k13 ?a14 ?l14 ?c14 ?k14 ?a15 ?l15 ?c15 ?k15 ?a16 ?l16 ?c16 ?k16 ?a17 ?l17 ?c17 ?k17  ?z0 ?z1 ?z2 ?z3 ?z4 ?z5 ?z6 ?z7 ?z8 ?z9 ?z10
    (case a0 => k_is); (case l0 => k_is); (case c0 => k_is); (case k0 => k_is)
    (case a1 => k_is); (case l1 => k_is); (case c1 => k_is); (case k1 => k_is)
    (case a2 => k_is); (case l2 => k_is); (case c2 => k_is); (case k2 => k_is)
    (case a3 => k_is); (case l3 => k_is); (case c3 => k_is); (case k3 => k_is)
    (case a4 => k_is); (case l4 => k_is); (case c4 => k_is); (case k4 => k_is)
    (case a5 => k_is); (case l5 => k_is); (case c5 => k_is); (case k5 => k_is)
    (case a6 => k_is); (case l6 => k_is); (case c6 => k_is); (case k6 => k_is)
    (case a7 => k_is); (case l7 => k_is); (case c7 => k_is); (case k7 => k_is)
    (case a8 => k_is); (case l8 => k_is); (case c8 => k_is); (case k8 => k_is)
    (case a9 => k_is); (case l9 => k_is); (case c9 => k_is); (case k9 => k_is)
    (case a10 => k_is); (case l10 => k_is); (case c10 => k_is); (case k10 => k_is)
    (case a11 => k_is); (case l11 => k_is); (case c11 => k_is); (case k11 => k_is)
    (case a12 => k_is); (case l12 => k_is); (case c12 => k_is); (case k12 => k_is)
    (case a13 => k_is); (case l13 => k_is); (case c13 => k_is); (case k13 => k_is)
    (case a14 => k_is); (case l14 => k_is); (case c14 => k_is); (case k14 => k_is)
    (case a15 => k_is); (case l15 => k_is); (case c15 => k_is); (case k15 => k_is)
    (case a16 => k_is); (case l16 => k_is); (case c16 => k_is); (case k16 => k_is)
    (case a17 => k_is); (case l17 => k_is); (case c17 => k_is); (case k17 => k_is)
    (case z0 => k_is); (case z1 => k_is); (case z2 => k_is); (case z3 => k_is); (case z4 => k_is); (case z5 => k_is); (case z6 => k_is); (case z7 => k_is); (case z8 => k_is); (case z9 => k_is); (case z10 => k_is)
