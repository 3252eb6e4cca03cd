import PyProof.Rows.All
import Wide.All
import OpenK.AllK
import Wide.FinOn
import HandS.ForMost
import HandS.TupAny
import HandS.SortKw
import HandS.Deep
import HandS.Wide
import HandS.Defaults
import HandS.Conv
import HandS.Evl
import KE.SortData
import KE.SortKeyHeap
import PyProof.P3In
import HandS.FStrTup
import PySem.Challenge.RW_crewbook_k49_good_crews_told
set_option Elab.async false
set_option linter.all false
set_option maxRecDepth 100000
set_option maxHeartbeats 4000000
/-! Rules that the layer lacks: sorted of data, repr, in over tuples of data. -/
namespace Cb
open PySem PySem.Spec PyProof.Rows L2 PySem.W

/-! ### data that stands in the heap -/
theorem sameT {K : Frag} {H H' : Hp} {a : Addr} {xs : List V} (e : Same H H') (h : SqT K H a xs) : SqT K H' a xs := by
  rcases h with (h | ⟨o, h⟩) | h
  · exact .inl (.inl (e _ _ h))
  · exact .inl (.inr ⟨o, e _ _ h⟩)
  · exact .inr h
mutual
theorem dpSame {K : Frag} {H H' : Hp} (e : Same H H') : ∀ (d : PyData) (v : V), Dp K H v d → Dp K H' v d
  | .none, _, h => by cases h; exact .non
  | .bool _, _, h => by cases h; exact .bl _
  | .int _, _, h => by cases h; exact .int _
  | .str _, _, h => by cases h; exact .str _
  | .list ds, _, h => by
    cases h with
    | lst hs ha => exact .lst (e.seq hs) (dpsSame e ds _ ha)
  | .tuple ds, _, h => by
    cases h with
    | tup hs ha => exact .tup (sameT e hs) (dpsSame e ds _ ha)
  | .dict _, _, h => by cases h
theorem dpsSame {K : Frag} {H H' : Hp} (e : Same H H') : ∀ (ds : List PyData) (vs : List V), DpAll K H vs ds → DpAll K H' vs ds
  | [], _, h => by cases h; exact .nil
  | d :: ds, _, h => by
    cases h with
    | cons h1 h2 => exact .cons (dpSame e d _ h1) (dpsSame e ds _ h2)
end

/-! ### sorted of a list of data -/
theorem each_in {β : Type} (f : β → V) : ∀ {bs : List β} {us : List Value}, Vals (bs.map f) us → EachIs (fun u b => RelV (f b) u) us bs
  | [], us, h => by
    have h' : Vals [] us := h
    cases h'
    exact .nil
  | b :: bs, us, h => by
    have h' : Vals (f b :: bs.map f) us := h
    cases h' with
    | cons r t => exact .cons r (each_in f t)
theorem each_out {β : Type} (f : β → V) : ∀ {bs : List β} {us : List Value}, EachIs (fun u b => RelV (f b) u) us bs → Vals (bs.map f) us
  | _, _, .nil => .nil
  | _, _, .cons r t => .cons r (each_out f t)
theorem each_and {β γ : Type} {R S : γ → β → Prop} : ∀ {us : List γ} {bs : List β}, EachIs R us bs → (∀ u b, b ∈ bs → R u b → S u b) → EachIs S us bs
  | _, _, .nil, _ => .nil
  | _, _, .cons r t, f => .cons (f _ _ List.mem_cons_self r) (each_and t fun u b hb => f u b (List.mem_cons_of_mem _ hb))
/-! ### sorted of a tuple -/
section
variable {prog : Program} {w : World} {A : Around} {E : Value → Shared → Prop} {s : Shared}
theorem collect_tup {l : Addr} {vs : List Value} {Q : List Value → Shared → Prop} (hl : IsTup s.heap l vs.toArray) (hz : vs.length ≤ sizeLine) (h : Q vs { s with heap := (s.heap.push (seqObj "list" #[] 0)).update s.heap.objs.size (Obj.mapSeq (· ++ vs.toArray)) }) :
    wpAny (model prog w) A (collect (.ref l)) Q E s := by
  obtain ⟨o, ho, hc, n, hd⟩ := id hl
  have h1 : (s.heap.push (seqObj "list" #[] 0)).get? l = some o := Heap.get?_push_of_some _ ho
  have h2 : (s.heap.push (seqObj "list" #[] 0)).get? s.heap.objs.size = some (seqObj "list" #[] 0) := Heap.get?_push_size _ rfl
  have tt : (Value.type "tuple" == Value.type "tuple") = true := by rfl
  unfold collect
  refine wpAny_bind (wpAny_runValue (codeAny_builtin entry_proto_collect' ?_))
  show wpAny _ _ (newList [] >>= fun b => again (.builtin "list.__iadd__" ⟨[b, .ref l], []⟩)) _ _ s
  refine wpAny_bind (wpAny_newList (wpAny_pure ⟨Code.quiet_builtin _ (by decide +kernel), codeAny_builtin entry_list_iadd' ?_⟩))
  show wpAny _ _ (Builtin.List.listExtendWith (.ref s.heap.objs.size) (.ref l) (.ref s.heap.objs.size)) _ _ { s with heap := s.heap.push (seqObj "list" #[] 0) }
  unfold Builtin.List.listExtendWith
  refine wpAny_bind (wpAny_typeOf (T := "tuple") ⟨o, h1, hc⟩ ?_)
  rw [if_pos (by rw [tt]; simp)]
  refine wpAny_bind (listItems_at h1 hd (wpAny_bind (listItems_at h2 rfl ?_)))
  rw [if_neg (by simp)]
  refine wpAny_bind (listUpdate_at h2 rfl (wpAny_pure ?_) (Nat.zero_le _) (by rw [Array.size_append, List.size_toArray]; simp only [List.size_toArray, List.length_nil]; omega))
  refine wpAny_bind (wpAny_load (get?_update_seq h2 _) ?_)
  show wpAny _ _ (pure ((#[] : Array Value) ++ vs.toArray).toList) Q E _
  have e : ((#[] : Array Value) ++ vs.toArray).toList = vs := by simp
  rw [e]
  exact wpAny_pure h
theorem sortedT_data {β : Type} {R : Value → β → Prop} {enc : β → PyData} {vs : List Value} {bs : List β} {l : Addr} {Q : Value → Shared → Prop} (hl : IsTup s.heap l vs.toArray) (e : EachIs R vs bs) (er : EachIs (fun v b => ∃ as, Reads s.heap v (enc b) as) vs bs)
    (hal : AllAlike (bs.map enc)) (hk : Sortable (bs.map enc)) (hL : bs.length ≤ sizeLine) (hu : ∀ b, b ∈ bs → A.units + 2 + (enc b).depth < cLine)
    (h : ∀ out, out.length = bs.length → EachIs R out (bs.mergeSort (dataLe false enc)) → Q (.ref (s.heap.objs.size + 1)) { s with heap := sortedAll s.heap vs (List.toArray out) }) : wpAny (model prog w) A (call (.builtin "sorted") [.ref l]) Q E s := by
  have hv : vs.length ≤ sizeLine := by rw [e.length]; exact hL
  have er' : EachIs (fun v b => ∃ as, Reads (sortingHeap (copyHeap s.heap vs) (s.heap.objs.size + 1) vs) v (enc b) as) vs bs := er.mono fun _ _ ⟨as, r⟩ => ⟨as, PyProof.Rows.Reads.keeps (fun _ _ => sorting_copy_old) r⟩
  refine call_function_entry_kw kind_sorted plain_sorted entry_sorted (args_sorted1 _) ?_
  unfold Builtin.«sorted»
  refine wpAny_bind (m := checkCount "sorted" 1 1 _) (wpAny_pure (wpAny_bind (collect_tup hl hv (wpAny_bind (wpAny_newList ?_ hv)))))
  have sz : ((s.heap.push (seqObj "list" #[] 0)).update s.heap.objs.size (Obj.mapSeq (· ++ vs.toArray))).objs.size = s.heap.objs.size + 1 := by rw [Heap.size_update, size_push']
  show wpAny _ _ _ _ _ { s with heap := copyHeap s.heap vs }
  rw [sz]
  refine wpAny_bind (wpAny_holding (wpAny_call_entry_kw slot_list_sort ⟨_, copyHeap_at s.heap vs, rfl⟩ entry_list_sort ?_ (args_list_sort _)))
  refine list_sort_vals (s := { s with heap := copyHeap s.heap vs }) (copyHeap_at s.heap vs)
    (SortsAt.data (s := { s with heap := sortingHeap (copyHeap s.heap vs) (s.heap.objs.size + 1) vs }) (each_map (R := fun v d => ∃ as, Reads (sortingHeap (copyHeap s.heap vs) (s.heap.objs.size + 1) vs) v d as) enc er') hal hk (bound_map hu)) hv ?_
  exact ⟨_, rfl, wpAny_pure ⟨_, rfl, h _ (by rw [sortVals_length false rfl]; exact e.length) (sortVals_data false e er' hal)⟩⟩
end
/-- values with the data they stand for, in order -/
abbrev ordD (bs : List (V × PyData)) : List (V × PyData) := bs.mergeSort (dataLe false fun b : V × PyData => b.2)
def rSrt (K : Frag) : List V → Hp → VK → Prop := fun vs H Q => ∃ (a : Addr) (bs : List (V × PyData)), vs = [.ref a] ∧ (SqL K H a (bs.map (·.1)) ∨ SqT K H a (bs.map (·.1))) ∧ (∀ b ∈ bs, Dp K H b.1 b.2) ∧ AllAlike (bs.map (·.2)) ∧ Sortable (bs.map (·.2)) ∧
  (∀ b ∈ bs, b.2.depth ≤ 50) ∧ ∀ p, H p = none → Q (.ref p) (upd H p (.lst ((ordD bs).map (·.1))))
section
variable {X : Cx}
theorem cr_srt (hu : X.A.units + 64 < cLine) : CallR X (.builtin "sorted") (rSrt X.K) := by
  intro pins s σ H vs us Q I r h
  obtain ⟨a, bs, rfl, hs, hd, hal, hk, hdp, q⟩ := h
  rw [Vals.ref1 r]
  have fin : ∀ its : List Value, Vals (bs.map (·.1)) its → (bs.map (·.1)).length ≤ sizeLine → ∀ out : List Value, EachIs (fun u b => RelV b.1 u) out (ordD bs) →
      EP X pins σ Q (.ref (s.heap.objs.size + 1)) { s with heap := sortedAll s.heap its (List.toArray out) } := fun its rv hz out h2 => by
    have ro := each_out (fun b : V × PyData => b.1) h2
    obtain ⟨ep, he'⟩ := PyProof.Rows.sortedAll_at s.heap its out.toArray
    have hl2 : ((ordD bs).map (·.1)).length ≤ sizeLine := by
      rw [List.length_map, List.length_mergeSort, ← List.length_map (f := (·.1))]
      exact hz
    exact ⟨.ref _, upd H (s.heap.objs.size + 1) (.lst ((ordD bs).map (·.1))), I.laid (t' := s.toks) (fun _ _ => PyProof.Rows.sortedAll_old) (Nat.le_succ _) ⟨hl2, out, ep, ro, by simpa using he'⟩, rfl, q _ (I.hok.fresh (Nat.le_succ _))⟩
  rcases hs with hs | hs
  · obtain ⟨its, rv, hl, hz⟩ := I.list hs
    have e0 := each_in (fun b : V × PyData => b.1) rv
    exact sorted_data (enc := fun b : V × PyData => b.2) hl.isList e0 (each_and e0 fun u b hb r => Dp.reads I b.2 b.1 u (hd b hb) r) hal hk (by rw [List.length_map] at hz; exact hz) (fun b hb => by have := hdp b hb; omega) fun out h1 h2 => fin its rv hz out h2
  · obtain ⟨its, rv, hl, hz⟩ := I.tuple hs
    have e0 := each_in (fun b : V × PyData => b.1) rv
    exact sortedT_data (enc := fun b : V × PyData => b.2) hl e0 (each_and e0 fun u b hb r => Dp.reads I b.2 b.1 u (hd b hb) r) hal hk (by rw [List.length_map] at hz; exact hz) (fun b hb => by have := hdp b hb; omega) fun out h1 h2 => fin its rv hz out h2

/-! ### repr -/
def rRepr (K : Frag) : List V → Hp → VK → Prop := fun vs H Q => ∃ (a : Addr) (d : PyData), vs = [.ref a] ∧ Dp K H (.ref a) d ∧ d.showable = true ∧ d.hasDict = false ∧ d.depth ≤ 50 ∧ d.shown.length ≤ sizeLine ∧ Q (.str d.shown) H
theorem guards0 {k : Nat} {A : Around} (hr : Room k A) (h : A.guards = some []) : A.guards = some [] := h
theorem cr_repr (hu : X.A.units + 64 < cLine) (hg : X.A.guards = some []) : CallR X (.builtin "repr") (rRepr X.K) := by
  intro pins s σ H vs us Q I r h
  obtain ⟨a, d, rfl, hd, hs, hn, hdp, hz, q⟩ := h
  rw [Vals.ref1 r]
  obtain ⟨as, rd⟩ := Dp.reads I d (.ref a) (.ref a) hd rfl
  exact repr_of_reads' rd hs (PyData.noDict_hsm hn) hg (by omega) (fun _ _ e => e) (fun h' u tk hk => ⟨.str d.shown, H, I.kept hk, ⟨_, rfl⟩, q⟩) hz
theorem cr_reprB : CallR X (.builtin "repr") (fun vs H Q => ∃ b : Bool, vs = [.bl b] ∧ Q (.str (if b then "True" else "False")) H) := by
  intro pins s σ H vs us Q I r h
  obtain ⟨b, rfl, q⟩ := h
  obtain ⟨u, rfl, e⟩ := vals1 r
  obtain rfl : u = Value.bool b := e
  exact PySem.P.repr_of_bool ⟨.str _, H, I.tok _, ⟨_, rfl⟩, q⟩

/-! ### x in t, t a tuple of data -/
def rInT (K : Frag) : R2 := fun x y H Q => ∃ d ds, Dp K H x d ∧ Dp K H y (.tuple ds) ∧ SeqAt.shaped d = true ∧ SeqAt.shaped (.list ds) = true ∧ Q (.bl (ds.any fun z => PyData.eqv z d)) H
theorem op_inT (hu : X.A.units + 65 < cLine) : OpR X (compareOp .In) (rInT X.K) := by
  intro pins s σ H x y v u Q I rx ry h
  obtain ⟨d, ds, hd, he, sd, se, q⟩ := h
  obtain ⟨as, r1⟩ := Dp.reads I d x v hd rx
  obtain ⟨bs, r2⟩ := Dp.reads I (.tuple ds) y u he ry
  exact SeqAt.in_tuple_reads r2 r1 (SeqAt.canLay_of_shaped se) (SeqAt.canLay_of_shaped sd) (room_in_shaped sd hu) ⟨.bl _, H, I, rfl, q⟩
end


end Cb

/-! Defs that are called where no repr is under way. -/
namespace Cb
open PySem PySem.Spec PyProof.Rows L2 PySem.W
/-- nothing stands around that a repr would meet again -/
def Gu (A : Around) : Prop := A.guards = some []
structure FnG (P : Program) (w : World) (K : Frag) (mg : Str → Option Value) (base : Heap) (k : Nat) (f : Addr) (fd : FuncData) (ps : List Str) (sp : Sp) : Prop where
  ln : ∀ vs H Q E, sp vs H Q E → vs.length = ps.length
  go : ∀ (A : Around) (out : List Env) (s : Shared) (H : Hp) (ar : Args) (us : List Value) (vs : List V) (Q : VK) (E : XK), Gu A → Room k A → Env0 P w K mg base A out s H →
    BindsTo s fd ar (ps.zip us) → Vals vs us → sp vs H Q E → codeAny (model P w) A (.call (.ref f) ar) (CR CX0 out P w H s Q E) s
theorem FnG.of {P : Program} {w : World} {K : Frag} {mg : Str → Option Value} {base : Heap} {k : Nat} {f : Addr} {fd : FuncData} {ps : List Str} {sp : Sp} (F : FnOk P w K mg base CX0 k f fd ps sp) : FnG P w K mg base k f fd ps sp :=
  ⟨F.len, fun A out s H ar us vs Q E _ hr => F.run A out s H ar us vs Q E hr⟩
theorem FnG.up {P : Program} {w : World} {K : Frag} {mg : Str → Option Value} {base : Heap} {j k : Nat} {f : Addr} {fd : FuncData} {ps : List Str} {sp : Sp} (F : FnG P w K mg base j f fd ps sp) (h : j ≤ k) : FnG P w K mg base k f fd ps sp :=
  ⟨F.ln, fun A out s H ar us vs Q E g hr => F.go A out s H ar us vs Q E g (hr.mono h)⟩
section
variable {P : Program} {w : World} {K : Frag} {mg : Str → Option Value} {base : Heap}
/-- a def's body, with that said of what stands around -/
theorem fnG_mk {x q : Str} {st : Stmt} {f : Addr} {fd : FuncData} {N ps : List Str} {k : Nat} {sp : Sp} (F : Fun K x q st f fd) (S : FnScope N ps (defScope st)) (ln : ∀ vs H Q E, sp vs H Q E → vs.length = ps.length)
    (hb : ∀ (cdv : Value) (A : Around) (out : List Env) (s : Shared) (H : Hp) (vs : List V) (Q : VK) (E : XK), Gu A → Room k (A.deeper (envOfC q (defScope st) s.heap.objs.size f cdv)) → sp vs H Q E →
      ∃ t, PSs (cxOf CX0 P w K mg base N q (defScope st) f cdv A out s H E).nox (defBody st) t ∧ t { nx := fun _ H' => Q .non H', rt := Q } (start N vs) H) : FnG P w K mg base (k + 1) f fd ps sp := by
  obtain ⟨oc, od, kV, doc, pm, an, cdv, ct, osl, rfl, lk, hcd⟩ := F.ex
  refine ⟨ln, fun A out s H ar us vs Q E g hr e0 hbi r hsp => ?_⟩
  -- the promise of this one entry, as if it were made for all
  have one : ∀ (B : Around) (o2 : List Env) (s2 : Shared) (H2 : Hp) (v2 : List V) (Q2 : VK) (E2 : XK), Room k (B.deeper (envOfC q (defScope st) s2.heap.objs.size f cdv)) → (Gu B ∧ sp v2 H2 Q2 E2) →
      ∃ t, PSs (cxOf CX0 P w K mg base N q (defScope st) f cdv B o2 s2 H2 E2) (defBody st) t ∧ t { nx := fun _ H' => Q2 .non H', rt := Q2 } (start N v2) H2 := fun B o2 s2 H2 v2 Q2 E2 hr2 h2 => by
    obtain ⟨t, h, z⟩ := hb cdv B o2 s2 H2 v2 Q2 E2 h2.1 hr2 h2.2
    exact ⟨t, h.nox, z⟩
  have hl := ln _ _ _ _ hsp
  have KX : K.In s.heap := e0.mod.kin.keeps fun b o e => (e0.bs b o e).1
  have lim : s.heap.NoLimit := e0.mod.nolimit.keeps fun b o e => (e0.bs b o e).1
  refine codeAny_call_function hr.depth (KX _ _ lk) rfl S.co S.gen rfl (codeRec_of KX hcd) (hbi _ _ _ _ ?_)
  refine wpAny_newFunctionEnv_cells S.kind (fun ⟨n, v⟩ hy => ?_) fun env he s1 x => ?_
  · rcases S.par n (List.of_mem_zip hy).1 with z | z
    · exact .inl z
    · exact .inr ⟨z, cellsFrom_some _ _ _ (.inl z)⟩
  · subst he
    refine ⟨lim.keeps x.toInCall.keep, codeAny_func ?_⟩
    obtain ⟨t, ht, hq⟩ := one A out s H vs Q E (hr.deeper _) ⟨g, hsp⟩
    refine wpAny_mono (ht.run [] s1 (start N vs) H _ (inv_start S hr.hd e0 hl r x) hq) (fun fl s' hs => ?_) fun e s' hs => hs
    cases fl with
    | ret u => exact let ⟨v, _, H', J, rv, z⟩ := hs; ⟨v, H', J.os, J.bare, J.base, J.hok, rv, z⟩
    | next => exact let ⟨_, H', J, z⟩ := hs; ⟨V.non, H', J.os, J.bare, J.base, J.hok, rfl, z⟩
    | brk => exact let ⟨_, _, _, z⟩ := hs; False.elim z
    | cont => exact let ⟨_, _, _, z⟩ := hs; False.elim z
end
section
variable {X : Cx} {k : Nat} {f : Addr} {fd : FuncData} {ps : List Str} {sp : Sp} {x : Str} {p pos : Pos} {e : Expr} {es : List Expr} {t : TA}
theorem runG {pins : List (Addr × Obj)} {σ : L2.St} {H : Hp} {s : Shared} {Q : VK} {us : List Value} {vs : List V} (F : FnG X.prog X.w X.K X.mg X.base k f fd ps sp) (g : Gu X.A) (hr : Room k X.A) (hb : Binds X.K fd ps []) (I : Inv X pins σ H s) (r : Vals vs us)
    (h : sp vs H Q E0) : wpAny (model X.prog X.w) X.A (call (.ref f) us) (EP X pins σ Q) X.xe s := by
  have hl : (us ++ ([] : List Value)).length = ps.length := by rw [List.append_nil, ← r.length]; exact F.ln _ _ _ _ h
  have hz := hb s us I.kIn hl
  rw [List.append_nil] at hz
  refine wpAny_call (codeAny_mono (F.go X.A X.stack s H ⟨us, []⟩ us vs Q E0 g hr I.env0 hz r h) fun z s' hq => ?_)
  match z, hq with
  | .ok (.ret u), hq => exact I.after hq
  | .ok .next, hq => exact False.elim hq
  | .ok .brk, hq => exact False.elim hq
  | .ok .cont, hq => exact False.elim hq
  | .error _, hq => exact False.elim hq
/-- f(e, ..) of such a def -/
theorem pe_callG (F : FnG X.prog X.w X.K X.mg X.base k f fd ps sp) (g : Gu X.A) (hr : Room k X.A) (hg : Gl X x) (hm : X.mg x = some (.ref f)) (hk : keepIn X.K (.ref f) = true) (hb : Binds X.K fd ps [])
    (ha : PA X (e :: es) t) (hdb : (x == ("__debug__" : Str)) = false := by decide) (he : starEach (e :: es) X.env = (false, eval e X.env) :: starEach es X.env := by rfl) (hpl : (backTo pos (starEach es X.env)).any (·.1) = false := by rfl) :
    PE X (.Call (.Name x p) (e :: es) [] pos) (tCall sp [] E0 t) := by
  refine ⟨fun pins s σ H Q I h => wpAny_Call_Name_kw (ld_glob I hg hm ?_ hdb)⟩
  refine callWith_K (h₀ := X.base) I.ok.mod.kin hk (thn (ha.run pos pins s σ H _ I h) fun us s1 ⟨vs, H1, I1, r, q⟩ => ⟨I1.kIn, ?_⟩) he hpl
  have q1 : sp (vs ++ []) H1 Q E0 := q
  rw [List.append_nil] at q1
  exact runG F g hr hb I1 r q1
end

/-! ### the end of a law's row -/
theorem lawG {P : Program} {w : World} {K : Frag} {mg mb : Str → Option Value} {k : Nat} {fa a : Addr} {fd : FuncData} {x : Str} {sp : Sp} {s₁ : Shared} {vs : List Value} {ns : List Int}
    (KX : K.In s₁.heap) (hns : s₁.heap.Ns mainGlobals mg) (hb : s₁.heap.Ns builtinsNs mb) (hbb : ∀ x : Str, x ≠ "__name__" → mb x = bootBuiltins x) (hlim : s₁.heap.NoLimit) (hg : s₁.gens = #[])
    (ha : s₁.heap.get? a = some { cls := .type "list", data := .seq vs.toArray }) (hi : IntsAre vs ns) (hl : ns.length ≤ sizeLine) (hr : Room k callerA)
    (F : ∀ base : Heap, K.In base → base.Ns mainGlobals mg → FnG P w K mg base k fa fd [x] sp) (hbind : ∀ (s : Shared) (u : Value), BindsTo s fd ⟨[u], []⟩ [(x, u)])
    (hsp : ∀ H : Hp, Only H → SqL K H a (ns.map V.int) → sp [.ref a] H (fun v _ => v = .bl true) fun _ _ _ => False) :
    codeAny (model P w) callerA (.call (.ref fa) ⟨[.ref a], []⟩) (fun r s' => r = .ok (.ret (.bool true)) ∧ OldK s₁.heap s'.heap ∧ s'.os = s₁.os ∧ AllBare s'.gens) s₁ := by
  have main : ∀ H : Hp, Only H → SqL K H a (ns.map V.int) → HOk P w H s₁.heap → (∀ b, H b ≠ none → b = a ∧ K.lookup a = none) →
      codeAny (model P w) callerA (.call (.ref fa) ⟨[.ref a], []⟩) (fun r s' => r = .ok (.ret (.bool true)) ∧ OldK s₁.heap s'.heap ∧ s'.os = s₁.os ∧ AllBare s'.gens) s₁ := by
    intro H hO hS hok hA
    have off : ∀ {b : Addr}, b ≠ a → H b = none := fun {b} n => Classical.byContradiction fun z => n (hA b z).1
    have dict_off : ∀ {b : Addr} {o : Obj} {es : Array DictEntry} {ep : Nat}, s₁.heap.get? b = some o → o.data = .dict es ep → b ≠ a := fun {b o es ep} e d z => by
      subst z
      rw [ha] at e
      cases e
      exact nomatch (show Data.seq vs.toArray _ = Data.dict es ep from d)
    have ns_ : ∀ {b : Addr} {m : Str → Option Value}, s₁.heap.Ns b m → (hidT s₁.heap H).Ns b m := fun {b m} ⟨o, es, ep, e, d, r⟩ => ⟨o, es, ep, hidT_get e (off (dict_off e d)), d, r⟩
    have k_ : K.In (hidT s₁.heap H) := fun b o e => hidT_get (KX b o e) (Classical.byContradiction fun z => by
      obtain ⟨z1, z2⟩ := hA b z
      rw [z1, z2] at e
      cases e)
    have e0 : Env0 P w K mg (hidT s₁.heap H) callerA [] s₁ H :=
      ⟨rfl, ⟨k_, ns_ hns, ⟨mb, ns_ hb, hbb⟩, let ⟨mc, h1, h2⟩ := hlim; ⟨mc, ns_ h1, h2⟩⟩, fun b o e => of_hidT e, Nat.le_of_eq (hidT_size _ _), trivial, fun b z => absurd (show b ∈ ([] : List Addr) from z) (by simp), hok, .of_eq hg⟩
    refine codeAny_mono ((F _ k_ (ns_ hns)).go callerA [] s₁ H ⟨[.ref a], []⟩ [.ref a] [.ref a] _ _ rfl hr e0 (hbind s₁ (.ref a)) (.cons rfl .nil) (hsp H hO hS)) fun r s' h => ?_
    match r, h with
    | .ok (.ret u), h =>
      obtain ⟨v, H', os, bare, un, hok', r', q⟩ := h
      obtain rfl : v = .bl true := q
      obtain rfl : u = Value.bool true := r'
      refine ⟨rfl, OldK.of_keep fun b o e => ?_, os, bare⟩
      cases q : H b with
      | none => exact un.keep b o e q (fun z => absurd (show b ∈ ([] : List Addr) from z) (by simp)) (by simp)
      | some u =>
        rcases hO b with z | ⟨ob, xs, z⟩
        · exact absurd (q.symm.trans z) (by simp)
        · have e1 := (hok b _ z).1
          have e2 := (hok' b _ (un.frzs b ob _ z)).1
          rw [e] at e1
          cases e1
          exact e2
    | .ok .next, h => exact False.elim h
    | .ok .brk, h => exact False.elim h
    | .ok .cont, h => exact False.elim h
    | .error _, h => exact False.elim h
  cases hk : K.lookup a with
  | some o =>
    have e := KX a o hk
    rw [ha] at e
    cases e
    exact main (fun _ => none) (fun _ => .inl rfl) (.inr ⟨_, vs.toArray, _, hk, rfl, rfl, rfl, by rw [List.size_toArray, hi.length]; exact hl, by simpa using vals_ints hi⟩) (fun b u z => nomatch (show (none : Option HO) = some u from z)) fun b z => absurd rfl z
  | none =>
    have here : (if a = a then some (HO.frz { cls := .type "list", data := .seq vs.toArray } (.lst (ns.map V.int))) else none) = some (HO.frz { cls := .type "list", data := .seq vs.toArray } (.lst (ns.map V.int))) := if_pos rfl
    refine main (fun b => if b = a then some (.frz { cls := .type "list", data := .seq vs.toArray } (.lst (ns.map V.int))) else none) (fun b => ?_) (.inl (.inr ⟨_, here⟩)) (fun b u z => ?_) (fun b z => ?_)
    · by_cases hb : b = a
      · exact .inr ⟨_, _, if_pos hb⟩
      · exact .inl (if_neg hb)
    · by_cases hb : b = a
      · subst hb
        cases here.symm.trans z
        exact ⟨ha, by rw [List.length_map]; exact hl, vs, _, vals_ints hi, ha⟩
      · exact absurd z (by simp [hb])
    · by_cases hb : b = a
      · exact ⟨hb, hk⟩
      · exact absurd (if_neg hb) z
theorem walkG {l : OpenLaw} {n k : Nat} {q : Program} {loose : List Str} {XP : (Str → Option Value) → Heap → Prop} {YP : World → Heap → Prop} {d : DefRec} {K : Params → Frag} {sp : World → Sp} {x : Str}
    (hn : l.most = some n) (hn2 : n ≤ sizeLine) (hdf : d.params.defaults = []) (hr : Room k callerA) (hY : ∀ (w : World) (h : Heap), YP w h → (K w.params).In h)
    (F : ∀ (w : World) (mg : Str → Option Value) (fa : Addr) (h : Heap), (K w.params).In h → h.Ns mainGlobals mg → mg d.name = some (.ref fa) →
      ∃ fd : FuncData, (∀ (s : Shared) (u : Value), BindsTo s fd ⟨[u], []⟩ [(x, u)]) ∧ ∀ base : Heap, (K w.params).In base → base.Ns mainGlobals mg → FnG l.prog w (K w.params) mg base k fa fd [x] (sp w))
    (hsp : ∀ (w : World) (H : Hp) (a : Addr) (ns : List Int), ns.length ≤ n → Only H → SqL (K w.params) H a (ns.map V.int) → sp w [.ref a] H (fun v _ => v = .bl true) fun _ _ _ => False) :
    WalkO q loose XP YP l.row.toRowW d [] (fun f vs => PySem.call f vs) := by
  refine Att.attach_call hn hdf fun w s₀ s₁ mg mb fa o pm cd doc a vs ns G Y ho hd hcd hmg hobj hints hlen hg => ?_
  obtain ⟨fd, hb, hF⟩ := F w mg fa _ (hY w _ Y) G.T.g hmg
  exact lawG (hY w _ Y) G.T.g G.T.b G.T.builtins G.T.nolimit hg hobj hints (Nat.le_trans hlen hn2) hr hF hb fun H hO hS => hsp w H a ns hlen hO hS
end Cb

/-! Comprehensions with three for. -/
namespace Cb
open PySem PySem.Spec PyProof.Rows L2 PySem.W
section turns
variable {prog : Program} {w : World} {A : Around} {R : Result → Shared → Prop} {elt tg i1 : Expr} {gs : List Comprehension} {sc : Scope} {pos : Pos} {k : Nat} {fs : List Expr} {p : Pos} {it acc : Value} {env : Env} {bd : Sem PySem.Fin → Sem PySem.Fin} {s : Shared}
/-- what a turn of clause k does: bd stands for what lies behind its tests, ahead of the next turn -/
def TurnIs (c tg : Expr) (k : Nat) (fs : List Expr) (p : Pos) (it acc : Value) (env : Env) (bd : Sem PySem.Fin → Sem PySem.Fin) : Prop :=
  compTurn c k it acc env = (do
    standAt p
    match ← pyNext it with
    | none => pure (.done .next)
    | some v =>
      letOwnedTupleGo tg it v
      assign tg env v
      let mut ok := true
      for f in fs do
        if ok then ok ← isTrue f env (eval f env)
      if ok then bd (again (.compLoop c k it acc env)) else again (.compLoop c k it acc env))
/-- bd comes to its end, where Z holds -/
def Ends3 (prog : Program) (w : World) (A : Around) (bd : Sem PySem.Fin → Sem PySem.Fin) (Z : Shared → Prop) (s : Shared) : Prop :=
  ∀ (n : Sem PySem.Fin) (Q : PySem.Fin → Shared → Prop) (E : Value → Shared → Prop), (∀ s', Z s' → wpAny (model prog w) A n Q E s') → wpAny (model prog w) A (bd n) Q E s
theorem loopB (ht : TurnIs (.ListComp elt gs sc pos) tg k fs p it acc env bd) (I : Nat → Shared → Prop)
    (turn : ∀ n s, I n s → wpAny (model prog w) A (pyNext it) (fun r s1 => match r with
      | none => R (.ok .next) s1
      | some v => wpAny (model prog w) A (letOwnedTupleGo tg it v) (fun _ s2 => wpAny (model prog w) A (assign tg env v) (fun _ s3 =>
          wpAny (model prog w) A (forIn fs true fun f r => if r = true then do let ok ← isTrue f env (eval f env); pure (ForInStep.yield ok) else pure (ForInStep.yield r)) (fun ok s4 =>
            if ok = true then Ends3 prog w A bd (fun s5 => ∃ m, m < n ∧ I m s5) s4 else ∃ m, m < n ∧ I m s4) (fun _ _ => False) s3) (fun _ _ => False) s2) (fun _ _ => False) s1) (fun _ _ => False) s)
    (n : Nat) (s : Shared) (h : I n s) : codeAny (model prog w) A (.compLoop (.ListComp elt gs sc pos) k it acc env) R s := by
  refine codeAny_loop rfl I (fun n s hI => ?_) n h
  show wpAny _ A ((compTurn (.ListComp elt gs sc pos) k it acc env).onRaise (fun x => do noteFrame x env; theTreesLotGoes x)) _ _ s
  refine wpAny_noted ?_
  rw [show compTurn (.ListComp elt gs sc pos) k it acc env = _ from ht]
  refine wpAny_bind (wpAny_standAt (wpAny_bind (thnF (turn n s hI) fun r s1 h1 => ?_)))
  match r, h1 with
  | none, h1 => exact wpAny_pure h1
  | some v, h1 =>
    refine wpAny_bind (thnF h1 fun _ s2 h2 => wpAny_bind (thnF h2 fun _ s3 h3 => wpAny_bind (thnF h3 fun ok s4 h4 => ?_)))
    cases ok with
    | false => exact wpAny_pure ⟨rfl, h4⟩
    | true => exact h4 _ _ _ fun s5 h5 => wpAny_pure ⟨rfl, h5⟩
/-- where a later clause begins -/
def NextIs (c i1 : Expr) (k : Nat) (acc : Value) (env : Env) (n : Sem PySem.Fin) : Sem PySem.Fin := do
  let x ← eval i1 env
  standAt i1.pos
  let x ← foldedSetIterable i1 env x
  let _ ← runOwn (.compStart c k (← holding [x] (pyIter x)) acc env) env
  n
def LastIs (elt : Expr) (acc : Value) (env : Env) (n : Sem PySem.Fin) : Sem PySem.Fin := do
  (do let _ ← call (.builtin "list.append") [acc, ← eval elt env])
  n
theorem last_ok {Z : Shared → Prop} (h : wpAny (model prog w) A (eval elt env) (fun x s1 => wpAny (model prog w) A (call (.builtin "list.append") [acc, x]) (fun _ s2 => Z s2) (fun _ _ => False) s1) (fun _ _ => False) s) : Ends3 prog w A (LastIs elt acc env) Z s := by
  intro n Q E hn
  unfold LastIs
  exact wpAny_bind (wpAny_bind (thnF h fun x s1 h1 => wpAny_bind (thnF h1 fun _ s2 h2 => wpAny_pure (hn s2 h2))))
theorem next_ok {c : Expr} {Z : Shared → Prop} (hs : ∀ x, foldedSetIterable i1 env x = pure x)
    (h : wpAny (model prog w) A (eval i1 env) (fun x s1 => wpAny (model prog w) A (pyIter x) (fun it1 s2 => codeAny (model prog w) A (.compStart c k it1 acc env) (fun r s3 => match r with
      | .ok _ => Z s3
      | .error _ => False) s2) (fun _ _ => False) s1) (fun _ _ => False) s) : Ends3 prog w A (NextIs c i1 k acc env) Z s := by
  intro n Q E hn
  unfold NextIs
  refine wpAny_bind (thnF h fun x s1 h1 => wpAny_bind (wpAny_standAt (wpAny_bind (wpAny_of_eq (hs x) (wpAny_bind (wpAny_holding (thnF h1 fun it1 s2 h2 => ?_)))))))
  refine wpAny_bind (wpAny_runOwn ?_)
  rw [Around.mark_none]
  refine codeAny_mono h2 fun r s3 hr => ?_
  match r, hr with
  | .ok f, hr => exact hn s3 hr
  | .error e, hr => exact False.elim hr
/-- a later clause's iterator gives itself -/
theorem start_ok (hc : ((gs)[k]?).elim false (fun g => g.is_async != 0) = false) (h0 : codeAny (model prog w) A (.compLoop (.ListComp elt gs sc pos) k it acc env) R s)
    (h : wpAny (model prog w) A (pyIter it) (fun it' s' => codeAny (model prog w) A (.compLoop (.ListComp elt gs sc pos) k it' acc env) R s') (fun _ _ => False) s) :
    codeAny (model prog w) A (.compStart (.ListComp elt gs sc pos) k it acc env) R s := by
  refine codeAny_of_tree ?_
  show wpAny _ _ ((compStart (.ListComp elt gs sc pos) k it acc env).onRaise (fun x => do noteFrame x env; standAt theWindowsPlace)) _ _ s
  refine wpAny_notedAt ?_
  unfold compStart
  rw [show ((clausesOf (.ListComp elt gs sc pos))[k]?).elim false (fun g => g.is_async != 0) = false from hc]
  show wpAny _ _ (ask >>= _) _ _ s
  refine wpAny_bind (wpAny_askSetting (wpAny_ite ?_))
  split
  · exact wpAny_pure (And.intro rfl h0)
  · refine wpAny_bind (wpAny_rule ?_)
    have jp : wpAny (model prog w) A (pyIter it >>= fun l => again (.compLoop (.ListComp elt gs sc pos) k l acc env)) (fun f s' => match f with
        | .done f => R (.ok f) s'
        | .again c' => c'.quiet = true ∧ codeAny (model prog w) A c' R s') (fun _ _ => False) s := wpAny_bind (thnF h fun it' s' h' => wpAny_pure ⟨rfl, h'⟩)
    show wpAny _ _ (match (clausesOf (.ListComp elt gs sc pos))[k]? with
      | some g => standAt g.iter.pos >>= fun _ => (pyIter it >>= fun l => again (.compLoop (.ListComp elt gs sc pos) k l acc env))
      | _ => (pyIter it >>= fun l => again (.compLoop (.ListComp elt gs sc pos) k l acc env))) _ _ s
    split
    · exact wpAny_bind (wpAny_standAt (thnF jp fun _ _ z => z))
    · exact thnF jp fun _ _ z => z
end turns
section forms
variable (elt t0 i0 t1 i1 t2 i2 : Expr) (f0 f1 f2 : List Expr) (sc : Scope) (pos : Pos) (it acc : Value) (env : Env)
abbrev c3 : Expr := .ListComp elt [⟨t0, i0, f0, 0⟩, ⟨t1, i1, f1, 0⟩, ⟨t2, i2, f2, 0⟩] sc pos
theorem turn3_0 : TurnIs (c3 elt t0 i0 t1 i1 t2 i2 f0 f1 f2 sc pos) t0 0 f0 i0.pos it acc env (NextIs (c3 elt t0 i0 t1 i1 t2 i2 f0 f1 f2 sc pos) i1 1 acc env) := by
  unfold TurnIs NextIs
  rfl
theorem turn3_1 : TurnIs (c3 elt t0 i0 t1 i1 t2 i2 f0 f1 f2 sc pos) t1 1 f1 i1.pos it acc env (NextIs (c3 elt t0 i0 t1 i1 t2 i2 f0 f1 f2 sc pos) i2 2 acc env) := by
  unfold TurnIs NextIs
  rfl
theorem turn3_2 : TurnIs (c3 elt t0 i0 t1 i1 t2 i2 f0 f1 f2 sc pos) t2 2 f2 i2.pos it acc env (LastIs elt acc env) := by
  unfold TurnIs LastIs
  rfl
end forms
end Cb

namespace Cb
open PySem PySem.Spec PyProof.Rows L2 PySem.W
abbrev Stt := List (Option V)
abbrev TB := Stt → Hp → (Hp → Prop) → Prop
/-- what a clause's end asks: the element, laid behind the list at D -/
def tEnd (te : TE) (D : Addr) : TB := fun σ H N => te σ H fun y H1 => ∃ acc, H1 D = some (.lst acc) ∧ acc.length < sizeLine ∧ N (upd H1 D (.lst (acc ++ [y])))
/-- what a later clause asks -/
def tCl (wi : TI) (g : TG) (tt : TT) (tb : TB) (vs : List Nat) : TB := fun σ H N => wi σ H fun J H1 => ∃ W : Nat → Nat → Hp → Prop, (∃ m, W 0 m H1) ∧ ∀ j m H, W j m H →
  (J.stop j H ∧ N H) ∨ (J.go j H ∧ ∃ N1 : Hp → Prop, (∀ H', N1 H' → ∃ m', m' < m ∧ W (j + 1) m' H') ∧ ∀ x H', J.yld j H x H' → g x (wipe σ vs) H' fun σ2 H2 => wipe σ2 vs = wipe σ vs ∧ tt σ2 H2 fun b H3 => if b = true then tb σ2 H3 N1 else N1 H3)
section
variable {Y : Cx} {elt tg i1 : Expr} {gs : List Comprehension} {sc : Scope} {pos p : Pos} {k : Nat} {fs : List Expr} {D : Addr} {bd : Sem PySem.Fin → Sem PySem.Fin} {wi : TI} {g : TG} {tt : TT} {te : TE} {tb : TB} {vI vs : List Nat}
/-- bd keeps the block and does what tb asks; the slots vI are forgotten behind it -/
def Bd (Y : Cx) (bd : Sem PySem.Fin → Sem PySem.Fin) (tb : TB) (vI : List Nat) : Prop := ∀ (pins : List (Addr × Obj)) (σ : Stt) (H : Hp) (s : Shared) (N : Hp → Prop), Inv Y pins σ H s → tb σ H N →
  Ends3 Y.prog Y.w Y.A bd (fun s' => ∃ H', Inv Y pins (wipe σ vI) H' s' ∧ N H') s
theorem bd_last (hx : Y.xe = fun _ _ => False) (he : PE Y elt te) : Bd Y (LastIs elt (.ref D) Y.env) (tEnd te D) [] := by
  intro pins σ H s N I h
  have q := he.run pins s σ H _ I h
  rw [hx] at q
  refine last_ok (thnF q fun x s1 hz => ?_)
  obtain ⟨yv, H1, I1, r1, acc, hD, hl, nx⟩ := hz
  exact app_ok I1 hD hl r1 fun s2 I2 => ⟨_, I2, nx⟩
theorem bd_clause (hx : Y.xe = fun _ _ => False) (hc : Y.calm = true) (tu : ∀ it, TurnIs (.ListComp elt gs sc pos) tg k fs p it (.ref D) Y.env bd) (hgs : ((gs)[k]?).elim false (fun g => g.is_async != 0) = false)
    (hs : ∀ x, foldedSetIterable i1 Y.env x = pure x) (hi : PI Y tg i1 wi) (hg : PG Y tg g) (ht : PTs Y fs tt) (hb : Bd Y bd tb vI) (hv : ∀ i ∈ vI, i ∈ vs) :
    Bd Y (NextIs (.ListComp elt gs sc pos) i1 k (.ref D) Y.env) (tCl wi g tt tb vs) vs := by
  intro pins σ H s N I h
  have q := hi.run pins s σ H _ I h
  rw [hx] at q
  refine next_ok hs (thnF q fun xv s1 hz => thnF hz fun itv s2 h2 => ?_)
  obtain ⟨it, fp, tn, J, H2, rfl, I2, T, st2, f2, W, ⟨m0, w0⟩, tr⟩ := h2
  have fpk : ∀ {H' : Hp}, (∀ b ∈ fp, H' b = none) → ∀ b ∈ fp, FpOk Y pins H' b := fun n b hb => ⟨n b hb, (f2 b hb).2⟩
  have lp : codeAny (model Y.prog Y.w) Y.A (.compLoop (.ListComp elt gs sc pos) k (.ref it) (.ref D) Y.env) (fun r s3 => match r with
      | .ok _ => ∃ H', Inv Y pins (wipe σ vs) H' s3 ∧ N H'
      | .error _ => False) s2 := by
    refine loopB (tu _) (fun n s' => ∃ j H', Inv Y pins (wipe σ vs) H' s' ∧ tn j s'.heap ∧ (∀ b ∈ fp, H' b = none) ∧ W j n H') (fun n s3 h3 => ?_) m0 s2 ⟨0, H2, I2.weak (wipe_length _ _) (fun _ _ e => (wipe_some e).1), st2, fun b hb => (f2 b hb).1, w0⟩
    obtain ⟨j, H3, I3, st3, n3, w3⟩ := h3
    rcases tr j n H3 w3 with ⟨stop, nx⟩ | ⟨go, N1, hN, step⟩
    · refine thnF (T.done Y rfl rfl rfl hc j pins s3 _ H3 (fun _ _ => False) I3 (fpk n3) st3 stop) fun r s4 hr => ?_
      obtain ⟨rfl, I4⟩ := hr
      exact ⟨H3, I4, nx⟩
    · refine thnF (T.item Y rfl rfl rfl hc j pins s3 _ H3 (fun _ _ => False) I3 (fpk n3) st3 go) fun r s4 hr => ?_
      obtain ⟨u, rfl, h4⟩ := hr
      refine thnF h4 fun _ s5 h5 => ?_
      obtain ⟨x, H5, I5, r5, y5, st5, n5⟩ := h5
      have a1 := hg.run _ s5 _ H5 x u _ (I5.pinned (fpk n5) (T.obj _ _ st5)) r5 (step x H5 y5)
      rw [hx] at a1
      refine thnF a1 fun _ s6 h6 => ?_
      obtain ⟨σ6, H6, I6, e6, q6⟩ := h6
      have a2 := ht.run _ s6 σ6 H6 _ I6 q6
      rw [hx] at a2
      refine thnF a2 fun b s7 h7 => ?_
      obtain ⟨H7, I7, q7⟩ := h7
      have back : ∀ {σ8 : Stt} {s' : Shared} {H' : Hp}, Inv Y (pins ++ pinsAt fp s5.heap) σ8 H' s' → σ8.length = σ6.length → (∀ (i : Nat) v, (wipe σ vs)[i]? = some (some v) → σ8[i]? = some (some v)) → N1 H' →
          ∃ m, m < n ∧ ∃ j H', Inv Y pins (wipe σ vs) H' s' ∧ tn j s'.heap ∧ (∀ b ∈ fp, H' b = none) ∧ W j m H' := fun {σ8 s' H'} I' hl hk nx => by
        obtain ⟨m', hm, w'⟩ := hN H' nx
        have at_ : ∀ b ∈ fp, ∀ o, s5.heap.get? b = some o → s'.heap.get? b = some o ∧ H' b = none := fun b hb o e =>
          ⟨(I'.pin (b, o) (List.mem_append_right _ (List.mem_append_right _ (mem_pinsAt hb e)))).1, (I'.pin (b, o) (List.mem_append_right _ (List.mem_append_right _ (mem_pinsAt hb e)))).2.1⟩
        refine ⟨m', hm, j + 1, H', I'.unpinned.weak (by rw [hl, ← wipe_length σ6 vs, e6]) hk, T.keep _ _ _ st5 fun b hb o e => (at_ b hb o e).1, fun b hb => ?_, w'⟩
        obtain ⟨o, e, _⟩ := T.obj _ _ st5 b hb
        exact (at_ b hb o e).2
      have k6 : ∀ (i : Nat) v, (wipe σ vs)[i]? = some (some v) → σ6[i]? = some (some v) ∧ i ∉ vs := fun i v e => by
        rw [← e6] at e
        exact wipe_some e
      cases b with
      | false => exact back I7 rfl (fun i v e => (k6 i v e).1) q7
      | true =>
        intro nn QQ EE hn
        refine hb _ σ6 H7 s7 N1 I7 q7 nn QQ EE fun s8 h8 => hn s8 ?_
        obtain ⟨H8, I8, nx⟩ := h8
        refine back I8 (wipe_length _ _) (fun i v e => ?_) nx
        rw [wipe_out fun z => (k6 i v e).2 (hv i z)]
        exact (k6 i v e).1
  exact start_ok hgs lp (T.self Y.A 0 _ _ _ st2 lp)
end
section
variable {X : Cx}
/-- [elt for t0 in i0 for t1 in i1 for t2 in i2 ..]: D the new list -/
def tLcN (wi : TI) (g : TG) (tt : TT) (tb : Addr → TB) (vs : List Nat) : TE := fun σ H Q => wi σ H fun J H1 => ∀ D, H1 D = none → ∃ W : Nat → Nat → Hp → Prop, (∃ m, W 0 m (upd H1 D (.lst []))) ∧ ∀ i m H, W i m H →
  (J.stop i H ∧ Q (.ref D) H) ∨ (J.go i H ∧ ∃ N : Hp → Prop, (∀ H', N H' → ∃ m', m' < m ∧ W (i + 1) m' H') ∧ ∀ x H', J.yld i H x H' → g x (wipe σ vs) H' fun σ2 H2 => wipe σ2 vs = wipe σ vs ∧ tt σ2 H2 fun b H3 => if b = true then tb D σ2 H3 N else N H3)
theorem lcN_ok {elt tg iter : Expr} {ifs : List Expr} {rest : List Comprehension} {scope : Scope} {own : List (Str × Nat)} {pos : Pos} {wi : TI} {g : TG} {tt : TT} {tb : Addr → TB} {vI : List Nat} {bd : Addr → Env → Sem PySem.Fin → Sem PySem.Fin}
    (hc : X.calm = true) (hN : X.N.Nodup) (hi : PI X tg iter wi) (ok : BlkOk X.N X.env.scope scope own) (hs : ∀ x, foldedSetIterable iter X.env x = pure x)
    (tu : ∀ (it D : Addr) (env : Env), TurnIs (.ListComp elt (⟨tg, iter, ifs, 0⟩ :: rest) scope pos) tg 0 ifs iter.pos (.ref it) (.ref D) env (bd D env))
    (hg : ∀ (s : Shared) (H : Hp) (C : Addr) (cl : List (Str × Addr)) (fp : List Addr), PG (X.blk s H scope (compEnvC scope cl C X.env) fp) tg g) (ht : ∀ (s : Shared) (H : Hp) (C : Addr) (cl : List (Str × Addr)) (fp : List Addr), PTs (X.blk s H scope (compEnvC scope cl C X.env) fp) ifs tt)
    (hb : ∀ (s : Shared) (H : Hp) (C : Addr) (cl : List (Str × Addr)) (fp : List Addr) (D : Addr), Bd (X.blk s H scope (compEnvC scope cl C X.env) fp) (bd D (compEnvC scope cl C X.env)) (tb D) vI) (hv : ∀ i ∈ vI, i ∈ own.map (·.2)) :
    PE X (.ListComp elt (⟨tg, iter, ifs, 0⟩ :: rest) scope pos) (tLcN wi g tt tb (own.map (·.2))) := by
  refine ⟨fun pins s σ H Q I h => ?_⟩
  rw [eval_ListComp]
  have free_ : ∀ y ∈ scope.names, y.2 = .free → ∃ c, X.env.cells.lookup y.1 = some c := fun y hy e => I.ok.has _ (ok.free y hy e)
  refine wpAny_comprehension_free (use := none) rfl hs (closure_ok free_) ok.kind (fun y hy e => by rw [ok.uniq y hy, e]) (thn (hi.run pins s σ H _ I h) fun xv s1 hz => thn hz fun itv s2 h2 => ?_)
  obtain ⟨it, fp, tn, J, H2, rfl, I2, T, st2, f2, q⟩ := h2
  refine wpAny_newObj_type (newEnv_comp ?_) (by show 0 ≤ sizeLine; decide)
  generalize hD : s2.heap.objs.size = D
  obtain ⟨W, ⟨m0, w0⟩, tr⟩ := q D (I2.hok.fresh (Nat.le_of_eq hD))
  generalize es : ({ s2 with heap := s2.heap.push { cls := .type "list", data := .seq ([] : List Value).toArray } } : Shared) = s3
  have h3 : s3.heap = s2.heap.push { cls := .type "list", data := .seq ([] : List Value).toArray } := by rw [← es]
  have I3 : Inv X pins σ (upd H2 D (.lst [])) s3 := by
    rw [← es]
    refine I2.laid (t' := s2.toks) (fun b o e => Heap.get?_push_of_some _ e) (Nat.le_of_eq hD) ⟨Nat.zero_le _, [], 0, .nil, ?_⟩
    rw [← hD]
    exact Heap.get?_push_size _ rfl
  have f3 : ∀ b ∈ fp, FpOk X pins (upd H2 D (.lst [])) b ∧ b < s3.heap.objs.size := fun b hb => by
    obtain ⟨o, e, _⟩ := T.obj _ _ st2 b hb
    have lt_ := Heap.lt_size e
    refine ⟨⟨?_, (f2 b hb).2⟩, by rw [h3, Heap.size_push]; exact Nat.lt_succ_of_lt lt_⟩
    rw [upd_ne (by rw [← hD]; exact Nat.ne_of_lt lt_)]
    exact (f2 b hb).1
  have st3 : tn 0 s3.heap := T.keep _ _ _ st2 fun b _ o e => by rw [h3]; exact Heap.get?_push_of_some _ e
  have I4 := block_start I3 ok hN f3
  have pg := hg s3 (upd H2 D (.lst [])) s3.heap.objs.size (cellsFrom (s3.heap.objs.size + 1) scope.names (cloFrom X.env.cells scope.names [])) fp
  have pt := ht s3 (upd H2 D (.lst [])) s3.heap.objs.size (cellsFrom (s3.heap.objs.size + 1) scope.names (cloFrom X.env.cells scope.names [])) fp
  have pb := hb s3 (upd H2 D (.lst [])) s3.heap.objs.size (cellsFrom (s3.heap.objs.size + 1) scope.names (cloFrom X.env.cells scope.names [])) fp D
  show codeAny _ _ (.compStart (.ListComp elt (⟨tg, iter, ifs, 0⟩ :: rest) scope pos) 0 (.ref it) (.ref D) (compEnvC scope (cellsFrom (s3.heap.objs.size + 1) scope.names (cloFrom X.env.cells scope.names [])) s3.heap.objs.size X.env)) (compPost (model X.prog X.w) X.A X.xe none _ (.ref D) s3.heap.objs.size) { s3 with heap := pushCells (s3.heap.push { cls := .type "dict", data := .dict #[] }) scope.names }
  have nfp : ∀ b ∈ fp, (upd H2 D (.lst [])) b = none := fun b hb => (f3 b hb).1.1
  have tu0 := tu it D (compEnvC scope (cellsFrom (s3.heap.objs.size + 1) scope.names (cloFrom X.env.cells scope.names [])) s3.heap.objs.size X.env)
  generalize ec : compEnvC scope (cellsFrom (s3.heap.objs.size + 1) scope.names (cloFrom X.env.cells scope.names [])) s3.heap.objs.size X.env = ce at I4 pg pt pb tu0 ⊢
  have cL : ce.locals = s3.heap.objs.size := by subst ec; rfl
  generalize eH : upd H2 D (.lst []) = H3 at I3 I4 pg pt pb w0 nfp f3
  generalize e4 : ({ s3 with heap := pushCells (s3.heap.push { cls := .type "dict", data := .dict #[] }) scope.names } : Shared) = s4 at I4 ⊢
  have st4 : tn 0 s4.heap := T.keep _ _ _ st3 fun b _ o e => by rw [← e4]; exact pushCells_keeps _ _ _ _ (Heap.get?_push_of_some _ e)
  have fpk : ∀ {σ' : Stt} {H' : Hp} {s' : Shared}, Inv (X.blk s3 H3 scope ce fp) [] σ' H' s' → (∀ b ∈ fp, H' b = none) → ∀ b ∈ fp, FpOk (X.blk s3 H3 scope ce fp) [] H' b := fun {σ' H' s'} I' hn b hb =>
    ⟨hn b hb, (I'.ok.exf b hb).1, I'.ok.exfs b hb, .inl hb, fun x c e => (I'.ok.exf b hb).2 x c e, fun p hp => absurd (show p ∈ ([] : List (Addr × Obj)) ++ [] from hp) (by simp)⟩
  have lp : codeAny (model X.prog X.w) X.A (.compLoop (.ListComp elt (⟨tg, iter, ifs, 0⟩ :: rest) scope pos) 0 (.ref it) (.ref D) ce)
      (compPost (model X.prog X.w) X.A X.xe none (EP X pins σ Q) (.ref D) s3.heap.objs.size) s4 := by
    refine loopB tu0 (fun n s' => ∃ i H', Inv (X.blk s3 H3 scope ce fp) [] (wipe σ (own.map (·.2))) H' s' ∧ tn i s'.heap ∧ (∀ b ∈ fp, H' b = none) ∧ W i n H') (fun n s5 h5 => ?_) m0 s4 ⟨0, H3, I4, st4, nfp, w0⟩
    obtain ⟨i, H5, I5, st5, n5, w5⟩ := h5
    rcases tr i n H5 w5 with ⟨stop, qq⟩ | ⟨go, N1, hN1, step⟩
    · refine thnF (T.done (X.blk s3 H3 scope ce fp) rfl rfl rfl hc i [] s5 _ H5 (fun _ _ => False) I5 (fpk I5 n5) st5 stop) fun r s6 hr => ?_
      obtain ⟨rfl, I6⟩ := hr
      have I7 : Inv X pins σ H5 s6 := I3.call' (ch := fp) I6.os I6.base I6.hok I6.bare fun b hb => ⟨(f3 b hb).1.2.2.2.1, (f3 b hb).1.2.1, (f3 b hb).1.2.2.2.2.1, (f3 b hb).1.2.2.2.2.2⟩
      have nC : H5 s3.heap.objs.size = none := by
        rw [← cL]
        exact I6.free
      obtain ⟨m, hn, _⟩ := I6.loc
      have hn : s6.heap.Ns ce.locals m := hn
      rw [cL] at hn
      obtain ⟨g0, g1, _, g3, g4, g5⟩ := I3.fpOk (H' := H5) (Nat.le_refl _) nC
      exact ⟨m, hn, fun h'' sb => ⟨.ref D, H5, I7.turned (t' := s6.toks) (fun b o hb e => (sb.2 b hb).trans e) g0 g1 (by assumption) (by assumption) (by assumption), rfl, qq⟩⟩
    · refine thnF (T.item (X.blk s3 H3 scope ce fp) rfl rfl rfl hc i [] s5 _ H5 (fun _ _ => False) I5 (fpk I5 n5) st5 go) fun r s6 hr => ?_
      obtain ⟨u, rfl, h6⟩ := hr
      refine thnF h6 fun _ s7 h7 => ?_
      obtain ⟨x, H7, I7, r7, y7, st7, n7⟩ := h7
      refine thnF (pg.run _ s7 _ H7 x u _ (I7.pinned (fpk I7 n7) (T.obj _ _ st7)) r7 (step x H7 y7)) fun _ s8 h8 => ?_
      obtain ⟨σ8, H8, I8, e8, q8⟩ := h8
      refine thnF (pt.run _ s8 σ8 H8 _ I8 q8) fun b s9 h9 => ?_
      obtain ⟨H9, I9, q9⟩ := h9
      have back : ∀ {σ9 : Stt} {s' : Shared} {H' : Hp}, Inv (X.blk s3 H3 scope ce fp) ([] ++ pinsAt fp s7.heap) σ9 H' s' → σ9.length = σ8.length → (∀ (j : Nat) v, (wipe σ (own.map (·.2)))[j]? = some (some v) → σ9[j]? = some (some v)) → N1 H' →
          ∃ m, m < n ∧ ∃ i H', Inv (X.blk s3 H3 scope ce fp) [] (wipe σ (own.map (·.2))) H' s' ∧ tn i s'.heap ∧ (∀ b ∈ fp, H' b = none) ∧ W i m H' := fun {σ9 s' H'} I' hl hk nx => by
        obtain ⟨m', hm, w'⟩ := hN1 H' nx
        have at_ : ∀ b ∈ fp, ∀ o, s7.heap.get? b = some o → s'.heap.get? b = some o ∧ H' b = none := fun b hb o e =>
          ⟨(I'.pin (b, o) (List.mem_append_right _ (List.mem_append_right _ (mem_pinsAt hb e)))).1, (I'.pin (b, o) (List.mem_append_right _ (List.mem_append_right _ (mem_pinsAt hb e)))).2.1⟩
        refine ⟨m', hm, i + 1, H', (I'.unpinned (pins := [])).weak (by rw [hl, ← wipe_length σ8 (own.map (·.2)), e8]) hk, T.keep _ _ _ st7 fun b hb o e => (at_ b hb o e).1, fun b hb => ?_, w'⟩
        obtain ⟨o, e, _⟩ := T.obj _ _ st7 b hb
        exact (at_ b hb o e).2
      have k8 : ∀ (j : Nat) v, (wipe σ (own.map (·.2)))[j]? = some (some v) → σ8[j]? = some (some v) ∧ j ∉ own.map (·.2) := fun j v e => by
        rw [← e8] at e
        exact wipe_some e
      cases b with
      | false => exact back I9 rfl (fun j v e => (k8 j v e).1) q9
      | true =>
        intro nn QQ EE hn
        refine pb _ σ8 H9 s9 N1 I9 q9 nn QQ EE fun s10 h10 => hn s10 ?_
        obtain ⟨H10, I10, nx⟩ := h10
        refine back I10 (wipe_length _ _) (fun j v e => ?_) nx
        rw [wipe_out fun z => (k8 j v e).2 (hv j z)]
        exact (k8 j v e).1
  exact codeAny_compStart_list lp (T.self X.A 0 _ _ _ st4 lp)
end
end Cb

/-! Sets of people and lists of crews as data; what a draw may change. -/
namespace Cb
open PySem PySem.Spec PyProof.Rows L2 PySem.W
abbrev PD := PyData
/-! ### pairs of lists -/
theorem prd_get {α β : Type} {F : α → β → Prop} : ∀ {xs : List α} {ys : List β} {i : Nat} {y : β}, Paired F xs ys → ys[i]? = some y → ∃ x, xs[i]? = some x ∧ F x y
  | _, _, _, _, .nil, e => by simp at e
  | _, _, 0, _, .cons r _, e => by simp at e; subst e; exact ⟨_, rfl, r⟩
  | _, _, i + 1, y, .cons _ t, e => by
    obtain ⟨x, h1, h2⟩ := prd_get (i := i) (y := y) t (by simpa using e)
    exact ⟨x, by simpa using h1, h2⟩
theorem prd_getL {α β : Type} {F : α → β → Prop} : ∀ {xs : List α} {ys : List β} {i : Nat} {x : α}, Paired F xs ys → xs[i]? = some x → ∃ y, ys[i]? = some y ∧ F x y
  | _, _, _, _, .nil, e => by simp at e
  | _, _, 0, _, .cons r _, e => by simp at e; subst e; exact ⟨_, rfl, r⟩
  | _, _, i + 1, y, .cons _ t, e => by
    obtain ⟨x, h1, h2⟩ := prd_getL (i := i) (x := y) t (by simpa using e)
    exact ⟨x, by simpa using h1, h2⟩
theorem prd_mono {α β : Type} {F G : α → β → Prop} (h : ∀ a b, F a b → G a b) : ∀ {xs : List α} {ys : List β}, Paired F xs ys → Paired G xs ys
  | _, _, .nil => .nil
  | _, _, .cons r t => .cons (h _ _ r) (prd_mono h t)
theorem prd_app {α β : Type} {F : α → β → Prop} : ∀ {xs : List α} {ys : List β} {xs' : List α} {ys' : List β}, Paired F xs ys → Paired F xs' ys' → Paired F (xs ++ xs') (ys ++ ys')
  | _, _, _, _, .nil, s => s
  | _, _, _, _, .cons r t, s => .cons r (prd_app t s)
theorem prd_take {α β : Type} {F : α → β → Prop} : ∀ {xs : List α} {ys : List β} (n : Nat), Paired F xs ys → Paired F (xs.take n) (ys.take n)
  | _, _, 0, _ => .nil
  | _, _, _ + 1, .nil => .nil
  | _, _, n + 1, .cons r t => .cons r (prd_take n t)
theorem prd_drop {α β : Type} {F : α → β → Prop} : ∀ {xs : List α} {ys : List β} (n : Nat), Paired F xs ys → Paired F (xs.drop n) (ys.drop n)
  | _, _, 0, h => h
  | _, _, _ + 1, .nil => .nil
  | _, _, n + 1, .cons r t => prd_drop n t
theorem prd_len {α β : Type} {F : α → β → Prop} : ∀ {xs : List α} {ys : List β}, Paired F xs ys → xs.length = ys.length
  | _, _, .nil => rfl
  | _, _, .cons r t => congrArg Nat.succ (prd_len t)
theorem prd_map {α β γ δ : Type} {F : γ → δ → Prop} (f : α → γ) (g : β → δ) : ∀ {xs : List α} {ys : List β}, Paired (fun a b => F (f a) (g b)) xs ys → Paired F (xs.map f) (ys.map g)
  | _, _, .nil => .nil
  | _, _, .cons r t => .cons r (prd_map f g t)
theorem prd_fst {α β : Type} {F : α → β → Prop} : ∀ {xs : List α} {ys : List β}, Paired F xs ys → ∃ zs : List (α × β), zs.map (·.1) = xs ∧ zs.map (·.2) = ys ∧ ∀ z ∈ zs, F z.1 z.2
  | _, _, .nil => ⟨[], rfl, rfl, fun _ h => by simp at h⟩
  | _, _, .cons (a := a) (b := b) r t => by
    obtain ⟨zs, h1, h2, h3⟩ := prd_fst t
    refine ⟨(a, b) :: zs, by rw [List.map_cons, h1], by rw [List.map_cons, h2], fun z hz => ?_⟩
    rcases List.mem_cons.mp hz with e | hz
    · rw [e]
      exact r
    · exact h3 z hz
theorem prd_of {α β : Type} {F : α → β → Prop} : ∀ {zs : List (α × β)}, (∀ z ∈ zs, F z.1 z.2) → Paired F (zs.map (·.1)) (zs.map (·.2))
  | [], _ => .nil
  | z :: zs, h => .cons (h z List.mem_cons_self) (prd_of fun y hy => h y (List.mem_cons_of_mem _ hy))

/-! ### sets of people, lists of crews -/
def sD (ns : List Str) : PD := .tuple (ns.map .str)
def tD (ts : List (List Str)) : PD := .tuple (ts.map sD)
def S1 (K : Frag) (H : Hp) (v : V) (ns : List Str) : Prop := ∃ a, v = .ref a ∧ SqT K H a (ns.map V.str)
def S2 (K : Frag) (H : Hp) (v : V) (ts : List (List Str)) : Prop := ∃ a xs, v = .ref a ∧ SqT K H a xs ∧ Paired (S1 K H) xs ts
section
variable {K : Frag} {H H' H0 : Hp}
theorem dpStrs : ∀ ns : List Str, DpAll K H (ns.map V.str) (ns.map PyData.str)
  | [] => .nil
  | n :: ns => .cons (.str n) (dpStrs ns)
theorem S1.dp {v : V} {ns : List Str} (h : S1 K H v ns) : Dp K H v (sD ns) := by
  obtain ⟨a, rfl, h⟩ := h
  exact .tup h (dpStrs ns)
theorem s1s_dp : ∀ {xs : List V} {ts : List (List Str)}, Paired (S1 K H) xs ts → DpAll K H xs (ts.map sD)
  | _, _, .nil => .nil
  | _, _, .cons r t => .cons r.dp (s1s_dp t)
theorem S2.dp {v : V} {ts : List (List Str)} (h : S2 K H v ts) : Dp K H v (tD ts) := by
  obtain ⟨a, xs, rfl, h, t⟩ := h
  exact .tup h (s1s_dp t)
theorem S1.same {v : V} {ns : List Str} (e : Same H H') (h : S1 K H v ns) : S1 K H' v ns := by
  obtain ⟨a, rfl, h⟩ := h
  exact ⟨a, rfl, sameT e h⟩
theorem S2.same {v : V} {ts : List (List Str)} (e : Same H H') (h : S2 K H v ts) : S2 K H' v ts := by
  obtain ⟨a, xs, rfl, h, t⟩ := h
  exact ⟨a, xs, rfl, sameT e h, prd_mono (fun _ _ z => z.same e) t⟩
theorem same_upd {p : Addr} {o : HO} (h : H p = none) : Same H (upd H p o) := fun b x e => by
  rw [upd_ne (ne_of_none e h)]
  exact e
theorem same_mut {p : Addr} {o : HO} (e : Same H0 H) (h : H0 p = none) : Same H0 (upd H p o) := fun b x z => by
  rw [upd_ne (ne_of_none z h)]
  exact e b x z
theorem st_ (h : H' a = some (.tup xs)) : SqT K H' a xs := .inl (.inl h)
theorem sl_ (h : H' a = some (.lst xs)) : SqL K H' a xs := .inl (.inl h)

/-! ### the dict at r may change, all else stands -/
def Ch (r : Addr) (H H' : Hp) : Prop := ∀ b o, H b = some o → H' b = some o ∨ (b = r ∧ (∃ k, o = .dK k) ∧ ∃ k, H' b = some (.dK k))
variable {r : Addr}
theorem Ch.refl : Ch r H H := fun _ _ h => .inl h
theorem Ch.of (e : Same H H') : Ch r H H' := fun b o h => .inl (e b o h)
theorem Ch.trans (h1 : Ch r H0 H) (h2 : Ch r H H') : Ch r H0 H' := fun b o h => by
  rcases h1 b o h with e | ⟨rfl, k, k', e⟩
  · exact h2 b o e
  · rcases h2 _ _ e with e2 | ⟨_, _, k2, e2⟩
    · exact .inr ⟨rfl, k, k', e2⟩
    · exact .inr ⟨rfl, k, k2, e2⟩
theorem Ch.at (h : Ch r H H') {b : Addr} {o : HO} (e : H b = some o) (n : ∀ k, o ≠ .dK k) : H' b = some o := by
  rcases h b o e with z | ⟨_, ⟨k, z⟩, _⟩
  · exact z
  · exact absurd z (n k)
theorem Ch.lst (h : Ch r H H') {b : Addr} {xs : List V} (e : H b = some (.lst xs)) : H' b = some (.lst xs) := h.at e fun _ z => by cases z
theorem Ch.sqT (h : Ch r H H') {a : Addr} {xs : List V} (e : SqT K H a xs) : SqT K H' a xs := by
  rcases e with (e | ⟨o, e⟩) | e
  · exact .inl (.inl (h.at e fun _ z => by cases z))
  · exact .inl (.inr ⟨o, h.at e fun _ z => by cases z⟩)
  · exact .inr e
theorem Ch.sqL (h : Ch r H H') {a : Addr} {xs : List V} (e : SqL K H a xs) : SqL K H' a xs := by
  rcases e with (e | ⟨o, e⟩) | e
  · exact .inl (.inl (h.at e fun _ z => by cases z))
  · exact .inl (.inr ⟨o, h.at e fun _ z => by cases z⟩)
  · exact .inr e
theorem Ch.s1 (h : Ch r H H') {v : V} {ns : List Str} (e : S1 K H v ns) : S1 K H' v ns := by
  obtain ⟨a, rfl, e⟩ := e
  exact ⟨a, rfl, h.sqT e⟩
theorem Ch.s1s (h : Ch r H H') {xs : List V} {ts : List (List Str)} (e : Paired (S1 K H) xs ts) : Paired (S1 K H') xs ts := prd_mono (fun _ _ z => h.s1 z) e
theorem Ch.s2 (h : Ch r H H') {v : V} {ts : List (List Str)} (e : S2 K H v ts) : S2 K H' v ts := by
  obtain ⟨a, xs, rfl, e, t⟩ := e
  exact ⟨a, xs, rfl, h.sqT e, h.s1s t⟩
theorem Ch.free (h : Ch r H H') {l : Addr} (e : H' l = none) : H l = none := by
  cases q : H l with
  | none => rfl
  | some o =>
    rcases h l o q with z | ⟨_, _, k, z⟩
    · rw [e] at z; cases z
    · rw [e] at z; cases z
theorem Ch.upd (h : Ch r H0 H) {l : Addr} {o : HO} (n : H0 l = none) : Ch r H0 (L2.upd H l o) := fun b x e => by
  have nb := ne_of_none e n
  rw [upd_ne nb]
  exact h b x e
theorem Ch.new {l : Addr} {o : HO} (n : H l = none) : Ch r H (L2.upd H l o) := Ch.refl.upd n
theorem Ch.put {k k' : List (Key × V)} (e : H r = some (.dK k)) : Ch r H (L2.upd H r (.dK k')) := fun b o h => by
  by_cases hb : b = r
  · subst hb
    rw [e] at h
    cases h
    exact .inr ⟨rfl, ⟨_, rfl⟩, k', upd_same⟩
  · exact .inl (by rw [upd_ne hb]; exact h)
end

/-! ### sorted -/
/-- texts in order -/
def srt (ns : List Str) : List Str := ns.mergeSort (dataLe false PyData.str)
theorem srt_perm (ns : List Str) : (srt ns).Perm ns := List.mergeSort_perm ns _
theorem srt_len (ns : List Str) : (srt ns).length = ns.length := (srt_perm ns).length_eq
/-- crews in order -/
def srtT (ts : List (List Str)) : List (List Str) := ts.mergeSort (dataLe false sD)
theorem srtT_perm (ts : List (List Str)) : (srtT ts).Perm ts := List.mergeSort_perm ts _
section
variable {K : Frag} {H : Hp} {Q : VK}
theorem srt_any {a : Addr} {ns : List Str} (h : SqL K H a (ns.map V.str) ∨ SqT K H a (ns.map V.str)) (q : ∀ p, H p = none → Q (.ref p) (upd H p (.lst ((srt ns).map V.str)))) : rSrt K [.ref a] H Q := by
  refine ⟨a, ns.map fun s => (V.str s, PyData.str s), rfl, by rw [List.map_map]; exact h, fun b hb => ?_, fun d hd d' hd' => ?_, .inr fun d hd => ?_, fun b hb => ?_, fun p hp => ?_⟩
  · obtain ⟨s, _, rfl⟩ := List.mem_map.mp hb
    exact .str s
  · rw [List.map_map] at hd hd'
    obtain ⟨s, _, rfl⟩ := List.mem_map.mp hd
    obtain ⟨s', _, rfl⟩ := List.mem_map.mp hd'
    simp [alike]
  · rw [List.map_map] at hd
    obtain ⟨s, _, rfl⟩ := List.mem_map.mp hd
    exact ⟨fun z => (nomatch z), fun _ z => (nomatch z)⟩
  · obtain ⟨s, _, rfl⟩ := List.mem_map.mp hb
    simp [PyData.depth]
  · have e : ordD (ns.map fun s => (V.str s, PyData.str s)) = (srt ns).map fun s => (V.str s, PyData.str s) :=
      (sort_maps (fun s : Str => (V.str s, PyData.str s)) (r := dataLe false PyData.str) (s := dataLe false fun b : V × PD => b.2) fun _ _ _ _ => rfl).symm
    rw [e, List.map_map]
    exact q p hp
theorem srt_strs {a : Addr} {ns : List Str} (h : SqL K H a (ns.map V.str)) (q : ∀ p, H p = none → Q (.ref p) (upd H p (.lst ((srt ns).map V.str)))) : rSrt K [.ref a] H Q := srt_any (.inl h) q
theorem alike_strs : ∀ xs ys : List Str, alikeAll (xs.map PyData.str) (ys.map PyData.str) = true
  | [], _ => by simp [alikeAll]
  | _ :: _, [] => by simp [alikeAll]
  | x :: xs, y :: ys => by
    show alikeAll (PyData.str x :: xs.map PyData.str) (PyData.str y :: ys.map PyData.str) = true
    rw [alikeAll, alike_strs xs ys]
    simp [alike]
theorem depth_strs : ∀ xs : List Str, PyData.depthAll (xs.map PyData.str) = 0
  | [] => by simp [PyData.depthAll]
  | x :: xs => by
    show PyData.depthAll (PyData.str x :: xs.map PyData.str) = 0
    rw [PyData.depthAll, depth_strs xs]
    simp [PyData.depth]
theorem depth_sD (ns : List Str) : (sD ns).depth = 1 := by
  unfold sD
  rw [PyData.depth, depth_strs]
theorem srt_teams {a : Addr} {xs : List V} {ts : List (List Str)} (h : SqL K H a xs) (hp : Paired (S1 K H) xs ts) (h0 : ∀ t ∈ ts, t ≠ []) (q : ∀ p ys, H p = none → Paired (S1 K H) ys (srtT ts) → Q (.ref p) (upd H p (.lst ys))) : rSrt K [.ref a] H Q := by
  obtain ⟨zs, rfl, rfl, hz⟩ := prd_fst hp
  have e1 : (zs.map fun z => (z.1, sD z.2)).map (·.1) = zs.map (·.1) := by rw [List.map_map]; rfl
  refine ⟨a, zs.map fun z => (z.1, sD z.2), rfl, by rw [e1]; exact .inl h, fun b hb => ?_, fun d hd d' hd' => ?_, .inl fun d hd => ?_, fun b hb => ?_, fun p hp => ?_⟩
  · obtain ⟨s, hs, rfl⟩ := List.mem_map.mp hb
    exact (hz s hs).dp
  · rw [List.map_map] at hd hd'
    obtain ⟨s, _, rfl⟩ := List.mem_map.mp hd
    obtain ⟨s', _, rfl⟩ := List.mem_map.mp hd'
    show alike (sD s.2) (sD s'.2) = true
    unfold sD
    rw [alike]
    exact alike_strs _ _
  · rw [List.map_map] at hd
    obtain ⟨s, hs, rfl⟩ := List.mem_map.mp hd
    have n := h0 s.2 (List.mem_map.mpr ⟨s, hs, rfl⟩)
    show ∃ x r, sD s.2 = .tuple (x :: r)
    match e : s.2 with
    | [] => exact absurd e n
    | x :: r => exact ⟨PyData.str x, r.map PyData.str, rfl⟩
  · obtain ⟨s, _, rfl⟩ := List.mem_map.mp hb
    show (sD s.2).depth ≤ 50
    rw [depth_sD]
    decide
  · have e : ordD (zs.map fun z => (z.1, sD z.2)) = (zs.mergeSort (dataLe false fun z : V × List Str => sD z.2)).map fun z => (z.1, sD z.2) :=
      (sort_maps (fun z : V × List Str => (z.1, sD z.2)) (r := dataLe false fun z : V × List Str => sD z.2) (s := dataLe false fun b : V × PD => b.2) fun _ _ _ _ => rfl).symm
    have e2 : (zs.mergeSort (dataLe false fun z : V × List Str => sD z.2)).map (·.2) = srtT (zs.map (·.2)) :=
      sort_maps (fun z : V × List Str => z.2) (r := dataLe false fun z : V × List Str => sD z.2) (s := dataLe false sD) fun _ _ _ _ => rfl
    rw [e, List.map_map]
    refine q p ((zs.mergeSort (dataLe false fun z : V × List Str => sD z.2)).map (·.1)) hp ?_
    rw [← e2]
    exact prd_of fun z m => hz z (List.mem_mergeSort.mp m)
end
/-! ### who is in a set -/
def isIn (x : Str) (ns : List Str) : Bool := ns.any (· == x)
theorem inV_strs (x : Str) (ns : List Str) : inV (.str x) (ns.map V.str) = isIn x ns := by
  unfold inV isIn
  rw [List.any_map]
  rfl
theorem flat_strs (ns : List Str) : (ns.map V.str).all flatV = true := by
  rw [List.all_map]
  simp [flatV]
end Cb

/-! Comprehensions that change nothing; data compared; what a repr comes to. -/
namespace Cb
open PySem PySem.Spec PyProof.Rows L2 PySem.W
theorem take_snoc {α : Type} {xs : List α} {i : Nat} {x : α} (h : xs[i]? = some x) : xs.take (i + 1) = xs.take i ++ [x] := by
  rw [List.take_add_one, h]
  rfl
theorem big (h : n ≤ 100000) : n < sizeLine := Nat.lt_of_le_of_lt h (by decide)
/-! ### what stands whatever lists and dicts do -/
def Fx (H H' : Hp) : Prop := ∀ b o, H b = some o → (∃ xs, o = .lst xs) ∨ (∃ k, o = .dK k) ∨ H' b = some o
section
variable {K : Frag} {H H' H0 : Hp}
theorem Fx.refl : Fx H H := fun _ _ h => .inr (.inr h)
theorem Fx.of (e : Same H H') : Fx H H' := fun b o h => .inr (.inr (e b o h))
theorem Fx.ch {r : Addr} (e : Ch r H H') : Fx H H' := fun b o h => by
  rcases e b o h with z | ⟨_, z, _⟩
  · exact .inr (.inr z)
  · exact .inr (.inl z)
theorem Fx.trans (h1 : Fx H0 H) (h2 : Fx H H') : Fx H0 H' := fun b o h => by
  rcases h1 b o h with z | z | z
  · exact .inl z
  · exact .inr (.inl z)
  · exact h2 b o z
theorem Fx.mut {l : Addr} {xs : List V} {o : HO} (e : H l = some (.lst xs)) : Fx H (upd H l o) := fun b u h => by
  by_cases hb : b = l
  · subst hb
    rw [e] at h
    cases h
    exact .inl ⟨_, rfl⟩
  · exact .inr (.inr (by rw [upd_ne hb]; exact h))
theorem Fx.sqT (h : Fx H H') {a : Addr} {xs : List V} (e : SqT K H a xs) : SqT K H' a xs := by
  rcases e with (e | ⟨o, e⟩) | e
  · rcases h _ _ e with ⟨_, z⟩ | ⟨_, z⟩ | z
    · cases z
    · cases z
    · exact .inl (.inl z)
  · rcases h _ _ e with ⟨_, z⟩ | ⟨_, z⟩ | z
    · cases z
    · cases z
    · exact .inl (.inr ⟨o, z⟩)
  · exact .inr e
theorem Fx.s1 (h : Fx H H') {v : V} {ns : List Str} (e : S1 K H v ns) : S1 K H' v ns := by
  obtain ⟨a, rfl, e⟩ := e
  exact ⟨a, rfl, h.sqT e⟩
theorem Fx.s1s (h : Fx H H') {xs : List V} {ts : List (List Str)} (e : Paired (S1 K H) xs ts) : Paired (S1 K H') xs ts := prd_mono (fun _ _ z => h.s1 z) e
theorem Fx.s2 (h : Fx H H') {v : V} {ts : List (List Str)} (e : S2 K H v ts) : S2 K H' v ts := by
  obtain ⟨a, xs, rfl, e, t⟩ := e
  exact ⟨a, xs, rfl, h.sqT e, h.s1s t⟩
end
section
variable {K : Frag} {xs : List V} {tl : TE} {j : Nat} {vs : List Nat} {σ : Stt} {H : Hp} {Q : VK} {tt : TT} {te : TE}
theorem turn_filter {D : Addr} (f : V → Bool) (g : V → V) (hD : H D = none) (hn : xs.length ≤ 100000)
    (ht : ∀ x ∈ xs, ∀ H1, Same H H1 → ∀ R : Bool → Hp → Prop, R (f x) H1 → tt ((wipe σ vs).set j (some x)) H1 R)
    (he : ∀ x ∈ xs, f x = true → ∀ H1, Same H H1 → ∀ R : VK, (∀ H2, Same H1 H2 → R (g x) H2) → te ((wipe σ vs).set j (some x)) H1 R)
    {i : Nat} {x : V} {H' : Hp} (hi : xs[i]? = some x) (p : Same H H' ∧ H' D = some (.lst (((xs.take i).filter f).map g))) :
    tt ((wipe σ vs).set j (some x)) H' fun b H3 => if b = true then te ((wipe σ vs).set j (some x)) H3 fun y H4 => ∃ acc, H4 D = some (.lst acc) ∧ acc.length < sizeLine ∧
      (Same H (upd H4 D (.lst (acc ++ [y]))) ∧ (upd H4 D (.lst (acc ++ [y]))) D = some (.lst (((xs.take (i + 1)).filter f).map g))) else Same H H3 ∧ H3 D = some (.lst (((xs.take (i + 1)).filter f).map g)) := by
  have hx : x ∈ xs := List.mem_of_getElem? hi
  refine ht x hx H' p.1 _ ?_
  rw [take_snoc hi, List.filter_append, List.map_append]
  by_cases hf : f x = true
  · rw [if_pos hf]
    refine he x hx hf H' p.1 _ fun H2 e2 => ⟨_, e2 _ _ p.2, ?_, same_mut (p.1.trans e2) hD, ?_⟩
    · rw [List.length_map]
      exact big (Nat.le_trans (List.length_filter_le _ _) (by rw [List.length_take]; omega))
    · rw [upd_same, List.filter_cons_of_pos hf]
      rfl
  · rw [if_neg hf]
    refine ⟨p.1, ?_⟩
    rw [p.2, List.filter_cons_of_neg hf]
    simp
/-- [e for x in t if ..], t a tuple, nothing changed -/
theorem lcT_filter (f : V → Bool) (g : V → V) (hl : ∀ R : VK, (∀ a H1, Same H H1 → SqT K H1 a xs → R (.ref a) H1) → tl σ H R) (hn : xs.length ≤ 100000) (hj : ∀ x, wipe ((wipe σ vs).set j (some x)) vs = wipe σ vs)
    (ht : ∀ x ∈ xs, ∀ H1, Same H H1 → ∀ R : Bool → Hp → Prop, R (f x) H1 → tt ((wipe σ vs).set j (some x)) H1 R)
    (he : ∀ x ∈ xs, f x = true → ∀ H1, Same H H1 → ∀ R : VK, (∀ H2, Same H1 H2 → R (g x) H2) → te ((wipe σ vs).set j (some x)) H1 R)
    (q : ∀ D H', H D = none → Same H H' → H' D = some (.lst ((xs.filter f).map g)) → Q (.ref D) H') : tLc (iTup K tl) (gName j) tt te vs σ H Q := by
  refine hl _ fun a H1 e1 hs => ⟨a, rfl, ⟨xs, hs⟩, fun D hD => ?_⟩
  refine lc_tup (K := K) (a := a) (xs := xs) (fun i H' => Same H1 H' ∧ H' D = some (.lst (((xs.take i).filter f).map g))) ⟨same_upd hD, upd_same⟩ (fun i H' _ p => sameT p.1 hs)
    (fun i x H' hi p => ⟨hj x, turn_filter f g hD hn (fun x hx H2 e2 => ht x hx H2 (e1.trans e2)) (fun x hx hf H2 e2 => he x hx hf H2 (e1.trans e2)) hi p⟩) fun H' p => ?_
  refine q D H' (e1.free hD) (e1.trans p.1) ?_
  rw [p.2, List.take_length]
theorem lcL_filter (f : V → Bool) (g : V → V) (hl : ∀ R : VK, (∀ a H1, Same H H1 → SqL K H1 a xs → R (.ref a) H1) → tl σ H R) (hn : xs.length ≤ 100000) (hj : ∀ x, wipe ((wipe σ vs).set j (some x)) vs = wipe σ vs)
    (ht : ∀ x ∈ xs, ∀ H1, Same H H1 → ∀ R : Bool → Hp → Prop, R (f x) H1 → tt ((wipe σ vs).set j (some x)) H1 R)
    (he : ∀ x ∈ xs, f x = true → ∀ H1, Same H H1 → ∀ R : VK, (∀ H2, Same H1 H2 → R (g x) H2) → te ((wipe σ vs).set j (some x)) H1 R)
    (q : ∀ D H', H D = none → Same H H' → H' D = some (.lst ((xs.filter f).map g)) → Q (.ref D) H') : tLc (iList K tl) (gName j) tt te vs σ H Q := by
  refine hl _ fun a H1 e1 hs => ⟨a, rfl, ⟨xs, hs⟩, fun D hD => ?_⟩
  refine lc_list (K := K) (a := a) (xs := xs) (fun i H' => Same H1 H' ∧ H' D = some (.lst (((xs.take i).filter f).map g))) ⟨same_upd hD, upd_same⟩ (fun i H' _ p => p.1.seq hs)
    (fun i x H' hi p => ⟨hj x, turn_filter f g hD hn (fun x hx H2 e2 => ht x hx H2 (e1.trans e2)) (fun x hx hf H2 e2 => he x hx hf H2 (e1.trans e2)) hi p⟩) fun H' p => ?_
  refine q D H' (e1.free hD) (e1.trans p.1) ?_
  rw [p.2, List.take_length]
/-- every item gives one element, which stands for b -/
theorem turn_rel {β : Type} {F : Hp → V → β → Prop} (mono : ∀ H1 H2 v b, Fx H1 H2 → F H1 v b → F H2 v b) {bs : List β} {D : Addr} (hD : H D = none) (hn : xs.length ≤ 100000) (hlen : xs.length = bs.length)
    (he : ∀ (i : Nat) (x : V) (b : β), xs[i]? = some x → bs[i]? = some b → ∀ H1, Same H H1 → ∀ R : VK, (∀ v H2, Same H1 H2 → F H2 v b → R v H2) → te ((wipe σ vs).set j (some x)) H1 R)
    {i : Nat} {x : V} {H' : Hp} (hi : xs[i]? = some x) (p : Same H H' ∧ ∃ us, H' D = some (.lst us) ∧ Paired (F H') us (bs.take i)) :
    te ((wipe σ vs).set j (some x)) H' fun y H4 => ∃ acc, H4 D = some (.lst acc) ∧ acc.length < sizeLine ∧ (Same H (upd H4 D (.lst (acc ++ [y]))) ∧ ∃ us, (upd H4 D (.lst (acc ++ [y]))) D = some (.lst us) ∧ Paired (F (upd H4 D (.lst (acc ++ [y])))) us (bs.take (i + 1))) := by
  have hlt := (List.getElem?_eq_some_iff.mp hi).1
  obtain ⟨b, hb⟩ : ∃ b, bs[i]? = some b := ⟨bs[i]'(by omega), List.getElem?_eq_getElem (by omega)⟩
  obtain ⟨e1, us, hu, hp⟩ := p
  have hl := prd_len hp
  rw [List.length_take] at hl
  refine he i x b hi hb H' e1 _ fun v H2 e2 hv => ⟨us, e2 _ _ hu, big (by omega), same_mut (e1.trans e2) hD, us ++ [v], upd_same, ?_⟩
  have f2 : Fx H2 (upd H2 D (.lst (us ++ [v]))) := Fx.mut (e2 _ _ hu)
  rw [take_snoc hb]
  exact prd_app (prd_mono (fun _ _ z => mono _ _ _ _ ((Fx.of e2).trans f2) z) hp) (.cons (mono _ _ _ _ f2 hv) .nil)
theorem lcL_rel {β : Type} {F : Hp → V → β → Prop} (mono : ∀ H1 H2 v b, Fx H1 H2 → F H1 v b → F H2 v b) (bs : List β) (hl : ∀ R : VK, (∀ a H1, Same H H1 → SqL K H1 a xs → R (.ref a) H1) → tl σ H R) (hn : xs.length ≤ 100000) (hlen : xs.length = bs.length)
    (hj : ∀ x, wipe ((wipe σ vs).set j (some x)) vs = wipe σ vs)
    (he : ∀ (i : Nat) (x : V) (b : β), xs[i]? = some x → bs[i]? = some b → ∀ H1, Same H H1 → ∀ R : VK, (∀ v H2, Same H1 H2 → F H2 v b → R v H2) → te ((wipe σ vs).set j (some x)) H1 R)
    (q : ∀ D us H', H D = none → Same H H' → H' D = some (.lst us) → Paired (F H') us bs → Q (.ref D) H') : tLc (iList K tl) (gName j) tYes te vs σ H Q := by
  refine hl _ fun a H1 e1 hs => ⟨a, rfl, ⟨xs, hs⟩, fun D hD => ?_⟩
  refine lc_list (K := K) (a := a) (xs := xs) (fun i H' => Same H1 H' ∧ ∃ us, H' D = some (.lst us) ∧ Paired (F H') us (bs.take i)) ⟨same_upd hD, [], upd_same, .nil⟩ (fun i H' _ p => p.1.seq hs)
    (fun i x H' hi p => ⟨hj x, turn_rel mono hD hn hlen (fun i x b h1 h2 H2 e2 => he i x b h1 h2 H2 (e1.trans e2)) hi p⟩) fun H' p => ?_
  obtain ⟨e2, us, hu, hp⟩ := p
  rw [hlen, List.take_length] at hp
  exact q D us H' (e1.free hD) (e1.trans e2) hu hp
theorem lcT_rel {β : Type} {F : Hp → V → β → Prop} (mono : ∀ H1 H2 v b, Fx H1 H2 → F H1 v b → F H2 v b) (bs : List β) (hl : ∀ R : VK, (∀ a H1, Same H H1 → SqT K H1 a xs → R (.ref a) H1) → tl σ H R) (hn : xs.length ≤ 100000) (hlen : xs.length = bs.length)
    (hj : ∀ x, wipe ((wipe σ vs).set j (some x)) vs = wipe σ vs)
    (he : ∀ (i : Nat) (x : V) (b : β), xs[i]? = some x → bs[i]? = some b → ∀ H1, Same H H1 → ∀ R : VK, (∀ v H2, Same H1 H2 → F H2 v b → R v H2) → te ((wipe σ vs).set j (some x)) H1 R)
    (q : ∀ D us H', H D = none → Same H H' → H' D = some (.lst us) → Paired (F H') us bs → Q (.ref D) H') : tLc (iTup K tl) (gName j) tYes te vs σ H Q := by
  refine hl _ fun a H1 e1 hs => ⟨a, rfl, ⟨xs, hs⟩, fun D hD => ?_⟩
  refine lc_tup (K := K) (a := a) (xs := xs) (fun i H' => Same H1 H' ∧ ∃ us, H' D = some (.lst us) ∧ Paired (F H') us (bs.take i)) ⟨same_upd hD, [], upd_same, .nil⟩ (fun i H' _ p => sameT p.1 hs)
    (fun i x H' hi p => ⟨hj x, turn_rel mono hD hn hlen (fun i x b h1 h2 H2 e2 => he i x b h1 h2 H2 (e1.trans e2)) hi p⟩) fun H' p => ?_
  obtain ⟨e2, us, hu, hp⟩ := p
  rw [hlen, List.take_length] at hp
  exact q D us H' (e1.free hD) (e1.trans e2) hu hp
end

/-! ### data compared -/
theorem eqv_strs : ∀ xs ys : List Str, PyData.eqvAll (xs.map .str) (ys.map .str) = decide (xs = ys)
  | [], [] => by simp [PyData.eqvAll]
  | [], _ :: _ => by simp [PyData.eqvAll]
  | _ :: _, [] => by simp [PyData.eqvAll]
  | x :: xs, y :: ys => by
    show PyData.eqvAll (.str x :: xs.map .str) (.str y :: ys.map .str) = _
    rw [PyData.eqvAll, eqv_strs xs ys, PyData.eqv]
    by_cases h : x = y <;> by_cases h2 : xs = ys <;> simp [h, h2]
theorem eqv_sD (xs ys : List Str) : PyData.eqv (sD xs) (sD ys) = decide (xs = ys) := by
  unfold sD
  rw [PyData.eqv, eqv_strs]
/-- whether a set is one of these -/
def isOne (x : List Str) (ts : List (List Str)) : Bool := ts.any fun t => decide (t = x)
theorem any_sD (x : List Str) (ts : List (List Str)) : ((ts.map sD).any fun z => PyData.eqv z (sD x)) = isOne x ts := by
  unfold isOne
  rw [List.any_map]
  congr 1
  funext t
  exact eqv_sD t x
theorem eqv_strs_nil (xs : List Str) : PyData.eqv (.list (xs.map .str)) (.list []) = xs.isEmpty := by
  cases xs <;> simp [PyData.eqv, PyData.eqvAll]
theorem eqv_list_nil (xs : List PD) : PyData.eqv (.list xs) (.list []) = xs.isEmpty := by
  cases xs <;> simp [PyData.eqv, PyData.eqvAll]

/-! ### names that may stand in data -/
def okS (s : Str) : Prop := PyData.strOk s = true ∧ (reprText s).length ≤ 20
theorem lay_strs : ∀ ns : List Str, (∀ n ∈ ns, okS n) → PyData.canLayAll0 (ns.map .str) = true
  | [], _ => by simp [PyData.canLayAll0]
  | n :: ns, h => by
    show PyData.canLayAll0 (.str n :: ns.map .str) = true
    rw [PyData.canLayAll0, lay_strs ns fun m hm => h m (List.mem_cons_of_mem _ hm), PyData.canLay0, (h n List.mem_cons_self).1]
    rfl
theorem shaped_sD {ns : List Str} (h : ∀ n ∈ ns, okS n) : SeqAt.shaped (sD ns) = true := by
  unfold SeqAt.shaped
  rw [depth_sD]
  unfold sD
  rw [PyData.canLay0, lay_strs ns h]
  rfl
theorem shaped_strs {ns : List Str} (h : ∀ n ∈ ns, okS n) : SeqAt.shaped (.list (ns.map .str)) = true := by
  unfold SeqAt.shaped
  rw [PyData.canLay0, lay_strs ns h, PyData.depth, depth_strs]
  rfl
theorem lay_teams : ∀ ts : List (List Str), (∀ t ∈ ts, ∀ n ∈ t, okS n) → PyData.canLayAll0 (ts.map sD) = true
  | [], _ => by simp [PyData.canLayAll0]
  | t :: ts, h => by
    show PyData.canLayAll0 (sD t :: ts.map sD) = true
    rw [PyData.canLayAll0, lay_teams ts fun m hm => h m (List.mem_cons_of_mem _ hm), SeqAt.canLay_of_shaped (shaped_sD (h t List.mem_cons_self))]
    rfl
theorem depth_teams : ∀ ts : List (List Str), PyData.depthAll (ts.map sD) ≤ 1
  | [] => by simp [PyData.depthAll]
  | t :: ts => by
    show PyData.depthAll (sD t :: ts.map sD) ≤ 1
    rw [PyData.depthAll, depth_sD]
    exact Nat.max_le.mpr ⟨Nat.le_refl _, depth_teams ts⟩
theorem shaped_teams {ts : List (List Str)} (h : ∀ t ∈ ts, ∀ n ∈ t, okS n) : SeqAt.shaped (.list (ts.map sD)) = true := by
  unfold SeqAt.shaped
  rw [PyData.canLay0, lay_teams ts h, PyData.depth]
  have := depth_teams ts
  simp
  omega
theorem shaped_tD {ts : List (List Str)} (h : ∀ t ∈ ts, ∀ n ∈ t, okS n) : SeqAt.shaped (tD ts) = true := by
  unfold SeqAt.shaped tD
  rw [PyData.canLay0, lay_teams ts h, PyData.depth]
  have := depth_teams ts
  simp
  omega
/-! ### repr of lists of crews -/
theorem show_sD (ns : List Str) : PyData.showable (sD ns) = true := by
  unfold sD
  rw [PyData.showable]
  exact PyData.showableAll_strs ns
theorem nodict_sD : ∀ ns : List Str, PyData.hasDictAll (ns.map .str) = false
  | [] => by simp [PyData.hasDictAll]
  | n :: ns => by
    show PyData.hasDictAll (.str n :: ns.map .str) = false
    rw [PyData.hasDictAll, nodict_sD ns]
    simp [PyData.hasDict]
theorem nodict_tD : ∀ ts : List (List Str), PyData.hasDictAll (ts.map sD) = false
  | [] => by simp [PyData.hasDictAll]
  | t :: ts => by
    show PyData.hasDictAll (sD t :: ts.map sD) = false
    rw [PyData.hasDictAll, nodict_tD ts]
    unfold sD
    rw [PyData.hasDict, nodict_sD]
    rfl
theorem piled_le (m : Nat) : ∀ {ts : List Str}, (∀ t ∈ ts, t.length ≤ m) → piled ts ≤ ts.length * (m + 2)
  | [], _ => Nat.zero_le _
  | t :: ts, h => by
    have := piled_le m (ts := ts) fun x hx => h x (List.mem_cons_of_mem _ hx)
    have := h t List.mem_cons_self
    rw [piled_cons, List.length_cons, Nat.succ_mul]
    omega
theorem long_sD {ns : List Str} (h : ∀ n ∈ ns, okS n) (hl : ns.length ≤ 8) : (sD ns).shown.length ≤ 178 := by
  unfold sD
  rw [PyData.shown, PyData.shownAll_strs]
  have h1 := fmt_text (ns.map reprText)
  have h2 := piled_le 20 (ts := ns.map reprText) fun t ht => by
    obtain ⟨n, hn, rfl⟩ := List.mem_map.mp ht
    exact (h n hn).2
  rw [List.length_map] at h2
  have : ns.length * 22 ≤ 8 * 22 := Nat.mul_le_mul_right _ hl
  omega
theorem shown_all : ∀ ts : List PD, PyData.shownAll ts = ts.map PyData.shown
  | [] => by simp [PyData.shownAll]
  | t :: ts => by rw [PyData.shownAll, shown_all ts]; rfl
theorem long_tD {ts : List (List Str)} (h : ∀ t ∈ ts, t.length ≤ 8 ∧ ∀ n ∈ t, okS n) (hl : ts.length ≤ 1000) : (tD ts).shown.length ≤ sizeLine := by
  unfold tD
  rw [PyData.shown, shown_all, List.map_map]
  have h1 := fmt_text (ts.map (PyData.shown ∘ sD))
  have h2 := piled_le 178 (ts := ts.map (PyData.shown ∘ sD)) fun t ht => by
    obtain ⟨n, hn, rfl⟩ := List.mem_map.mp ht
    exact long_sD (h n hn).2 (h n hn).1
  rw [List.length_map] at h2
  have h3 : ts.length * 180 ≤ 1000 * 180 := Nat.mul_le_mul_right _ hl
  have h4 : 1000 * 180 + 2 ≤ sizeLine := by decide
  omega
theorem repr_teams {K : Frag} {H : Hp} {Q : VK} {a : Addr} {ts : List (List Str)} (h : S2 K H (.ref a) ts) (ho : ∀ t ∈ ts, t.length ≤ 8 ∧ ∀ n ∈ t, okS n) (hl : ts.length ≤ 1000) (q : Q (.str (tD ts).shown) H) : rRepr K [.ref a] H Q := by
  refine ⟨a, tD ts, rfl, h.dp, ?_, ?_, ?_, long_tD ho hl, q⟩
  · unfold tD
    rw [PyData.showable]
    exact PySem.Spec.showableAll_of fun x hx => by
      obtain ⟨t, _, rfl⟩ := List.mem_map.mp hx
      exact show_sD t
  · unfold tD
    rw [PyData.hasDict, nodict_tD]
  · unfold tD
    rw [PyData.depth]
    have := depth_teams ts
    omega
end Cb

/-! The layer's rules with the written part named, for use within comprehensions. -/
namespace Cb
open PySem PySem.Spec PyProof.Rows L2 PySem.W
section
variable (K : Frag) {X : Cx}
theorem o_nin (e : X.K = K := by rfl) : OpR X (compareOp .NotIn) (rIn K true) := by subst e; exact op_notIn_seq
theorem o_in (e : X.K = K := by rfl) : OpR X (compareOp .In) (rIn K false) := by subst e; exact op_in_seq
theorem o_inT (hu : X.A.units + 65 < cLine) (e : X.K = K := by rfl) : OpR X (compareOp .In) (rInT K) := by subst e; exact op_inT hu
theorem o_eqD (hu : X.A.units + 64 < cLine) (e : X.K = K := by rfl) : OpR X (compareOp .Eq) (rEqD K) := by subst e; exact op_eqD hu
theorem o_neD (hu : X.A.units + 64 < cLine) (e : X.K = K := by rfl) : OpR X (compareOp .NotEq) (rNeD K) := by subst e; exact op_neD hu
theorem o_catA (e : X.K = K := by rfl) : OpR X (binaryOp .Add) (rCatA K) := by subst e; exact op_catA
theorem i_list (e : X.K = K := by rfl) : IxR X (rIxL K) := by subst e; exact ix_list
theorem i_tup (e : X.K = K := by rfl) : IxR X (rIxT K) := by subst e; exact ix_tup
theorem s_list (e : X.K = K := by rfl) : SlR X (rSlL K) := by subst e; exact sl_list
theorem s_tupA (e : X.K = K := by rfl) : SlR X (rSlA K) := by subst e; exact sl_tupA
def rTupleOf (K : Frag) : List V → Hp → VK → Prop := fun xs H Q => ∃ p ys, xs = [.ref p] ∧ ((SqL K H p ys ∧ ∀ l, H l = none → Q (.ref l) (upd H l (.tup ys))) ∨ (SqT K H p ys ∧ Q (.ref p) H))
theorem c_tuple (e : X.K = K := by rfl) : CallR X (.type "tuple") (rTupleOf K) := by subst e; exact call_tuple_of
def rListOf (K : Frag) : List V → Hp → VK → Prop := fun xs H Q => ∃ p ys, xs = [.ref p] ∧ (SqL K H p ys ∨ SqT K H p ys) ∧ ∀ l, H l = none → Q (.ref l) (upd H l (.lst ys))
theorem c_list (e : X.K = K := by rfl) : CallR X (.type "list") (rListOf K) := by subst e; exact call_list_of
def rLenOf (K : Frag) : List V → Hp → VK → Prop := fun xs H Q => ∃ p ys, xs = [.ref p] ∧ (SqL K H p ys ∨ SqT K H p ys) ∧ Q (.int ys.length) H
theorem c_len (e : X.K = K := by rfl) : CallR X (.builtin "len") (rLenOf K) := by subst e; exact call_len_seq
theorem c_srt (hu : X.A.units + 64 < cLine) (e : X.K = K := by rfl) : CallR X (.builtin "sorted") (rSrt K) := by subst e; exact cr_srt hu
theorem c_any (hc : X.calm = true := by rfl) (e : X.K = K := by rfl) : CallR X (.builtin "any") (rAny K) := by subst e; exact cr_any hc
theorem c_all (hc : X.calm = true := by rfl) (e : X.K = K := by rfl) : CallR X (.builtin "all") (rAll K) := by subst e; exact cr_all hc
theorem c_repr (hu : X.A.units + 64 < cLine) (hg : Gu X.A) (e : X.K = K := by rfl) : CallR X (.builtin "repr") (rRepr K) := by subst e; exact cr_repr hu hg
theorem p_list {tg l : Expr} {tl : TE} (h : PE X l tl) (e : X.K = K := by rfl) : PI X tg l (iList K tl) := by subst e; exact pi_list h
theorem p_tup {tg l : Expr} {tl : TE} (h : PE X l tl) (e : X.K = K := by rfl) : PI X tg l (iTup K tl) := by subst e; exact pi_tup h
theorem p_app {o a : Expr} {apos cpos : Pos} {to te : TE} (ho : PE X o to) (ha : PE X a te)
    (h : PE X (.Call (.Attribute o "append" apos) [a] [] cpos) (tBM X.K "list" rAppend to (tCons te tNil))) (e : X.K = K := by rfl) :
    PE X (.Call (.Attribute o "append" apos) [a] [] cpos) (tBM K "list" rAppend to (tCons te tNil)) := by subst e; exact h
end
end Cb
namespace Cb
open PySem PySem.Spec PyProof.Rows L2 PySem.W
section
variable {K : Frag} {xs : List V} {tl : TE} {j : Nat} {vs : List Nat} {σ : Stt} {H : Hp} {tb : TB} {N : Hp → Prop}
/-- a later clause over a tuple -/
theorem cl_tup (Pv : Hp → Nat → Hp → Prop) (hl : ∀ R : VK, (∀ a H1, Same H H1 → SqT K H1 a xs → R (.ref a) H1) → tl σ H R) (hj : ∀ x, wipe ((wipe σ vs).set j (some x)) vs = wipe σ vs) (h0 : ∀ H1, Same H H1 → Pv H1 0 H1)
    (hst : ∀ i H1 H2, Pv H1 i H2 → Fx H1 H2) (hs : ∀ i x H0 H1, Same H H0 → xs[i]? = some x → Pv H0 i H1 → tb ((wipe σ vs).set j (some x)) H1 (Pv H0 (i + 1))) (hd : ∀ H0 H1, Same H H0 → Pv H0 xs.length H1 → N H1) : tCl (iTup K tl) (gName j) tYes tb vs σ H N := by
  refine hl _ fun a H1 e1 ht => ⟨a, rfl, ⟨xs, ht⟩, fun i m H' => m = xs.length - i ∧ i ≤ xs.length ∧ Pv H1 i H', ⟨xs.length, by simp, Nat.zero_le _, h0 H1 e1⟩, ?_⟩
  rintro i m H2 ⟨rfl, hi, p⟩
  have q := (hst i H1 H2 p).sqT ht
  by_cases hlt : i < xs.length
  · refine .inr ⟨⟨xs, xs[i], q, by simp [hlt]⟩, Pv H1 (i + 1), fun H' p' => ⟨xs.length - (i + 1), by omega, rfl, hlt, p'⟩, fun x H' y => ?_⟩
    obtain ⟨e, y⟩ := y
    subst e
    exact ⟨hj x, hs i x H1 _ e1 (y xs q) p⟩
  · obtain rfl : i = xs.length := by omega
    exact .inl ⟨⟨xs, q, Nat.le_refl _⟩, hd H1 H2 e1 p⟩
/-- the first clause over a tuple that stands -/
theorem lcN_tup {Q : VK} {a : Addr} {tbD : Addr → TB} (Pv : Addr → Nat → Hp → Prop) (hl : ∀ R : VK, R (.ref a) H → tl σ H R) (ht : SqT K H a xs) (hj : ∀ x, wipe ((wipe σ vs).set j (some x)) vs = wipe σ vs)
    (h0 : ∀ D, H D = none → Pv D 0 (upd H D (.lst []))) (hst : ∀ D i H2, Pv D i H2 → Fx H H2) (hs : ∀ D i x H1, xs[i]? = some x → Pv D i H1 → tbD D ((wipe σ vs).set j (some x)) H1 (Pv D (i + 1)))
    (hd : ∀ D H1, Pv D xs.length H1 → Q (.ref D) H1) : tLcN (iTup K tl) (gName j) tYes tbD vs σ H Q := by
  refine hl _ ⟨a, rfl, ⟨xs, ht⟩, fun D hD => ⟨fun i m H' => m = xs.length - i ∧ i ≤ xs.length ∧ Pv D i H', ⟨xs.length, by simp, Nat.zero_le _, h0 D hD⟩, ?_⟩⟩
  rintro i m H2 ⟨rfl, hi, p⟩
  have q := (hst D i H2 p).sqT ht
  by_cases hlt : i < xs.length
  · refine .inr ⟨⟨xs, xs[i], q, by simp [hlt]⟩, Pv D (i + 1), fun H' p' => ⟨xs.length - (i + 1), by omega, rfl, hlt, p'⟩, fun x H' y => ?_⟩
    obtain ⟨e, y⟩ := y
    subst e
    exact ⟨hj x, hs D i x _ (y xs q) p⟩
  · obtain rfl : i = xs.length := by omega
    exact .inl ⟨⟨xs, q, Nat.le_refl _⟩, hd D H2 p⟩
end
end Cb
namespace Cb
open PySem PySem.Spec PyProof.Rows L2 PySem.W
section
variable {K : Frag} {tl : TE} {j : Nat} {vs : List Nat} {σ : Stt} {H : Hp} {tt : TT} {g : TG} {tb : TS} {D : Ends} {Q : VK}
/-- for x in [s for s in t if ..], t a set of people -/
theorem for_names {ns : List Str} (p : Str → Bool) (hl : ∀ R : VK, (∀ a H1, Same H H1 → SqT K H1 a (ns.map V.str) → R (.ref a) H1) → tl σ H R) (hn : ns.length ≤ 1000) (hj : ∀ x, wipe ((wipe σ vs).set j (some x)) vs = wipe σ vs)
    (hv : ∀ x, ((wipe σ vs).set j (some x))[j]? = some (some x)) (ht : ∀ s ∈ ns, ∀ H1, Same H H1 → ∀ R : Bool → Hp → Prop, R (p s) H1 → tt ((wipe σ vs).set j (some (.str s))) H1 R)
    (lp : ∀ L H', H L = none → Same H H' → H' L = some (.lst ((ns.filter p).map V.str)) → ∃ Pv : Nat → Stt → Hp → Prop, Pv 0 σ H' ∧ (∀ i σ' H2, Pv i σ' H2 → H2 L = some (.lst ((ns.filter p).map V.str))) ∧
      (∀ i s σ' H2, (ns.filter p)[i]? = some s → Pv i σ' H2 → g (.str s) σ' H2 fun σ2 H3 => tb { D with nx := Pv (i + 1), ct := Pv (i + 1), bk := D.nx } σ2 H3) ∧ ∀ σ' H2, Pv (ns.filter p).length σ' H2 → D.nx σ' H2) :
    tFor (iList K (tLc (iTup K tl) (gName j) tt (tVar j) vs)) g tb D σ H := by
  unfold tFor iList
  refine lcT_filter (xs := ns.map V.str) (fun v => match v with | .str s => p s | _ => false) id hl (by rw [List.length_map]; omega) hj (fun v m H1 e1 R hR => ?_) (fun v m _ H1 e1 R hR => ⟨v, hv v, hR H1 (Same.refl H1)⟩) fun L H' nL e hL => ?_
  · obtain ⟨s, hs, rfl⟩ := List.mem_map.mp m
    exact ht s hs H1 e1 R hR
  · have e2 : ((ns.map V.str).filter (fun v => match v with | .str s => p s | _ => false)).map id = (ns.filter p).map V.str := by
      rw [List.map_id, List.filter_map]
      rfl
    rw [e2] at hL
    obtain ⟨Pv, h0, hst, hs, hd⟩ := lp L H' nL e hL
    refine ⟨L, rfl, ⟨_, sl_ hL⟩, for_list (xs := (ns.filter p).map V.str) Pv h0 (fun i σ' H2 _ z => sl_ (hst i σ' H2 z)) (fun i x σ' H2 hi z => ?_) fun σ' H2 z => ?_⟩
    · rw [List.getElem?_map] at hi
      obtain ⟨s, h1, rfl⟩ := Option.map_eq_some_iff.mp hi
      exact hs i s σ' H2 h1 z
    · rw [List.length_map] at z
      exact hd σ' H2 z
/-- t + u, sets of people -/
theorem cat_names {a b : Addr} {xs ys : List Str} (h1 : SqT K H a (xs.map V.str)) (h2 : SqT K H b (ys.map V.str)) (hn : xs.length + ys.length ≤ 100000) (q : ∀ z H', Same H H' → SqT K H' z ((xs ++ ys).map V.str) → Q (.ref z) H') : rCatA K (.ref a) (.ref b) H Q := by
  refine ⟨a, b, xs.map V.str, ys.map V.str, rfl, rfl, h1, h2, by rw [List.length_map, List.length_map]; exact Nat.le_of_lt (big hn), fun e => ?_, fun _ e => ?_, fun _ _ z nz => ?_⟩
  · have e' : xs = [] := List.map_eq_nil_iff.mp e
    subst e'
    exact q b H (Same.refl H) h2
  · have e' : ys = [] := List.map_eq_nil_iff.mp e
    subst e'
    refine q a H (Same.refl H) ?_
    rw [List.append_nil]
    exact h1
  · refine q z _ (same_upd nz) (st_ ?_)
    rw [upd_same, List.map_append]
end
end Cb
namespace Cb
open PySem PySem.Spec PyProof.Rows L2 PySem.W
/-- x = [], then the rest -/
theorem sq_lst {i : Nat} {rest : TS} {D : Ends} {σ : Stt} {H : Hp} (h : ∀ p, H p = none → rest D (σ.set i (some (.ref p))) (upd H p (.lst []))) : tSeq (tAsg (tLst tNil) (gName i)) rest D σ H := ⟨Nat.zero_le _, fun p hp => h p hp⟩
theorem sq_for {wi : TI} {g : TG} {tb u : TS} {D : Ends} {σ : Stt} {H : Hp} (h : tFor wi g tb { D with nx := u D } σ H) : tSeq (tFor wi g tb) u D σ H := h
theorem sq_while {tc : TT} {tb u : TS} {D : Ends} {σ : Stt} {H : Hp} (h : tWhile tc tb { D with nx := u D } σ H) : tSeq (tWhile tc tb) u D σ H := h
end Cb
namespace Cb
open PySem PySem.Spec PyProof.Rows L2 PySem.W
/-- sorted(xs, key=len), xs a list of sets of people -/
def tSrtLen (K : Frag) (ta : TE) : TE := fun σ H Q => ta σ H fun x H1 => ∃ (a : Addr) (bs : List (V × List Str)), x = .ref a ∧ SqL K H1 a (bs.map (·.1)) ∧ (∀ b ∈ bs, S1 K H1 b.1 b.2) ∧
  ∀ p, H1 p = none → Q (.ref p) (upd H1 p (.lst ((bs.mergeSort (dataLe false fun b : V × List Str => PyData.int b.2.length)).map (·.1))))
theorem pe_srtLen {X : Cx} {p q pos kpos : Pos} {e : Expr} {ta : TE} (hu : X.A.units + 64 < cLine) (ms : X.mg "sorted" = none) (ml : X.mg "len" = none) (gs : Gl X "sorted") (gl : Gl X "len") (ha : PE X e ta)
    (he : backTo pos (starEach [e] X.env) = (false, eval e X.env) :: backTo pos (starEach [] X.env) := by rfl) (hpl : (backTo pos (starEach [e] X.env)).any (·.1) = false := by rfl)
    (hall : (backToKw pos (keywordEach [⟨some "key", .Name "len" q, kpos⟩] X.env)).all (·.1.isSome) = true := by rfl) (hnone : (backToKw pos (keywordEach [⟨some "key", .Name "len" q, kpos⟩] X.env)).any (·.1.isNone) = false := by rfl)
    (hks : (backToKw pos (keywordEach [⟨some "key", .Name "len" q, kpos⟩] X.env)).filterMap (·.1) = [Str.ofString "key"] := by rfl)
    (hst : starEach [e] X.env = (false, eval e X.env) :: starEach [] X.env := by rfl) : PE X (.Call (.Name "sorted" p) [e] [⟨some "key", .Name "len" q, kpos⟩] pos) (tSrtLen X.K ta) := by
  refine ⟨fun pins s σ H Q I h => wpAny_Call_Name_kw (ld_blt I gs ms (u := .builtin "sorted") (by decide +kernel) ?_)⟩
  refine PyProof.Rows.callWith_kw (thn ((pa_cons ha pa_nil hst).run pos pins s σ H (fun vs H1 => ∃ x, vs = [x] ∧ ∃ (a : Addr) (bs : List (V × List Str)), x = .ref a ∧ SqL X.K H1 a (bs.map (·.1)) ∧ (∀ b ∈ bs, S1 X.K H1 b.1 b.2) ∧
    ∀ p, H1 p = none → Q (.ref p) (upd H1 p (.lst ((bs.mergeSort (dataLe false fun b : V × List Str => PyData.int b.2.length)).map (·.1))))) I ?_) fun us s1 hz => ?_) he hpl hall hnone
  · unfold tSrtLen at h
    exact (show ta σ H (fun x H1 => ∃ y, [x] = [y] ∧ _) from by
      have h2 : ta σ H (fun x H1 => ∃ (a : Addr) (bs : List (V × List Str)), x = .ref a ∧ SqL X.K H1 a (bs.map (·.1)) ∧ (∀ b ∈ bs, S1 X.K H1 b.1 b.2) ∧
        ∀ p, H1 p = none → Q (.ref p) (upd H1 p (.lst ((bs.mergeSort (dataLe false fun b : V × List Str => PyData.int b.2.length)).map (·.1))))) := h
      have e : (fun (x : V) (H1 : Hp) => ∃ y, [x] = [y] ∧ ∃ (a : Addr) (bs : List (V × List Str)), y = .ref a ∧ SqL X.K H1 a (bs.map (·.1)) ∧ (∀ b ∈ bs, S1 X.K H1 b.1 b.2) ∧
        ∀ p, H1 p = none → Q (.ref p) (upd H1 p (.lst ((bs.mergeSort (dataLe false fun b : V × List Str => PyData.int b.2.length)).map (·.1))))) =
          fun x H1 => ∃ (a : Addr) (bs : List (V × List Str)), x = .ref a ∧ SqL X.K H1 a (bs.map (·.1)) ∧ (∀ b ∈ bs, S1 X.K H1 b.1 b.2) ∧
        ∀ p, H1 p = none → Q (.ref p) (upd H1 p (.lst ((bs.mergeSort (dataLe false fun b : V × List Str => PyData.int b.2.length)).map (·.1)))) := by
        funext x H1
        apply propext
        constructor
        · rintro ⟨y, e, z⟩
          cases e
          exact z
        · exact fun z => ⟨x, rfl, z⟩
      rw [e]
      exact h2)
  · obtain ⟨vs, H1, I1, r1, x, rfl, a, bs, rfl, hs, hb, q1⟩ := hz
    rw [Vals.ref1 r1]
    show wpAny _ _ (evalAll [(do let v ← eval (.Name "len" q) X.env; standAt pos; pure v)]) _ _ s1
    refine wpAny_evalAll_cons (wpAny_bind (ld_blt I1 gl ml (u := .builtin "len") (by decide +kernel) (wpAny_bind (wpAny_standAt (wpAny_pure (wpAny_evalAll_nil ?_))))))
    rw [hks]
    obtain ⟨its, rv, hl, hz⟩ := I1.list hs
    have e0 := each_in (fun b : V × List Str => b.1) rv
    have hn := line63
    refine sorted_key_data (R := fun u b => RelV b.1 u) (b := false) (f := .builtin "len") (kw := [("key", .builtin "len")]) (fun b : V × List Str => PyData.int b.2.length) hl.isList e0 (fun d hd d' hd' => ?_) (.inr fun d hd => ?_) (by rw [List.length_map] at hz; exact hz) (fun b _ => ?_) (ksk_s1 _ _) (fun x => ksk_l1 _ _) (fun x => ksk_t4 "len" x) (fun v b hr hbm h tk keep => ?_) fun out c h' tk keep _ hat h1 h2 => ?_
    · obtain ⟨b, _, rfl⟩ := List.mem_map.mp hd
      obtain ⟨b', _, rfl⟩ := List.mem_map.mp hd'
      simp [alike]
    · obtain ⟨b, _, rfl⟩ := List.mem_map.mp hd
      exact ⟨fun z => (nomatch z), fun _ z => (nomatch z)⟩
    · simp [PyData.depth]
      omega
    · obtain ⟨t, e, ht⟩ := hb b hbm
      rw [e] at hr
      cases hr
      obtain ⟨ws, r', ⟨o, ho, hc, n, hd⟩, hz'⟩ := I1.tuple ht
      have hlen := r'.length
      rw [List.length_map] at hlen hz'
      exact len_tuple (items := ws.toArray) ⟨o, keep _ _ ho, hc, n, hd⟩ (by simp only [List.size_toArray]; omega) ⟨h, tk + 1 + 1, rfl, fun _ _ e => e, by rw [List.size_toArray, ← hlen]; exact .int _ _⟩
    · have ro := each_out (fun b : V × List Str => b.1) h2
      have hl2 : ((bs.mergeSort (dataLe false fun b : V × List Str => PyData.int b.2.length)).map (·.1)).length ≤ sizeLine := by
        rw [List.length_map, List.length_mergeSort, ← List.length_map (f := (·.1))]
        exact hz
      exact ⟨.ref _, upd H1 (s1.heap.objs.size + 1) (.lst ((bs.mergeSort (dataLe false fun b : V × List Str => PyData.int b.2.length)).map (·.1))), I1.laid (t' := tk) keep (Nat.le_succ _) ⟨hl2, out, c, ro, hat⟩, rfl, q1 _ (I1.hok.fresh (Nat.le_succ _))⟩
end Cb

/-! A def called by its one parameter's name; slices and sums of lists of crews. -/
namespace Cb
open PySem PySem.Spec PyProof.Rows L2 PySem.W
theorem sq_set {i : Nat} {te : TE} {rest : TS} {D : Ends} {σ : Stt} {H : Hp} (h : te σ H fun x H1 => rest D (σ.set i (some x)) H1) : tSeq (tAsg te (gName i)) rest D σ H := h
section
variable {X : Cx} {k : Nat} {f : Addr} {fd : FuncData} {CX : CXT} {ps : List Str} {sp : Sp} {x y : Str} {p pos : Pos} {kws : List Keyword} {tk : TA} {E : XK}
/-- f(y = e) -/
theorem pe_callK1 (F : FnOk X.prog X.w X.K X.mg X.base CX k f fd [y] sp) (hr : Room k X.A) (hg : Gl X x) (hm : X.mg x = some (.ref f)) (hk : keepIn X.K (.ref f) = true) (hb : ∀ (s : Shared) (u : Value), BindsTo s fd ⟨[], [(y, u)]⟩ [(y, u)]) (hx : Passes CX X E) (hkw : PK X kws tk)
    (hall : (backToKw pos (keywordEach kws X.env)).all (·.1.isSome) = true := by rfl) (hks : (backToKw pos (keywordEach kws X.env)).filterMap (·.1) = [y] := by rfl) (hdb : (x == ("__debug__" : Str)) = false := by decide)
    (hpl : ((backTo pos (starEach [] X.env)).any (·.1) || (backToKw pos (keywordEach kws X.env)).any (·.1.isNone)) = false := by rfl) :
    PE X (.Call (.Name x p) [] kws pos) (tCall sp [] E tk) := by
  refine ⟨fun pins s σ H Q I h => ?_⟩
  refine wpAny_Call_Name_kw (ld_glob I hg hm ?_ hdb)
  refine PySem.W.callWith_KW0 (h₀ := X.base) I.ok.mod.kin hk hall ?_ hpl
  refine thn (hkw.run pos pins s σ H _ I h) fun ws s2 ⟨zs, H2, I2, rz, q2⟩ => ⟨I2.kIn, ?_⟩
  rw [hks]
  have q3 : sp (zs ++ []) H2 Q E := q2
  rw [List.append_nil] at q3
  have hl := F.len _ _ _ _ q3
  have hl2 := rz.length
  obtain ⟨u, rfl⟩ : ∃ u, ws = [u] := by
    match ws, hl2 with
    | [], e => rw [hl] at e; simp at e
    | [u], _ => exact ⟨u, rfl⟩
    | _ :: _ :: _, e => rw [hl] at e; simp at e
  refine wpAny_call (codeAny_mono (F.run X.A X.stack s2 H2 ⟨[], [(y, u)]⟩ [u] zs Q E hr I2.env0 (hb s2 u) rz q3) fun r s' hq => ?_)
  cases r with
  | error e => exact hx pins σ _ _ e s' I2 hq
  | ok fl =>
    cases fl with
    | ret u => exact I2.after hq
    | next => exact False.elim hq
    | brk => exact False.elim hq
    | cont => exact False.elim hq
end
section
variable {K : Frag} {H : Hp} {Q : VK}
theorem slA_teams {x : V} {ts : List (List Str)} {lo hi : Option Int} (h : S2 K H x ts) (q : ∀ v H' ts', Same H H' → S2 K H' v ts' → ts'.length ≤ HT.sIx ts.length ts.length hi - HT.sIx ts.length 0 lo → (∀ t ∈ ts', t ∈ ts) → Q v H') : rSlA K x lo hi H Q := by
  obtain ⟨a, xs, rfl, ha, hp⟩ := h
  have hl := prd_len hp
  refine ⟨a, xs, rfl, ha, fun hw => q _ H ts (Same.refl _) ⟨a, xs, rfl, ha, hp⟩ (by rw [← hl, hw.1, hw.2]; omega) (fun _ z => z), fun _ p np => ?_⟩
  have s := same_upd (o := .tup (cutV xs lo hi)) np
  refine q (.ref p) _ ((ts.drop (HT.sIx xs.length 0 lo)).take (HT.sIx xs.length xs.length hi - HT.sIx xs.length 0 lo)) s ⟨p, _, rfl, st_ upd_same, prd_mono (fun _ _ z => z.same s) (prd_take _ (prd_drop _ hp))⟩ ?_ fun t ht => List.mem_of_mem_drop (List.mem_of_mem_take ht)
  rw [List.length_take, ← hl]
  omega
theorem cat_teams {x y : V} {ts us : List (List Str)} (h1 : S2 K H x ts) (h2 : S2 K H y us) (hn : ts.length + us.length ≤ 100000) (q : ∀ v H', Same H H' → S2 K H' v (ts ++ us) → Q v H') : rCatA K x y H Q := by
  have g1 := h1
  have g2 := h2
  obtain ⟨a, xs, rfl, ha, hp⟩ := h1
  obtain ⟨b, ys, rfl, hb, hq⟩ := h2
  have l1 := prd_len hp
  have l2 := prd_len hq
  refine ⟨a, b, xs, ys, rfl, rfl, ha, hb, Nat.le_of_lt (big (by omega)), fun e => ?_, fun _ e => ?_, fun _ _ p np => ?_⟩
  · subst e
    have : ts = [] := List.eq_nil_of_length_eq_zero (by simpa using l1.symm)
    subst this
    exact q _ H (Same.refl _) g2
  · subst e
    have : us = [] := List.eq_nil_of_length_eq_zero (by simpa using l2.symm)
    subst this
    refine q _ H (Same.refl _) ?_
    rw [List.append_nil]
    exact g1
  · have s := same_upd (o := .tup (xs ++ ys)) np
    exact q _ _ s ⟨p, _, rfl, st_ upd_same, prd_mono (fun _ _ z => z.same s) (prd_app hp hq)⟩
theorem shaped_nilT : SeqAt.shaped (.tuple []) = true := by
  unfold SeqAt.shaped
  simp [PyData.canLay0, PyData.canLayAll0, PyData.depth, PyData.depthAll]
end
end Cb

/-! The program's own defs. -/
namespace K49
open PySem PySem.Spec PyProof.Rows L2 PySem.W Cb
def top (i : Nat) : Stmt := PySem.Challenge.pw_crewbook_k49_good_crews_told.main.body.getD i (.Pass ⟨0, 0, 0, 0⟩)
/-- the built-in names that nobody hides -/
structure Blt (mg : Str → Option Value) : Prop where
  len : mg "len" = none
  list : mg "list" = none
  tuple : mg "tuple" = none
  range : mg "range" = none
  sorted : mg "sorted" = none
  any : mg "any" = none
  all : mg "all" = none
  min : mg "min" = none
  max : mg "max" = none
  repr : mg "repr" = none
/-- a def of the text that stands where its name says, with its promise -/
structure Own (P : Program) (w : World) (K : Frag) (mg : Str → Option Value) (base : Heap) (k : Nat) (x : Str) (ps : List Str) (sp : Sp) where
  f : Addr
  fd : FuncData
  G : FnOk P w K mg base CX0 k f fd ps sp
  m : mg x = some (.ref f)
  kp : keepIn K (.ref f) = true
  b : Binds K fd ps []
section
variable {P : Program} {w : World} {K : Frag} {mg : Str → Option Value} {base : Heap}
/-! ### newcomers -/
abbrev s_newcomers : Stmt := top 1
abbrev N_newcomers : List Str := ["crew", "other", "person"]
theorem sc_newcomers : FnScope N_newcomers ["crew", "other"] (defScope s_newcomers) := ⟨rfl, rfl, rfl, by decide +kernel, rfl, by decide +kernel, by decide +kernel⟩
def nc (c o : List Str) : List Str := o.filter fun p => !isIn p c
def sp_newcomers (K : Frag) : Sp := fun vs H Q _ => ∃ (x y : V) (c o : List Str), vs = [x, y] ∧ S1 K H x c ∧ S1 K H y o ∧ o.length ≤ 1000 ∧ ∀ v H', Same H H' → S1 K H' v (nc c o) → Q v H'
theorem ok_newcomers {f : Addr} {fd : FuncData} {k : Nat} (F : Fun K "newcomers" "newcomers" s_newcomers f fd) (B : Blt mg) : FnOk P w K mg base CX0 (k + 1) f fd ["crew", "other"] (sp_newcomers K) := by
  refine F.ok sc_newcomers (fun vs H Q E h => ?_) (fun cdv A outer s H vs Q E hr h => ?_)
  · obtain ⟨_, _, _, _, rfl, _⟩ := h
    rfl
  · obtain ⟨x, y, c, o, rfl, hc, ⟨a, rfl, ho⟩, hl, q⟩ := h
    refine ⟨_, pss_one (ps_ret (pe_callTy (c_tuple K) (by rfl) B.tuple (by decide +kernel) (pa_cons (pe_lc (own := [("person", 2)]) (g := gName 2) rfl sc_newcomers.nd (p_tup K (pv 1)) (blkOk_by (own := [("person", 2)]) (N := N_newcomers) (sc := defScope s_newcomers) (by decide +kernel))
      (fun _ _ _ _ _ => pg_name (i := 2) sc_newcomers.nd rfl (Or.inl rfl)) (fun _ _ _ _ _ => pts_one (pt_cmpR (o_nin K) (pv 2) (pv 0) rfl)) (fun _ _ _ _ _ => pv 2)) pa_nil))), ?_⟩
    obtain ⟨ac, rfl, hc⟩ := hc
    unfold tRet tCB tCons
    refine lcT_filter (xs := o.map V.str) (fun v => match v with | .str p => !isIn p c | _ => false) id (fun R hR => ⟨_, rfl, hR a H (Same.refl H) ho⟩) (by rw [List.length_map]; omega) (fun _ => rfl) (fun v hv H1 e1 R hR => ?_) (fun v hv _ H1 e1 R hR => ⟨v, rfl, hR H1 (Same.refl H1)⟩) fun D H' hD e hH => ?_
    · obtain ⟨p, _, rfl⟩ := List.mem_map.mp hv
      exact ⟨_, rfl, _, rfl, ac, _, rfl, .inr (sameT e1 hc), rfl, flat_strs c, _, rfl, by rw [inV_strs]; exact hR⟩
    · have e2 : ((o.map V.str).filter (fun v => match v with | .str p => !isIn p c | _ => false)).map id = (nc c o).map V.str := by
        rw [List.map_id, List.filter_map]
        rfl
      rw [e2] at hH
      refine ⟨D, _, rfl, .inl ⟨sl_ hH, fun t nt => ?_⟩⟩
      exact q _ _ (e.trans (same_upd nt)) ⟨t, rfl, st_ upd_same⟩
end
end K49

namespace K49
open PySem PySem.Spec PyProof.Rows L2 PySem.W Cb
theorem flat_le {α β : Type} (m : Nat) (f : α → List β) : ∀ l : List α, (∀ x ∈ l, (f x).length ≤ m) → (l.flatMap f).length ≤ l.length * m
  | [], _ => by simp
  | x :: l, h => by
    have h1 := flat_le m f l fun y hy => h y (List.mem_cons_of_mem _ hy)
    have h2 := h x List.mem_cons_self
    rw [List.flatMap_cons, List.length_append, List.length_cons, Nat.succ_mul]
    omega
/-- lists of crews as the law makes them -/
structure Gt (ts : List (List Str)) : Prop where
  many : ts.length ≤ 64
  each : ∀ t ∈ ts, t ≠ [] ∧ t.length ≤ 8 ∧ ∀ n ∈ t, okS n
section
variable {P : Program} {w : World} {K : Frag} {mg : Str → Option Value} {base : Heap}
/-! ### exchanged -/
abbrev s_exchanged : Stmt := top 3
abbrev N_exchanged : List Str := ["crew", "person", "other", "member"]
theorem sc_exchanged : FnScope N_exchanged ["crew", "person", "other"] (defScope s_exchanged) := ⟨rfl, rfl, rfl, by decide +kernel, rfl, by decide +kernel, by decide +kernel⟩
def but (c : List Str) (p : Str) : List Str := c.filter fun m => !decide (m = p)
def ex (c : List Str) (p o : Str) : List Str := srt (but c p ++ [o])
def sp_exchanged (K : Frag) : Sp := fun vs H Q _ => ∃ (x : V) (c : List Str) (p o : Str), vs = [x, .str p, .str o] ∧ S1 K H x c ∧ c.length ≤ 1000 ∧ ∀ v H', Same H H' → S1 K H' v (ex c p o) → Q v H'
theorem ok_exchanged {f : Addr} {fd : FuncData} {k : Nat} (F : Fun K "exchanged" "exchanged" s_exchanged f fd) (B : Blt mg) : FnOk P w K mg base CX0 (k + 1) f fd ["crew", "person", "other"] (sp_exchanged K) := by
  refine F.ok sc_exchanged (fun vs H Q E h => ?_) (fun cdv A outer s H vs Q E hr h => ?_)
  · obtain ⟨_, _, _, _, rfl, _⟩ := h
    rfl
  · obtain ⟨x, c, p, o, rfl, ⟨a, rfl, hc⟩, hl, q⟩ := h
    refine ⟨_, (pss_one (ps_ret (pe_callTy (c_tuple K) (by rfl) B.tuple (by decide +kernel) (pa_cons (pe_callB (c_srt K hr.units) (by rfl) B.sorted (by decide +kernel) (pa_cons (pe_op op_cat
      (pe_lc (own := [("member", 3)]) (g := gName 3) rfl sc_exchanged.nd (p_tup K (pv 0)) (blkOk_by (own := [("member", 3)]) (N := N_exchanged) (sc := defScope s_exchanged) (by decide +kernel)) (fun _ _ _ _ _ => (pg_name (i := 3) sc_exchanged.nd rfl (Or.inl rfl)))
        (fun _ _ _ _ _ => (pts_one (pt_cmpR op_ne (pv 3) (pv 1) (nomark _)))) (fun _ _ _ _ _ => (pv 3))) (pe_lst (pa_cons (pv 2) pa_nil))) pa_nil)) pa_nil)))), ?_⟩
    unfold tRet tCB tCons tOp tNil
    refine lcT_filter (xs := c.map V.str) (fun v => match v with | .str m => !decide (m = p) | _ => false) id (fun R hR => ⟨_, rfl, hR a H (Same.refl H) hc⟩) (by rw [List.length_map]; omega) (fun _ => rfl) (fun v hv H1 e1 R hR => ?_) (fun v hv _ H1 e1 R hR => ⟨v, rfl, hR H1 (Same.refl H1)⟩) fun D H' hD e hH => ?_
    · obtain ⟨m, _, rfl⟩ := List.mem_map.mp hv
      refine ⟨_, rfl, _, rfl, rfl, _, rfl, ?_⟩
      have e2 : decide (V.str m = V.str p) = decide (m = p) := by simp
      rw [e2]
      exact hR
    · have e2 : ((c.map V.str).filter (fun v => match v with | .str m => !decide (m = p) | _ => false)).map id = (but c p).map V.str := by
        rw [List.map_id, List.filter_map]
        rfl
      rw [e2] at hH
      have hbl : (but c p).length ≤ 1000 := Nat.le_trans (List.length_filter_le _ _) hl
      refine ⟨_, rfl, (by decide : 1 ≤ sizeLine), fun l nl => ⟨D, l, _, _, rfl, rfl, by rw [upd_ne (ne_of_none hH nl)]; exact hH, upd_same, Nat.le_of_lt (big (by rw [List.length_map]; show (but c p).length + 1 ≤ _; omega)), fun p1 np => ?_⟩⟩
      have e3 : (but c p).map V.str ++ [V.str o] = (but c p ++ [o]).map V.str := by rw [List.map_append]; rfl
      rw [e3]
      show rSrt K [.ref p1] _ _
      refine srt_strs (sl_ upd_same) fun p2 np2 => ⟨p2, _, rfl, .inl ⟨sl_ upd_same, fun t nt => ?_⟩⟩
      exact q _ _ (((e.trans (same_upd nl)).trans (same_upd np)).trans ((same_upd np2).trans (same_upd nt))) ⟨t, rfl, st_ upd_same⟩
/-! ### can_exchange -/
abbrev s_can_exchange : Stmt := top 4
abbrev N_can_exchange : List Str := ["crews", "crew", "person", "other", "member"]
theorem sc_can_exchange : FnScope N_can_exchange ["crews", "crew", "person", "other"] (defScope s_can_exchange) := ⟨rfl, rfl, rfl, by decide +kernel, rfl, by decide +kernel, by decide +kernel⟩
def canEx (ts : List (List Str)) (c : List Str) (p : Str) (o : List Str) : Bool := (nc c o).any fun m => isOne (ex c p m) ts
theorem ok_but {c : List Str} {p : Str} (h : ∀ n ∈ c, okS n) : ∀ n ∈ but c p, okS n := fun n hn => h n (List.mem_filter.mp hn).1
theorem ok_ex {c : List Str} {p o : Str} (h : ∀ n ∈ c, okS n) (ho : okS o) : ∀ n ∈ ex c p o, okS n := fun n hn => by
  have h1 := (srt_perm _).mem_iff.mp hn
  rcases List.mem_append.mp h1 with h1 | h1
  · exact ok_but h n h1
  · rw [List.mem_singleton.mp h1]
    exact ho
theorem ok_nc {c o : List Str} (h : ∀ n ∈ o, okS n) : ∀ n ∈ nc c o, okS n := fun n hn => h n (List.mem_filter.mp hn).1
def sp_can (K : Frag) : Sp := fun vs H Q _ => ∃ (x y z : V) (ts : List (List Str)) (c o : List Str) (p : Str), vs = [x, y, .str p, z] ∧ S2 K H x ts ∧ S1 K H y c ∧ S1 K H z o ∧ (∀ t ∈ ts, ∀ n ∈ t, okS n) ∧ (c.length ≤ 8 ∧ ∀ n ∈ c, okS n) ∧ (o.length ≤ 8 ∧ ∀ n ∈ o, okS n) ∧
  ∀ H', Same H H' → Q (.bl (canEx ts c p o)) H'
theorem ok_can {f : Addr} {fd : FuncData} {k : Nat} (F : Fun K "can_exchange" "can_exchange" s_can_exchange f fd) (B : Blt mg) (D_newcomers : Own P w K mg base 1 "newcomers" ["crew", "other"] (sp_newcomers K)) (D_exchanged : Own P w K mg base 1 "exchanged" ["crew", "person", "other"] (sp_exchanged K)) :
    FnOk P w K mg base CX0 (k + 2) f fd ["crews", "crew", "person", "other"] (sp_can K) := by
  refine F.ok sc_can_exchange (fun vs H Q E h => ?_) (fun cdv A outer s H vs Q E hr h => ?_)
  · obtain ⟨_, _, _, _, _, _, _, rfl, _⟩ := h
    rfl
  · obtain ⟨x, y, z, ts, c, o, p, rfl, ht, hc, ho, okt, okc, oko, q⟩ := h
    have hr1 : Room 1 _ := hr.mono (Nat.le_add_left 1 k)
    have hu : (A.deeper (envOfC "can_exchange" (defScope s_can_exchange) s.heap.objs.size f cdv)).units + 65 < cLine := by
      have := hr.un
      omega
    refine ⟨_, (pss_one (ps_ret (pe_callB (c_any K) (by rfl) B.any (by decide +kernel) (pa_cons (pe_lc (own := [("member", 4)]) (g := gName 4) (tt := tYes) rfl sc_can_exchange.nd (p_tup K (pe_call D_newcomers.G hr1 rfl D_newcomers.m D_newcomers.kp D_newcomers.b .nil pass0 (pa_cons (pv 1) (pa_cons (pv 3) pa_nil))))
      (blkOk_by (own := [("member", 4)]) (N := N_can_exchange) (sc := defScope s_can_exchange) (by decide +kernel)) (fun _ _ _ _ _ => (pg_name (i := 4) sc_can_exchange.nd rfl (Or.inl rfl))) (fun _ _ _ _ _ => pts_nil)
      (fun _ _ _ _ _ => (pe_cmpR (o_inT K hu) (pe_call D_exchanged.G hr1 rfl D_exchanged.m D_exchanged.kp D_exchanged.b .nil pass0 (pa_cons (pv 1) (pa_cons (pv 2) (pa_cons (pv 4) pa_nil)))) (pv 0) rfl))) pa_nil)))), ?_⟩
    unfold tRet tCB tCons tNil
    refine lcT_filter (xs := (nc c o).map V.str) (fun _ => true) (fun v => match v with | .str m => .bl (isOne (ex c p m) ts) | _ => .non) (fun R hR => ?_) (by rw [List.length_map]; have := List.length_filter_le (fun p => !isIn p c) o; unfold nc; omega) (fun _ => rfl) (fun v hv H1 e1 R hR => hR) (fun v hv _ H1 e1 R hR => ?_) fun D H' hD e hH => ?_
    · refine ⟨_, rfl, _, rfl, y, z, c, o, rfl, hc, ho, by omega, fun v H' e hv => ?_⟩
      obtain ⟨a, rfl, hv⟩ := hv
      exact hR a H' e hv
    · obtain ⟨m, hm, rfl⟩ := List.mem_map.mp hv
      refine ⟨_, rfl, _, rfl, _, rfl, y, c, p, m, rfl, hc.same e1, by omega, fun v2 H2 e2 h2 => ⟨_, rfl, sD (ex c p m), ts.map sD, h2.dp, (ht.same (e1.trans e2)).dp, shaped_sD (ok_ex okc.2 (ok_nc oko.2 m hm)), shaped_teams okt, ?_⟩⟩
      rw [any_sD]
      exact hR H2 e2
    · have e2 : (((nc c o).map V.str).filter (fun _ => true)).map (fun v => match v with | .str m => V.bl (isOne (ex c p m) ts) | _ => .non) = ((nc c o).map fun m => isOne (ex c p m) ts).map V.bl := by
        rw [List.filter_eq_self.mpr (fun _ _ => rfl), List.map_map, List.map_map]
        rfl
      rw [e2] at hH
      refine ⟨D, _, rfl, sl_ hH, ?_⟩
      have e3 : ((nc c o).map fun m => isOne (ex c p m) ts).any id = canEx ts c p o := by
        rw [List.any_map]
        rfl
      rw [e3]
      exact q H' e
/-! ### all_exchange, is_good -/
abbrev s_all_exchange : Stmt := top 5
abbrev N_all_exchange : List Str := ["crews", "crew", "other", "person"]
theorem sc_all_exchange : FnScope N_all_exchange ["crews"] (defScope s_all_exchange) := ⟨rfl, rfl, rfl, by decide +kernel, rfl, by decide +kernel, by decide +kernel⟩
def goodB (ts : List (List Str)) : List Bool := ts.flatMap fun c => ts.flatMap fun o => (nc o c).map fun p => canEx ts c p o
def sp_good (K : Frag) : Sp := fun vs H Q _ => ∃ (x : V) (ts : List (List Str)), vs = [x] ∧ S2 K H x ts ∧ Gt ts ∧ ∀ H', Same H H' → Q (.bl ((goodB ts).all id)) H'
theorem nc_le (c o : List Str) : (nc c o).length ≤ o.length := List.length_filter_le _ _
theorem ok_all {f : Addr} {fd : FuncData} {k : Nat} (F : Fun K "all_exchange" "all_exchange" s_all_exchange f fd) (B : Blt mg) (D_newcomers : Own P w K mg base 1 "newcomers" ["crew", "other"] (sp_newcomers K)) (D_can : Own P w K mg base 2 "can_exchange" ["crews", "crew", "person", "other"] (sp_can K)) :
    FnOk P w K mg base CX0 (k + 3) f fd ["crews"] (sp_good K) := by
  refine F.ok sc_all_exchange (fun vs H Q E h => ?_) (fun cdv A outer s H vs Q E hr h => ?_)
  · obtain ⟨_, _, rfl, _⟩ := h
    rfl
  · obtain ⟨x, ts, rfl, ht, gt, q⟩ := h
    have hr1 : Room 1 _ := hr.mono (by omega)
    have hr2 : Room 2 _ := hr.mono (by omega)
    refine ⟨_, (pss_one (ps_ret (pe_callB (c_all K) (by rfl) B.all (by decide +kernel) (pa_cons
      (lcN_ok (own := [("crew", 1), ("other", 2), ("person", 3)]) (g := gName 1) (tt := tYes) (vI := [2, 3]) rfl sc_all_exchange.nd (p_tup K (pv 0)) (blkOk_by (N := N_all_exchange) (sc := defScope s_all_exchange) (by decide +kernel)) (by intro _; rfl)
        (fun it D env => turn3_0 _ _ _ _ _ _ _ _ _ _ _ _ _ _ _) (fun _ _ _ _ _ => pg_name (i := 1) sc_all_exchange.nd rfl (Or.inl rfl)) (fun _ _ _ _ _ => pts_nil)
        (fun _ _ _ _ _ D => bd_clause (vs := [2, 3]) (g := gName 2) (tt := tYes) rfl rfl (fun it => turn3_1 _ _ _ _ _ _ _ _ _ _ _ _ _ _ _) rfl (by intro _; rfl) (p_tup K (pv 0)) (pg_name (i := 2) sc_all_exchange.nd rfl (Or.inl rfl)) pts_nil
          (bd_clause (vs := [3]) (g := gName 3) (tt := tYes) rfl rfl (fun it => turn3_2 _ _ _ _ _ _ _ _ _ _ _ _ _ _ _) rfl (by intro _; rfl) (p_tup K (pe_call D_newcomers.G hr1 rfl D_newcomers.m D_newcomers.kp D_newcomers.b .nil pass0 (pa_cons (pv 2) (pa_cons (pv 1) pa_nil)))) (pg_name (i := 3) sc_all_exchange.nd rfl (Or.inl rfl)) pts_nil
            (bd_last rfl (pe_call D_can.G hr2 rfl D_can.m D_can.kp D_can.b .nil pass0 (pa_cons (pv 0) (pa_cons (pv 1) (pa_cons (pv 3) (pa_cons (pv 2) pa_nil)))))) (by simp)) (by simp)) (by simp)) pa_nil)))), ?_⟩
    unfold tRet tCB tCons tNil
    obtain ⟨a, xs, rfl, ha, hp⟩ := ht
    have ht : S2 K H (.ref a) ts := ⟨a, xs, rfl, ha, hp⟩
    have hxl : xs.length = ts.length := prd_len hp
    have part : ∀ c ∈ ts, ∀ l : List (List Str), (∀ o ∈ l, o ∈ ts) → (l.flatMap fun o => (nc o c).map fun p => canEx ts c p o).length ≤ l.length * 8 := fun c hc l _ => flat_le 8 _ l fun o _ => by
      rw [List.length_map]
      exact Nat.le_trans (nc_le o c) (gt.each c hc).2.1
    have part2 : ∀ i, i ≤ 64 → ((ts.take i).flatMap fun c => ts.flatMap fun o => (nc o c).map fun p => canEx ts c p o).length ≤ 64 * 512 := fun i hi => by
      have h1 := flat_le 512 (fun c => ts.flatMap fun o => (nc o c).map fun p => canEx ts c p o) (ts.take i) fun c hc => by
        have := part c (List.mem_of_mem_take hc) ts fun _ z => z
        have := gt.many
        omega
      have h2 : (ts.take i).length * 512 ≤ 64 * 512 := Nat.mul_le_mul_right _ (by rw [List.length_take]; omega)
      omega
    refine lcN_tup (a := a) (xs := xs) (fun D i H1 => H D = none ∧ Same H H1 ∧ H1 D = some (.lst (((ts.take i).flatMap fun c => ts.flatMap fun o => (nc o c).map fun p => canEx ts c p o).map V.bl)))
      (fun R hR => ⟨_, rfl, hR⟩) ha (fun _ => rfl) (fun D hD => ⟨hD, same_upd hD, upd_same⟩) (fun D i H2 p => Fx.of p.2.1) (fun D i x H1 hi p => ?_) fun D H1 p => ?_
    · obtain ⟨hD, e1, hL⟩ := p
      obtain ⟨c, hc, hxc⟩ := prd_getL hp hi
      have hcm : c ∈ ts := List.mem_of_getElem? hc
      have hil : i < ts.length := (List.getElem?_eq_some_iff.mp hc).1
      have hi64 : i ≤ 64 := by have := gt.many; omega
      generalize hA : ((ts.take i).flatMap fun c => ts.flatMap fun o => (nc o c).map fun p => canEx ts c p o) = acc at hL
      have hAl : acc.length ≤ 64 * 512 := by rw [← hA]; exact part2 i hi64
      -- for other in crews
      refine cl_tup (xs := xs) (fun H0 j H2 => Fx H0 H2 ∧ Same H H2 ∧ H2 D = some (.lst ((acc ++ (ts.take j).flatMap fun o => (nc o c).map fun p => canEx ts c p o).map V.bl)))
        (fun R hR => ⟨_, rfl, hR a H1 (Same.refl H1) (sameT e1 ha)⟩) (fun _ => rfl) (fun H2 e2 => ⟨Fx.refl, e1.trans e2, by rw [e2 _ _ hL]; simp⟩) (fun _ _ _ z => z.1) (fun j y H0 H2 _ hj p2 => ?_) fun H0 H2 _ p2 => ⟨hD, p2.2.1, ?_⟩
      · obtain ⟨f2, e2, hL2⟩ := p2
        obtain ⟨o, ho, hyo⟩ := prd_getL hp hj
        have hom : o ∈ ts := List.mem_of_getElem? ho
        have hjl : j < ts.length := (List.getElem?_eq_some_iff.mp ho).1
        generalize hB : ((ts.take j).flatMap fun o => (nc o c).map fun p => canEx ts c p o) = acc2 at hL2
        have hBl : acc2.length ≤ 512 := by
          rw [← hB]
          have h1 := part c hcm (ts.take j) fun o z => List.mem_of_mem_take z
          have h2 : (ts.take j).length * 8 ≤ 64 * 8 := Nat.mul_le_mul_right _ (by rw [List.length_take]; have := gt.many; omega)
          omega
        -- for person in newcomers(other, crew)
        refine cl_tup (xs := (nc o c).map V.str) (fun H3 k H4 => Fx H3 H4 ∧ Fx H0 H4 ∧ Same H H4 ∧ H4 D = some (.lst ((acc ++ acc2 ++ ((nc o c).take k).map fun p => canEx ts c p o).map V.bl)))
          (fun R hR => ⟨_, rfl, _, rfl, y, x, o, c, rfl, hyo.same e2, hxc.same e2, by have := (gt.each c hcm).2.1; omega, fun v H3 e3 hv => ?_⟩) (fun _ => rfl) (fun H3 e3 => ⟨Fx.refl, f2.trans (Fx.of e3), e2.trans e3, by rw [e3 _ _ hL2]; simp⟩) (fun _ _ _ z => z.1) (fun k z H3 H4 _ hk p4 => ?_) fun H3 H4 _ p4 => ⟨p4.2.1, p4.2.2.1, ?_⟩
        · obtain ⟨b, rfl, hv⟩ := hv
          exact hR b H3 e3 hv
        · obtain ⟨f4, f04, e4, hL4⟩ := p4
          have hkl := (List.getElem?_eq_some_iff.mp hk).1
          rw [List.getElem?_map] at hk
          obtain ⟨pn, hpn, rfl⟩ := Option.map_eq_some_iff.mp hk
          refine ⟨_, rfl, _, rfl, _, rfl, _, rfl, .ref a, x, y, ts, c, o, pn, rfl, ht.same e4, hxc.same e4, hyo.same e4, fun t z => (gt.each t z).2.2, (gt.each c hcm).2, (gt.each o hom).2, fun H5 e5 => ⟨_, e5 _ _ hL4, ?_, ?_⟩⟩
          · rw [List.length_map] at hkl
            have h1 := nc_le o c
            have h2 := (gt.each c hcm).2.1
            refine big ?_
            rw [List.length_map, List.length_append, List.length_append, List.length_map, List.length_take]
            omega
          · refine ⟨(f4.trans (Fx.of e5)).trans (Fx.mut (e5 _ _ hL4)), (f04.trans (Fx.of e5)).trans (Fx.mut (e5 _ _ hL4)), same_mut (e4.trans e5) hD, ?_⟩
            rw [upd_same, take_snoc hpn]
            simp
        · rw [p4.2.2.2, List.length_map, List.take_length, take_snoc ho, ← hB]
          simp
      · rw [p2.2.2, hxl, List.take_length, take_snoc hc, ← hA]
        simp
    · obtain ⟨hD, e1, hL⟩ := p
      rw [hxl, List.take_length] at hL
      exact ⟨D, _, rfl, sl_ hL, q H1 e1⟩
abbrev s_is_good : Stmt := top 7
theorem sc_is_good : FnScope ["crews"] ["crews"] (defScope s_is_good) := ⟨rfl, rfl, rfl, by decide +kernel, rfl, by decide +kernel, by decide +kernel⟩
theorem ok_is_good {f : Addr} {fd : FuncData} {k : Nat} (F : Fun K "is_good" "is_good" s_is_good f fd) (D_all : Own P w K mg base 3 "all_exchange" ["crews"] (sp_good K)) : FnOk P w K mg base CX0 (k + 4) f fd ["crews"] (sp_good K) := by
  refine F.ok sc_is_good (fun vs H Q E h => ?_) (fun cdv A outer s H vs Q E hr h => ?_)
  · obtain ⟨_, _, rfl, _⟩ := h
    rfl
  · have h0 := h
    obtain ⟨x, ts, rfl, ht, gt, q⟩ := h
    have hr3 : Room 3 _ := hr.mono (by omega)
    exact ⟨_, pss_one (ps_ret (pe_call D_all.G hr3 rfl D_all.m D_all.kp D_all.b .nil pass0 (pa_cons (pv 0) pa_nil))), ⟨_, rfl, x, ts, rfl, ht, gt, q⟩⟩
end
end K49

namespace K49
open PySem PySem.Spec PyProof.Rows L2 PySem.W Cb Evl
/-! ### the draws -/
def rngV (c nx rest dr : V) : List (Key × V) := [(.inr "cells", c), (.inr "next", nx), (.inr "rest", rest), (.inr "draws", dr)]
section
variable {H : Hp} {r : Addr} {c nx rest dr v : V}
theorem dg_cells (h : H r = some (.dK (rngV c nx rest dr))) : DGet H r (.str "cells") (some c) := DGet.k (k := .inr "cells") h
theorem dg_next (h : H r = some (.dK (rngV c nx rest dr))) : DGet H r (.str "next") (some nx) := DGet.k (k := .inr "next") h
theorem dg_rest (h : H r = some (.dK (rngV c nx rest dr))) : DGet H r (.str "rest") (some rest) := DGet.k (k := .inr "rest") h
theorem dg_draws (h : H r = some (.dK (rngV c nx rest dr))) : DGet H r (.str "draws") (some dr) := DGet.k (k := .inr "draws") h
theorem dp_next (h : H r = some (.dK (rngV c nx rest dr))) : DPut H r (.str "next") v (upd H r (.dK (rngV c v rest dr))) := DPut.k (k := .inr "next") h (by show 4 < sizeLine; decide)
theorem dp_rest (h : H r = some (.dK (rngV c nx rest dr))) : DPut H r (.str "rest") v (upd H r (.dK (rngV c nx v dr))) := DPut.k (k := .inr "rest") h (by show 4 < sizeLine; decide)
theorem dp_draws (h : H r = some (.dK (rngV c nx rest dr))) : DPut H r (.str "draws") v (upd H r (.dK (rngV c nx rest v))) := DPut.k (k := .inr "draws") h (by show 4 < sizeLine; decide)
end
/-- the dict of the draws at r, its cells at c: at most d of them were made -/
def Rng (H : Hp) (r c : Addr) (d : Int) : Prop := ∃ (ns : List Int) (nx rest dr : Int), H r = some (.dK (rngV (.ref c) (.int nx) (.int rest) (.int dr))) ∧ H c = some (.lst (ns.map V.int)) ∧ 0 ≤ nx ∧ 0 ≤ dr ∧ dr ≤ d
theorem Rng.same {H H' : Hp} {r c : Addr} {d : Int} (e : Same H H') (h : Rng H r c d) : Rng H' r c d := by
  obtain ⟨ns, nx, rest, dr, h1, h2, h3⟩ := h
  exact ⟨ns, nx, rest, dr, e _ _ h1, e _ _ h2, h3⟩
theorem Rng.le {H : Hp} {r c : Addr} {d e : Int} (h : Rng H r c d) (l : d ≤ e) : Rng H r c e := by
  obtain ⟨ns, nx, rest, dr, h1, h2, h3, h4, h5⟩ := h
  exact ⟨ns, nx, rest, dr, h1, h2, h3, h4, Int.le_trans h5 l⟩
/-- a list that the draws don't know may change -/
theorem Rng.mut {H H0 : Hp} {r c l : Addr} {d d0 : Int} {o : HO} (h : Rng H r c d) (n : H0 l = none) (h0 : Rng H0 r c d0) : Rng (upd H l o) r c d := by
  obtain ⟨ns, nx, rest, dr, h1, h2, h3⟩ := h
  obtain ⟨_, _, _, _, g1, g2, _⟩ := h0
  exact ⟨ns, nx, rest, dr, by rw [upd_ne (ne_of_none g1 n)]; exact h1, by rw [upd_ne (ne_of_none g2 n)]; exact h2, h3⟩
section
variable {P : Program} {w : World} {K : Frag} {mg : Str → Option Value} {base : Heap}
theorem dpInts {K : Frag} {H : Hp} : ∀ ns : List Int, DpAll K H (ns.map V.int) (ns.map PyData.int)
  | [] => .nil
  | n :: ns => .cons (.int n) (dpInts ns)
theorem lay_ints : ∀ ns : List Int, PyData.canLayAll0 (ns.map .int) = true
  | [] => by simp [PyData.canLayAll0]
  | n :: ns => by
    show PyData.canLayAll0 (.int n :: ns.map .int) = true
    rw [PyData.canLayAll0, lay_ints ns, PyData.canLay0]
    rfl
theorem shaped_ints (ns : List Int) : SeqAt.shaped (.list (ns.map .int)) = true := by
  unfold SeqAt.shaped
  rw [PyData.canLay0, lay_ints, PyData.depth, PySem.W.depth_ints]
  rfl
theorem shaped_nil : SeqAt.shaped (.list []) = true := by
  unfold SeqAt.shaped
  simp [PyData.canLay0, PyData.canLayAll0, PyData.depth, PyData.depthAll]
abbrev s_draw : Stmt := top 10
abbrev N_draw : List Str := ["_law_rng", "_law_limit", "_law_draws", "_law_digit", "_law_index", "_law_cell", "_law_mixed"]
theorem sc_draw : FnScope N_draw ["_law_rng", "_law_limit"] (defScope s_draw) := ⟨rfl, rfl, rfl, by decide +kernel, rfl, by decide +kernel, by decide +kernel⟩
def sp_draw : Sp := fun vs H Q _ => ∃ (r c : Addr) (n d : Int), vs = [.ref r, .int n] ∧ 0 < n ∧ n < 2 ^ 60 ∧ d ≤ 1000000000 ∧ Rng H r c d ∧ ∀ z H', Ch r H H' → Rng H' r c (d + 1) → 0 ≤ z → z < n → Q (.int z) H'
theorem ok_draw {f : Addr} {fd : FuncData} {k : Nat} (F : Fun K "_law_draw" "_law_draw" s_draw f fd) (B : Blt mg) : FnOk P w K mg base CX0 (k + 1) f fd ["_law_rng", "_law_limit"] sp_draw := by
  refine F.ok sc_draw (fun vs H Q E h => ?_) (fun cdv A outer s H vs Q E hr h => ?_)
  · obtain ⟨_, _, _, _, rfl, _⟩ := h
    rfl
  · obtain ⟨r, c, n, d, rfl, hn, hn2, hd, ⟨ns, nx, rest, dr, h0, hc, hnx, hdr, hdd⟩, q⟩ := h
    have ncr : c ≠ r := ne_of hc h0 (by intro z; cases z)
    have wd : CDivW 0 n := ⟨hn, by
      have := wide_div (i := 0) (j := n) (b := 60) hn (by omega) (by decide) (by decide)
      exact this.2⟩
    refine ⟨_, (pss_cons (ps_set (i := 2) sc_draw.nd rfl (Or.inl rfl) (pe_op op_add (pe_dget (hu_of hr) (pv 0) pe_str (fun _ _ => rfl)) pe_int))
      (pss_cons (ps_dput (hu_of hr) (pv 0) pe_str (pv 2) rfl)
      (pss_cons (ps_if (pt_cmpR op_gt (pe_dget (hu_of hr) (pv 0) pe_str (fun _ _ => rfl)) pe_int (nomark _)) (pss_cons (ps_set (i := 3) sc_draw.nd rfl (Or.inl rfl) (pe_op op_mod (pe_dget (hu_of hr) (pv 0) pe_str (fun _ _ => rfl)) (pv 1)))
      (pss_cons (ps_dput (hu_of hr) (pv 0) pe_str (pe_op op_fdivW (pe_dget (hu_of hr) (pv 0) pe_str (fun _ _ => rfl)) (pv 1)) rfl)
      (pss_one (ps_ret (pv 3))))) pss_nil)
      (pss_cons (ps_set (i := 4) sc_draw.nd rfl (Or.inl rfl) (pe_dget (hu_of hr) (pv 0) pe_str (fun _ _ => rfl)))
      (pss_cons (ps_dput (hu_of hr) (pv 0) pe_str (pe_op op_add (pv 4) pe_int) rfl)
      (pss_cons (ps_set (i := 5) sc_draw.nd rfl (Or.inl rfl) pe_int)
      (pss_cut (ps_if (pt_cmpR (o_neD K hr.units) (pe_dget (hu_of hr) (pv 0) pe_str (fun _ _ => rfl)) (pe_lst pa_nil) (nomark _)) (pss_one (ps_set (i := 5) sc_draw.nd rfl (Or.inl rfl) (pe_ix (i_list K) (pe_dget (hu_of hr) (pv 0) pe_str (fun _ _ => rfl)) (pe_op op_mod (pv 4) (pe_callB (c_len K) (by rfl) B.len (by decide +kernel) (pa_cons (pe_dget (hu_of hr) (pv 0) pe_str (fun _ _ => rfl)) pa_nil))) (fun _ _ => rfl)))) pss_nil)
      (pss_cut (ps_if (PW.pt (pw_and (pt_cmpR op_ge (pv 5) (pe_op op_pow pe_int pe_int) (nomark _)) (pw_and1 (pt_cmpR op_lt (pv 4) (pe_callB (c_len K) (by rfl) B.len (by decide +kernel) (pa_cons (pe_dget (hu_of hr) (pv 0) pe_str (fun _ _ => rfl)) pa_nil)) (nomark _))))) (pss_cons (ps_dput (hu_of hr) (pv 0) pe_str (pe_op op_fdivW (pv 5) (pv 1)) rfl)
      (pss_one (ps_ret (pe_op op_mod (pv 5) (pv 1))))) pss_nil)
      (pss_cons (ps_set (i := 6) sc_draw.nd rfl (Or.inl rfl) (pe_op op_mod (pe_op op_pow (pe_op op_add (pe_op op_add (pe_op op_mod (pv 5) pe_int) (pe_op op_mul pe_int (pv 2))) pe_int) pe_int) pe_int))
      (pss_cons (ps_set (i := 6) sc_draw.nd rfl (Or.inl rfl) (pe_op op_mod (pe_op op_pow (pe_op op_add (pv 6) (pe_op op_mul pe_int (pv 2))) pe_int) pe_int))
      (pss_one (ps_ret (pe_op op_mod (pe_op op_fdivW (pv 6) pe_int) (pv 1)))))))))))))), ?_⟩
    refine ⟨_, rfl, r, _, rfl, dg_draws h0, _, _, rfl, rfl, ?_⟩
    refine ⟨_, rfl, _, rfl, r, _, rfl, dp_draws h0, ?_⟩
    have c1 := Ch.put (k' := rngV (.ref c) (.int nx) (.int rest) (.int (dr + 1))) h0
    have h1 : (upd H r (.dK (rngV (.ref c) (.int nx) (.int rest) (.int (dr + 1))))) r = some (.dK (rngV (.ref c) (.int nx) (.int rest) (.int (dr + 1)))) := upd_same
    have hc1 := c1.lst hc
    generalize upd H r (.dK (rngV (.ref c) (.int nx) (.int rest) (.int (dr + 1)))) = H1 at c1 h1 hc1 ⊢
    refine ⟨_, rfl, r, _, rfl, dg_rest h1, _, _, rfl, rfl, _, rfl, ite2 (fun _ => ?_) (fun _ => ?_)⟩
    · refine ⟨_, rfl, r, _, rfl, dg_rest h1, _, rfl, _, _, rfl, rfl, hn, ?_⟩
      refine ⟨_, rfl, r, _, rfl, dg_rest h1, _, rfl, _, _, rfl, rfl, wd, _, rfl, r, _, rfl, dp_rest h1, _, rfl, ?_⟩
      exact q _ _ (c1.trans (Ch.put h1)) ⟨ns, nx, _, dr + 1, upd_same, (Ch.put h1).lst hc1, hnx, by omega, by omega⟩ (Int.emod_nonneg _ (by omega)) (Int.emod_lt_of_pos _ hn)
    · refine ⟨_, rfl, r, _, rfl, dg_next h1, ?_⟩
      refine ⟨_, rfl, _, _, rfl, rfl, _, rfl, r, _, rfl, dp_next h1, ?_⟩
      have c2 := c1.trans (Ch.put (k' := rngV (.ref c) (.int (nx + 1)) (.int rest) (.int (dr + 1))) h1)
      have h2 : (upd H1 r (.dK (rngV (.ref c) (.int (nx + 1)) (.int rest) (.int (dr + 1))))) r = some (.dK (rngV (.ref c) (.int (nx + 1)) (.int rest) (.int (dr + 1)))) := upd_same
      have hc2 := (Ch.put (k' := rngV (.ref c) (.int (nx + 1)) (.int rest) (.int (dr + 1))) h1).lst hc1
      generalize upd H1 r (.dK (rngV (.ref c) (.int (nx + 1)) (.int rest) (.int (dr + 1)))) = H2 at c2 h2 hc2 ⊢
      refine ⟨fun σ' H' => ∃ cell : Int, σ' = [some (.ref r), some (.int n), some (.int (dr + 1)), none, some (.int nx), some (.int cell), none] ∧ Same H2 H', ?_, ?_⟩
      · refine ⟨_, rfl, r, _, rfl, dg_cells h2, Nat.zero_le _, fun l nl => ⟨.list (ns.map .int), .list [], .lst (sl_ (same_upd nl _ _ hc2)) (dpInts ns), .lst (sl_ upd_same) .nil, shaped_ints ns, shaped_nil, _, rfl, ?_⟩⟩
        have e3 : Same H2 (upd H2 l (.lst [])) := same_upd nl
        rw [eqv_list_nil]
        refine ite2 (fun hne => ?_) (fun _ => ⟨17, rfl, e3⟩)
        have hlen : 0 < ns.length := by
          cases ns with
          | nil => exact absurd hne (by decide)
          | cons _ _ => exact Nat.succ_pos _
        have hm0 : 0 ≤ nx % (ns.length : Int) := Int.emod_nonneg _ (by omega)
        have hm1 : nx % (ns.length : Int) < (ns.length : Int) := Int.emod_lt_of_pos _ (by omega)
        obtain ⟨j, hj⟩ : ∃ j : Nat, nx % (ns.length : Int) = (j : Int) := ⟨(nx % (ns.length : Int)).toNat, by omega⟩
        have hjl : j < ns.length := by omega
        refine ⟨_, rfl, r, _, rfl, dg_cells (e3 _ _ h2), _, rfl, _, rfl, r, _, rfl, dg_cells (e3 _ _ h2), c, _, rfl, .inl (sl_ (e3 _ _ hc2)), _, _, rfl, rfl, by rw [List.length_map]; omega,
          c, ns.map V.int, _, .int ns[j], rfl, rfl, sl_ (e3 _ _ hc2), ?_, ?_⟩
        · rw [List.length_map, hj]
          exact atI_nat (by rw [List.getElem?_map, List.getElem?_eq_getElem hjl]; rfl)
        · exact ⟨ns[j], rfl, e3⟩
      · rintro σ' H3 ⟨cell, rfl, e3⟩
        have h3 := e3 _ _ h2
        have hc3 := e3 _ _ hc2
        have c3 := c2.trans (Ch.of e3)
        refine ⟨fun σ' H' => σ' = [some (.ref r), some (.int n), some (.int (dr + 1)), none, some (.int nx), some (.int cell), none] ∧ H' = H3, ?_, ?_⟩
        · refine ⟨_, rfl, _, _, rfl, rfl, ⟨by decide, by decide, by decide⟩, _, _, rfl, rfl, _, rfl, ite2 (fun _ => ?_) (fun _ => iteF ⟨rfl, rfl⟩)⟩
          refine ⟨_, rfl, _, rfl, r, _, rfl, dg_cells h3, c, _, rfl, .inl (sl_ hc3), _, _, rfl, rfl, _, rfl, ite2 (fun _ => ?_) (fun _ => ⟨rfl, rfl⟩)⟩
          refine ⟨_, rfl, _, rfl, _, _, rfl, rfl, wd, _, rfl, r, _, rfl, dp_rest h3, _, rfl, _, rfl, _, _, rfl, rfl, hn, ?_⟩
          exact q _ _ (c3.trans (Ch.put h3)) ⟨ns, nx + 1, _, dr + 1, upd_same, (Ch.put h3).lst hc3, by omega, by omega, by omega⟩ (Int.emod_nonneg _ (by omega)) (Int.emod_lt_of_pos _ hn)
        · rintro σ' H' ⟨rfl, rfl⟩
          refine ⟨_, rfl, _, _, rfl, rfl, (by decide : (0 : Int) < 2147483579), _, rfl, _, _, rfl, rfl, .inl ⟨by decide, by decide⟩, _, _, rfl, rfl, _, _, rfl, rfl, _, _, rfl, rfl, ⟨by decide, by decide, by omega⟩, _, _, rfl, rfl, (by decide : (0 : Int) < 2147483629), ?_⟩
          refine ⟨_, rfl, _, rfl, _, _, rfl, rfl, .inl ⟨by decide, by decide⟩, _, _, rfl, rfl, _, _, rfl, rfl, ⟨by decide, by decide, ?_⟩, _, _, rfl, rfl, (by decide : (0 : Int) < 2147483647), ?_⟩
          · have a1 := Int.emod_nonneg ((cell % 2147483579 + 8009 * (dr + 1) + 13) ^ (5 : Int).toNat) (b := 2147483629) (by decide)
            have a2 := Int.emod_lt_of_pos ((cell % 2147483579 + 8009 * (dr + 1) + 13) ^ (5 : Int).toNat) (b := 2147483629) (by decide)
            omega
          · refine ⟨_, rfl, _, _, rfl, rfl, ⟨by decide, by decide⟩, _, rfl, _, _, rfl, rfl, hn, ?_⟩
            exact q _ _ c3 ⟨ns, nx + 1, rest, dr + 1, h3, hc3, by omega, by omega, by omega⟩ (Int.emod_nonneg _ (by omega)) (Int.emod_lt_of_pos _ hn)
end
end K49

namespace K49
open PySem PySem.Spec PyProof.Rows L2 PySem.W Cb Evl
theorem erase_map {α β : Type} (f : α → β) : ∀ (l : List α) (j : Nat), (l.map f).eraseIdx j = (l.eraseIdx j).map f
  | [], _ => rfl
  | _ :: _, 0 => rfl
  | x :: l, j + 1 => by
    show f x :: (l.map f).eraseIdx j = f x :: (l.eraseIdx j).map f
    rw [erase_map f l j]
section
variable {P : Program} {w : World} {K : Frag} {mg : Str → Option Value} {base : Heap}
/-! ### the dict of the draws -/
abbrev s_source : Stmt := top 9
theorem sc_source : FnScope ["_law_script"] ["_law_script"] (defScope s_source) := ⟨rfl, rfl, rfl, by decide +kernel, rfl, by decide +kernel, by decide +kernel⟩
def sp_source (K : Frag) : Sp := fun vs H Q _ => ∃ (a : Addr) (ns : List Int), vs = [.ref a] ∧ SqL K H a (ns.map V.int) ∧ ∀ r c H', Same H H' → Rng H' r c 0 → Q (.ref r) H'
theorem ok_source {f : Addr} {fd : FuncData} {k : Nat} (F : Fun K "_law_source" "_law_source" s_source f fd) (B : Blt mg) : FnOk P w K mg base CX0 (k + 1) f fd ["_law_script"] (sp_source K) := by
  refine F.ok sc_source (fun vs H Q E h => ?_) (fun cdv A outer s H vs Q E hr h => ?_)
  · obtain ⟨_, _, rfl, _⟩ := h
    rfl
  · obtain ⟨a, ns, rfl, hS, q⟩ := h
    refine ⟨_, (pss_one (ps_ret (pe_disp (pps_cons pe_str (pe_callTy (c_list K) (by rfl) B.list (by decide +kernel) (pa_cons (pe_slice (s_list K) (pv 0) po_none (po_some pe_int)) pa_nil)) (pps_cons pe_str pe_int (pps_cons pe_str pe_int (pps_cons pe_str pe_int pps_nil)))) (by rfl) (by rfl) (fun z => by cases z) (by decide)))), ?_⟩
    intro p np
    have s1 : Same H (upd H p (.dK [])) := same_upd np
    refine ⟨_, rfl, _, rfl, a, ns.map V.int, rfl, s1.seq hS, fun b nb => ⟨b, _, rfl, .inl (sl_ upd_same), fun c nc => ?_⟩⟩
    obtain ⟨ms, hm⟩ : ∃ ms : List Int, cutV (ns.map V.int) none (some 63) = ms.map V.int := ⟨(ns.drop _).take _, by unfold cutV; rw [List.map_take, List.map_drop]⟩
    rw [hm]
    rw [hm] at nc
    have s2 := same_upd (o := .lst (ms.map V.int)) nb
    have s3 := same_upd (o := .lst (ms.map V.int)) nc
    have hp : (upd (upd (upd H p (.dK [])) b (.lst (ms.map V.int))) c (.lst (ms.map V.int))) p = some (.dK []) := s3 _ _ (s2 _ _ upd_same)
    refine ⟨hp, rngV (.ref c) (.int 0) (.int 0) (.int 0), rfl, by show 4 ≤ 15; decide, ?_⟩
    have ncp : c ≠ p := fun e => by
      rw [← e, upd_same] at hp
      cases hp
    refine q p c _ (same_mut ((s1.trans s2).trans s3) np) ⟨ms, 0, 0, 0, upd_same, by rw [upd_ne ncp]; exact upd_same, Int.le_refl _, Int.le_refl _, Int.le_refl _⟩
/-! ### some of a pool -/
abbrev s_sample : Stmt := top 11
abbrev N_sample : List Str := ["_law_rng", "_law_pool", "_law_amount", "_law_rest", "_law_k"]
theorem sc_sample : FnScope N_sample ["_law_rng", "_law_pool", "_law_amount"] (defScope s_sample) := ⟨rfl, rfl, rfl, by decide +kernel, rfl, by decide +kernel, by decide +kernel⟩
def sp_sample (K : Frag) : Sp := fun vs H Q _ => ∃ (r c pool : Addr) (d : Int) (ns : List Str) (m : Nat), vs = [.ref r, .ref pool, .int m] ∧ (SqL K H pool (ns.map V.str) ∨ SqT K H pool (ns.map V.str)) ∧ m ≤ ns.length ∧ ns.length ≤ 1000 ∧ Rng H r c d ∧ d ≤ 100000000 ∧
  ∀ (l : Addr) (out : List Str) (H' : Hp), H l = none → Ch r H H' → Rng H' r c (d + m) → H' l = some (.lst (out.map V.str)) → out.length = m → (∀ s ∈ out, s ∈ ns) → Q (.ref l) H'
theorem ok_sample {f : Addr} {fd : FuncData} {k : Nat} (F : Fun K "_law_sample" "_law_sample" s_sample f fd) (B : Blt mg) (D__law_draw : Own P w K mg base 1 "_law_draw" ["_law_rng", "_law_limit"] sp_draw) : FnOk P w K mg base CX0 (k + 2) f fd ["_law_rng", "_law_pool", "_law_amount"] (sp_sample K) := by
  refine F.ok sc_sample (fun vs H Q E h => ?_) (fun cdv A outer s H vs Q E hr h => ?_)
  · obtain ⟨_, _, _, _, _, _, rfl, _⟩ := h
    rfl
  · obtain ⟨r, c, pool, d, ns, m, rfl, hP, hm, hl, hR, hd, q⟩ := h
    have hr1 : Room 1 _ := hr.mono (Nat.le_add_left 1 k)
    refine ⟨_, (pss_cons (ps_set (i := 3) sc_sample.nd rfl (Or.inr rfl) (pe_callTy (c_list K) (by rfl) B.list (by decide +kernel) (pa_cons (pv 1) pa_nil)))
      (pss_one (ps_ret (pe_lc (own := [("_law_k", 4)]) (g := gName 4) (tt := tYes) rfl sc_sample.nd (pi_range1 rfl B.range (pa_cons (pv 2) pa_nil)) (blkOk_by (own := [("_law_k", 4)]) (N := N_sample) (sc := defScope s_sample) (by decide +kernel)) (fun _ _ _ _ _ => (pg_name (i := 4) sc_sample.nd rfl (Or.inl rfl))) (fun _ _ _ _ _ => pts_nil)
        (fun _ _ _ _ _ => (show PE _ _ (tBM K "list" rPopAt _ _) from pe_bm PySem.F.plainAttrs_list PySem.F.slot_list_pop PySem.F.type_list_pop mt_popAt (pv 3) (pa_cons (pe_call D__law_draw.G hr1 rfl D__law_draw.m D__law_draw.kp D__law_draw.b .nil pass0 (pa_cons (pv 0) (pa_cons (pe_callB (c_len K) (by rfl) B.len (by decide +kernel) (pa_cons (pv 3) pa_nil)) pa_nil))) pa_nil))))))), ?_⟩
    refine ⟨_, rfl, pool, _, rfl, hP, fun l nl => ?_⟩
    have s1 : Same H (upd H l (.lst (ns.map V.str))) := same_upd nl
    refine ⟨_, rfl, (m : Int), rfl, by omega, by omega, fun D nD => ?_⟩
    have nDl : D ≠ l := fun e => by
      rw [e, upd_same] at nD
      cases nD
    have nD0 : H D = none := s1.free nD
    refine lc_range (lo := 0) (n := (m : Int).toNat) (fun i H' => Ch r H H' ∧ Rng H' r c (d + i) ∧ ∃ rest out : List Str, H' l = some (.lst (rest.map V.str)) ∧ H' D = some (.lst (out.map V.str)) ∧ rest.length + i = ns.length ∧ out.length = i ∧ (∀ s ∈ rest, s ∈ ns) ∧ ∀ s ∈ out, s ∈ ns) ?_ ?_ ?_
    · refine ⟨(Ch.of s1).upd nD0, ?_, ns, [], by rw [upd_ne nDl.symm]; exact upd_same, upd_same, rfl, rfl, fun _ z => z, fun _ z => absurd z (by simp)⟩
      have g := ((hR.same s1).mut (o := .lst []) nD0 hR)
      exact g.le (by omega)
    · rintro i H1 hi ⟨c1, g1, rest, out, h1, h2, e1, e2, e3, e4⟩
      have hpos : 0 < rest.length := by omega
      refine ⟨rfl, ?_⟩
      unfold tYes
      refine iteT ?_
      refine ⟨_, rfl, .inl ⟨rfl, _, SqL.of h1⟩, _, rfl, _, rfl, l, _, rfl, .inl (sl_ h1), r, c, _, d + i, rfl, by rw [List.length_map]; omega, by rw [List.length_map]; omega, by omega, g1, fun z H2 c2 g2 z0 z1 => ?_⟩
      rw [List.length_map] at z1
      obtain ⟨j, rfl⟩ : ∃ j : Nat, z = (j : Int) := ⟨z.toNat, by omega⟩
      have hj : j < rest.length := by omega
      have h1' := c2.lst h1
      have h2' := c2.lst h2
      refine ⟨l, _, _, j, .str rest[j], rfl, rfl, h1', by omega, by omega, ?_, ?_, out.map V.str, ?_, ?_, ?_⟩
      · rw [List.length_map]
        unfold seqIndex?
        simp
        omega
      · rw [List.getElem?_map, List.getElem?_eq_getElem hj]
        rfl
      · rw [upd_ne nDl]
        exact h2'
      · rw [List.length_map]
        exact big (by omega)
      · have hmem : rest[j] ∈ ns := e3 _ (List.getElem_mem hj)
        refine ⟨((c1.trans c2).upd nl).upd nD0, ?_, rest.eraseIdx j, out ++ [rest[j]], ?_, ?_, ?_, ?_, ?_, ?_⟩
        · exact ((g2.mut nl hR).mut nD0 hR).le (by omega)
        · rw [upd_ne nDl.symm, upd_same, erase_map]
        · rw [upd_same, List.map_append]
          rfl
        · rw [List.length_eraseIdx_of_lt hj]
          omega
        · rw [List.length_append]
          simp
          omega
        · exact fun s hs => e3 s (List.mem_of_mem_eraseIdx hs)
        · intro s hs
          rcases List.mem_append.mp hs with hs | hs
          · exact e4 s hs
          · rw [List.mem_singleton.mp hs]
            exact hmem
    · rintro H1 ⟨c1, g1, rest, out, h1, h2, e1, e2, e3, e4⟩
      exact q D out H1 nD0 c1 (g1.le (by omega)) h2 (by omega) e4
/-! ### is one set within another -/
abbrev s_within : Stmt := top 13
abbrev N_within : List Str := ["_law_some", "_law_more", "_law_name"]
theorem sc_within : FnScope N_within ["_law_some", "_law_more"] (defScope s_within) := ⟨rfl, rfl, rfl, by decide +kernel, rfl, by decide +kernel, by decide +kernel⟩
def sp_within (K : Frag) : Sp := fun vs H Q _ => ∃ (x y : V) (a b : List Str), vs = [x, y] ∧ S1 K H x a ∧ S1 K H y b ∧ a.length ≤ 1000 ∧ (∀ n ∈ a, okS n) ∧ ∀ t H', Same H H' → Q (.bl t) H'
theorem ok_within {f : Addr} {fd : FuncData} {k : Nat} (F : Fun K "_law_is_within" "_law_is_within" s_within f fd) : FnOk P w K mg base CX0 (k + 1) f fd ["_law_some", "_law_more"] (sp_within K) := by
  refine F.ok sc_within (fun vs H Q E h => ?_) (fun cdv A outer s H vs Q E hr h => ?_)
  · obtain ⟨_, _, _, _, rfl, _⟩ := h
    rfl
  · obtain ⟨x, y, c, o, rfl, ⟨a, rfl, hc⟩, ⟨b, rfl, ho⟩, hl, okc, q⟩ := h
    refine ⟨_, (pss_one (ps_ret (pe_cmpR (o_eqD K hr.units) (pe_lc (own := [("_law_name", 2)]) (g := gName 2) rfl sc_within.nd (p_tup K (pv 0)) (blkOk_by (own := [("_law_name", 2)]) (N := N_within) (sc := defScope s_within) (by decide +kernel)) (fun _ _ _ _ _ => (pg_name (i := 2) sc_within.nd rfl (Or.inl rfl)))
      (fun _ _ _ _ _ => (pts_one (pt_cmpR (o_nin K) (pv 2) (pv 1) rfl))) (fun _ _ _ _ _ => (pv 2))) (pe_lst pa_nil) (nomark _)))), ?_⟩
    unfold tRet tOp
    refine lcT_filter (xs := c.map V.str) (fun v => match v with | .str p => !isIn p o | _ => false) id (fun R hR => ⟨_, rfl, hR a H (Same.refl H) hc⟩) (by rw [List.length_map]; omega) (fun _ => rfl) (fun v hv H1 e1 R hR => ?_) (fun v hv _ H1 e1 R hR => ⟨v, rfl, hR H1 (Same.refl H1)⟩) fun D H' hD e hH => ?_
    · obtain ⟨p, _, rfl⟩ := List.mem_map.mp hv
      exact ⟨_, rfl, _, rfl, b, _, rfl, .inr (sameT e1 ho), rfl, flat_strs o, _, rfl, by rw [inV_strs]; exact hR⟩
    · have e2 : ((c.map V.str).filter (fun v => match v with | .str p => !isIn p o | _ => false)).map id = (nc o c).map V.str := by
        rw [List.map_id, List.filter_map]
        rfl
      rw [e2] at hH
      refine ⟨Nat.zero_le _, fun l nl => ⟨.list ((nc o c).map .str), .list [], .lst (sl_ (same_upd nl _ _ hH)) (dpStrs _), .lst (sl_ upd_same) .nil, shaped_strs (ok_nc okc), shaped_nil, ?_⟩⟩
      exact q _ _ (e.trans (same_upd nl))
/-! ### a set without one -/
abbrev s_but : Stmt := top 16
abbrev N_but : List Str := ["_law_here", "_law_name", "_law_one_name"]
theorem sc_but : FnScope N_but ["_law_here", "_law_name"] (defScope s_but) := ⟨rfl, rfl, rfl, by decide +kernel, rfl, by decide +kernel, by decide +kernel⟩
def sp_but (K : Frag) : Sp := fun vs H Q _ => ∃ (x : V) (c : List Str) (p : Str), vs = [x, .str p] ∧ S1 K H x c ∧ c.length ≤ 1000 ∧ ∀ v H', Same H H' → S1 K H' v (but c p) → Q v H'
theorem ok_but' {f : Addr} {fd : FuncData} {k : Nat} (F : Fun K "_law_but" "_law_but" s_but f fd) (B : Blt mg) : FnOk P w K mg base CX0 (k + 1) f fd ["_law_here", "_law_name"] (sp_but K) := by
  refine F.ok sc_but (fun vs H Q E h => ?_) (fun cdv A outer s H vs Q E hr h => ?_)
  · obtain ⟨_, _, _, rfl, _⟩ := h
    rfl
  · obtain ⟨x, c, p, rfl, ⟨a, rfl, hc⟩, hl, q⟩ := h
    refine ⟨_, (pss_one (ps_ret (pe_callTy (c_tuple K) (by rfl) B.tuple (by decide +kernel) (pa_cons (pe_lc (own := [("_law_one_name", 2)]) (g := gName 2) rfl sc_but.nd (p_tup K (pv 0)) (blkOk_by (own := [("_law_one_name", 2)]) (N := N_but) (sc := defScope s_but) (by decide +kernel)) (fun _ _ _ _ _ => (pg_name (i := 2) sc_but.nd rfl (Or.inl rfl)))
      (fun _ _ _ _ _ => (pts_one (pt_cmpR op_ne (pv 2) (pv 1) (nomark _)))) (fun _ _ _ _ _ => (pv 2))) pa_nil)))), ?_⟩
    unfold tRet tCB tCons tNil
    refine lcT_filter (xs := c.map V.str) (fun v => match v with | .str m => !decide (m = p) | _ => false) id (fun R hR => ⟨_, rfl, hR a H (Same.refl H) hc⟩) (by rw [List.length_map]; omega) (fun _ => rfl) (fun v hv H1 e1 R hR => ?_) (fun v hv _ H1 e1 R hR => ⟨v, rfl, hR H1 (Same.refl H1)⟩) fun D H' hD e hH => ?_
    · obtain ⟨m, _, rfl⟩ := List.mem_map.mp hv
      refine ⟨_, rfl, _, rfl, rfl, _, rfl, ?_⟩
      have e2 : decide (V.str m = V.str p) = decide (m = p) := by simp
      rw [e2]
      exact hR
    · have e2 : ((c.map V.str).filter (fun v => match v with | .str m => !decide (m = p) | _ => false)).map id = (but c p).map V.str := by
        rw [List.map_id, List.filter_map]
        rfl
      rw [e2] at hH
      exact ⟨D, _, rfl, .inl ⟨sl_ hH, fun t nt => q _ _ (e.trans (same_upd nt)) ⟨t, rfl, st_ upd_same⟩⟩⟩
end
end K49

namespace K49
open PySem PySem.Spec PyProof.Rows L2 PySem.W Cb Evl
/-! ### the heap without one list -/
def hid (F : Addr) (H : Hp) : Hp := fun b => if b = F then none else H b
theorem hid_ne {F b : Addr} {H : Hp} (n : b ≠ F) : hid F H b = H b := if_neg n
theorem hid_at {F : Addr} {H : Hp} : hid F H F = none := if_pos rfl
theorem hid_sub (F : Addr) (H : Hp) : Same (hid F H) H := fun b o e => by
  by_cases h : b = F
  · rw [h, hid_at] at e
    cases e
  · rw [hid_ne h] at e
    exact e
theorem hid_same {F : Addr} {H H' : Hp} (s : Same H H') : Same (hid F H) (hid F H') := fun b o e => by
  by_cases h : b = F
  · rw [h, hid_at] at e
    cases e
  · rw [hid_ne h] at e ⊢
    exact s b o e
theorem hid_upd {F : Addr} {H : Hp} {o : HO} : hid F (upd H F o) = hid F H := by
  funext b
  by_cases h : b = F
  · rw [h, hid_at, hid_at]
  · rw [hid_ne h, hid_ne h, upd_ne h]
theorem hid_new {F : Addr} {H : Hp} (n : H F = none) : hid F H = H := by
  funext b
  by_cases h : b = F
  · rw [h, hid_at, n]
  · rw [hid_ne h]
theorem dpa_app {K : Frag} {H : Hp} : ∀ {us : List V} {ds : List PyData} {vs : List V} {es : List PyData}, DpAll K H us ds → DpAll K H vs es → DpAll K H (us ++ vs) (ds ++ es)
  | _, [], _, _, h, k => by cases h; exact k
  | _, _ :: _, _, _, h, k => by
    cases h with
    | cons a b => exact .cons a (dpa_app b k)
theorem dpa_len {K : Frag} {H : Hp} : ∀ {us : List V} {ds : List PyData}, DpAll K H us ds → us.length = ds.length
  | _, [], h => by cases h; rfl
  | _, _ :: _, h => by
    cases h with
    | cons a b => exact congrArg Nat.succ (dpa_len b)
/-! ### the law's own rows -/
def rowD (i j : Nat) (nm : Str) (far : List Str) : PyData := .tuple [.int i, .int j, .str nm, .list (far.map .str)]
def farL (ts : List (List Str)) (a b : List Str) (nm : Str) : List Str := (nc a b).filter fun far => isOne (ex a nm far) ts
def rowsIJ (ts : List (List Str)) (i j : Nat) : List PyData := (nc (ts.getD j []) (ts.getD i [])).map fun nm => rowD i j nm (farL ts (ts.getD i []) (ts.getD j []) nm)
def rowsI (ts : List (List Str)) (i : Nat) : List PyData := (List.range ts.length).flatMap fun j => rowsIJ ts i j
def rowsL (ts : List (List Str)) : List PyData := (List.range ts.length).flatMap fun i => rowsI ts i
section
variable {P : Program} {w : World} {K : Frag} {mg : Str → Option Value} {base : Heap}
theorem S2.item {K : Frag} {H : Hp} {v : V} {ts : List (List Str)} {i : Nat} (h : S2 K H v ts) (hi : i < ts.length) : ∃ a xs y, v = .ref a ∧ SqT K H a xs ∧ atI xs (i : Int) = some y ∧ S1 K H y (ts.getD i []) := by
  obtain ⟨a, xs, rfl, ha, hp⟩ := h
  have e : ts[i]? = some (ts.getD i []) := by simp [List.getD, List.getElem?_eq_getElem hi]
  obtain ⟨y, hy, hs⟩ := prd_get hp e
  exact ⟨a, xs, y, rfl, ha, atI_nat hy, hs⟩
abbrev s_exs : Stmt := top 18
abbrev N_exs : List Str := ["_law_teams", "_law_found", "_law_i", "_law_j", "_law_name", "_law_some", "_law_far", "_law_own"]
theorem sc_exs : FnScope N_exs ["_law_teams"] (defScope s_exs) := ⟨rfl, rfl, rfl, by decide +kernel, rfl, by decide +kernel, by decide +kernel⟩
def sp_exs (K : Frag) : Sp := fun vs H Q _ => ∃ (x : V) (ts : List (List Str)), vs = [x] ∧ S2 K H x ts ∧ Gt ts ∧ ∀ (F : Addr) (us : List V) (H' : Hp), Same H H' → H' F = some (.lst us) → DpAll K H' us (rowsL ts) → Q (.ref F) H'
theorem ok_exs {f : Addr} {fd : FuncData} {k : Nat} (F : Fun K "_law_exchanges" "_law_exchanges" s_exs f fd) (B : Blt mg) (D__law_but : Own P w K mg base 1 "_law_but" ["_law_here", "_law_name"] (sp_but K)) : FnOk P w K mg base CX0 (k + 2) f fd ["_law_teams"] (sp_exs K) := by
  refine F.ok sc_exs (fun vs H Q E h => ?_) (fun cdv A outer s H vs Q E hr h => ?_)
  · obtain ⟨_, _, rfl, _⟩ := h
    rfl
  · obtain ⟨x, ts, rfl, ht, gt, q⟩ := h
    have hr1 : Room 1 _ := hr.mono (Nat.le_add_left 1 k)
    have hu : (A.deeper (envOfC "_law_exchanges" (defScope s_exs) s.heap.objs.size f cdv)).units + 65 < cLine := by
      have := hr.un
      omega
    refine ⟨_, (pss_cons (ps_set (i := 1) sc_exs.nd rfl (Or.inl rfl) (pe_lst pa_nil))
      (pss_cons (ps_for PassesOwn.never rfl (pi_range1 rfl B.range (pa_cons (pe_callB (c_len K) (by rfl) B.len (by decide +kernel) (pa_cons (pv 0) pa_nil)) pa_nil)) (pg_name (i := 2) sc_exs.nd rfl (Or.inr rfl))
      (pss_one (ps_for PassesOwn.never rfl (pi_range1 rfl B.range (pa_cons (pe_callB (c_len K) (by rfl) B.len (by decide +kernel) (pa_cons (pv 0) pa_nil)) pa_nil)) (pg_name (i := 3) sc_exs.nd rfl (Or.inr rfl))
      (pss_one (ps_for PassesOwn.never rfl (p_list K (pe_lc (own := [("_law_own", 7)]) (g := gName 7) rfl sc_exs.nd (p_tup K (pe_ix (i_tup K) (pv 0) (pv 2) (fun _ _ => rfl))) (blkOk_by (own := [("_law_own", 7)]) (N := N_exs) (sc := defScope s_exs) (by decide +kernel)) (fun _ _ _ _ _ => (pg_name (i := 7) sc_exs.nd rfl (Or.inl rfl))) (fun _ _ _ _ _ => (pts_one (pt_cmpR (o_nin K) (pv 7) (pe_ix (i_tup K) (pv 0) (pv 3) (fun _ _ => rfl)) rfl))) (fun _ _ _ _ _ => (pv 7)))) (pg_name (i := 4) sc_exs.nd rfl (Or.inl rfl))
      (pss_cons (ps_set (i := 5) sc_exs.nd rfl (Or.inl rfl) (pe_lst pa_nil))
      (pss_cons (ps_for PassesOwn.never rfl (p_list K (pe_lc (own := [("_law_own", 7)]) (g := gName 7) rfl sc_exs.nd (p_tup K (pe_ix (i_tup K) (pv 0) (pv 3) (fun _ _ => rfl))) (blkOk_by (own := [("_law_own", 7)]) (N := N_exs) (sc := defScope s_exs) (by decide +kernel)) (fun _ _ _ _ _ => (pg_name (i := 7) sc_exs.nd rfl (Or.inl rfl))) (fun _ _ _ _ _ => (pts_one (pt_cmpR (o_nin K) (pv 7) (pe_ix (i_tup K) (pv 0) (pv 2) (fun _ _ => rfl)) rfl))) (fun _ _ _ _ _ => (pv 7)))) (pg_name (i := 6) sc_exs.nd rfl (Or.inl rfl))
      (pss_one (ps_if (pt_cmpR (o_inT K hu) (pe_callTy (c_tuple K) (by rfl) B.tuple (by decide +kernel) (pa_cons (pe_callB (c_srt K hr.units) (by rfl) B.sorted (by decide +kernel) (pa_cons (pe_op (o_catA K) (pe_call D__law_but.G hr1 rfl D__law_but.m D__law_but.kp D__law_but.b .nil pass0 (pa_cons (pe_ix (i_tup K) (pv 0) (pv 2) (fun _ _ => rfl)) (pa_cons (pv 4) pa_nil))) (pe_tup (pa_cons (pv 6) pa_nil))) pa_nil)) pa_nil)) (pv 0) rfl) (pss_one (ps_expr (pe_bm PySem.F.plainAttrs_list PySem.F.slot_list_append PySem.F.type_list_append mt_append (pv 5) (pa_cons (pv 6) pa_nil)))) pss_nil)))
      (pss_one (ps_expr (pe_bm PySem.F.plainAttrs_list PySem.F.slot_list_append PySem.F.type_list_append mt_append (pv 1) (pa_cons (pe_tup (pa_cons (pv 2) (pa_cons (pv 3) (pa_cons (pv 4) (pa_cons (pv 5) pa_nil))))) pa_nil)))))))))))
      (pss_one (ps_ret (pv 1))))), ?_⟩
    obtain ⟨a, xs, rfl, ha, hp⟩ := ht
    have ht : S2 K H (.ref a) ts := ⟨a, xs, rfl, ha, hp⟩
    have hxl : xs.length = ts.length := prd_len hp
    have hn : ts.length ≤ 64 := gt.many
    refine ⟨Nat.zero_le _, fun F nF => ?_⟩
    have s1 : Same H (upd H F (.lst [])) := same_upd nF
    have hz : ∀ i, (ts.getD i []).length ≤ 8 ∧ ∀ n ∈ ts.getD i [], okS n := fun i => by
      by_cases hi : i < ts.length
      · have e : ts.getD i [] = ts[i] := by simp [List.getD, List.getElem?_eq_getElem hi]
        rw [e]
        exact (gt.each _ (List.getElem_mem hi)).2
      · have e : ts.getD i [] = [] := by simp [List.getD, List.getElem?_eq_none (Nat.le_of_not_lt hi)]
        rw [e]
        exact ⟨by simp, fun n z => absurd z (by simp)⟩
    have b1 : ∀ i j, (rowsIJ ts i j).length ≤ 8 := fun i j => by
      unfold rowsIJ
      rw [List.length_map]
      exact Nat.le_trans (nc_le _ _) (hz i).1
    have b2 : ∀ i m, m ≤ 64 → ((List.range m).flatMap fun j => rowsIJ ts i j).length ≤ 512 := fun i m hm => by
      have h1 := flat_le 8 (fun j => rowsIJ ts i j) (List.range m) fun j _ => b1 i j
      rw [List.length_range] at h1
      omega
    have b3 : ∀ m, m ≤ 64 → ((List.range m).flatMap fun i => rowsI ts i).length ≤ 64 * 512 := fun m hm => by
      have h1 := flat_le 512 (fun i => rowsI ts i) (List.range m) fun i _ => b2 i ts.length hn
      rw [List.length_range] at h1
      have h2 : m * 512 ≤ 64 * 512 := Nat.mul_le_mul_right _ hm
      omega
    -- for i
    refine ⟨_, rfl, a, xs, rfl, .inr (sameT s1 ha), (ts.length : Int), by rw [hxl], by omega, by omega, ?_⟩
    refine for_range (lo := 0) (n := (ts.length : Int).toNat) (fun i σ' H' => (∃ v2 v3 v4 v5 v6, σ' = [some (.ref a), some (.ref F), v2, v3, v4, v5, v6, none]) ∧ Same H H' ∧ ∃ us, H' F = some (.lst us) ∧ DpAll K (hid F H') us ((List.range i).flatMap fun i => rowsI ts i))
      ⟨⟨none, none, none, none, none, rfl⟩, s1, [], upd_same, .nil⟩ ?_ ?_
    · rintro i σ1 H1 hi ⟨⟨v2, v3, v4, v5, v6, rfl⟩, e1, us1, hF1, hD1⟩
      rw [show (0 : Int) + (i : Int) = (i : Int) from Int.zero_add _]
      have hin : i < ts.length := by omega
      -- for j
      refine ⟨_, rfl, a, xs, rfl, .inr (sameT e1 ha), (ts.length : Int), by rw [hxl], by omega, by omega, ?_⟩
      refine for_range (lo := 0) (n := (ts.length : Int).toNat) (fun j σ' H' => (∃ v3 v4 v5 v6, σ' = [some (.ref a), some (.ref F), some (.int i), v3, v4, v5, v6, none]) ∧ Same H H' ∧ ∃ us, H' F = some (.lst us) ∧ DpAll K (hid F H') us (((List.range i).flatMap fun i => rowsI ts i) ++ (List.range j).flatMap fun j => rowsIJ ts i j))
        ⟨⟨v3, v4, v5, v6, rfl⟩, e1, us1, hF1, by simpa using hD1⟩ ?_ ?_
      · rintro j σ2 H2 hj ⟨⟨v3, v4, v5, v6, rfl⟩, e2, us2, hF2, hD2⟩
        rw [show (0 : Int) + (j : Int) = (j : Int) from Int.zero_add _]
        have hjn : j < ts.length := by omega
        obtain ⟨_, _, y, e, ha', hy, sy⟩ := S2.item ht hin
        cases e
        obtain ⟨_, _, z, e, ha'', hzz, sz⟩ := S2.item ht hjn
        cases e
        generalize hA : ts.getD i [] = tA at sy
        generalize hB : ts.getD j [] = tB at sz
        have okA : tA.length ≤ 8 ∧ ∀ n ∈ tA, okS n := hA ▸ hz i
        have okB : tB.length ≤ 8 ∧ ∀ n ∈ tB, okS n := hB ▸ hz j
        obtain ⟨ay, rfl, sy⟩ := sy
        obtain ⟨az, rfl, sz⟩ := sz
        -- for name
        refine for_names (ns := tA) (fun p => !isIn p tB) (fun R hR => ⟨_, rfl, _, rfl, a, _, _, _, rfl, rfl, sameT e2 ha', hy, hR ay H2 (Same.refl H2) (sameT e2 sy)⟩) (by omega) (fun _ => rfl) (fun _ => rfl) (fun p _ H3 e3 R hR => ?_) fun L H3 nL e3 hL => ?_
        · exact ⟨_, rfl, _, rfl, _, rfl, a, _, _, _, rfl, rfl, sameT (e2.trans e3) ha'', hzz, az, _, rfl, .inr (sameT (e2.trans e3) sz), rfl, flat_strs tB, _, rfl, by rw [inV_strs]; exact hR⟩
        · have nLF : L ≠ F := fun e => by
            rw [e, hF2] at nL
            cases nL
          have hF3 := e3 _ _ hF2
          refine ⟨fun k σ' H' => (∃ v4 v5 v6, σ' = [some (.ref a), some (.ref F), some (.int i), some (.int j), v4, v5, v6, none]) ∧ Same (hid F H3) (hid F H') ∧ ∃ us, H' F = some (.lst us) ∧
            DpAll K (hid F H') us (((List.range i).flatMap fun i => rowsI ts i) ++ ((List.range j).flatMap fun j => rowsIJ ts i j) ++ ((nc tB tA).take k).map fun nm => rowD i j nm (farL ts tA tB nm)),
            ⟨⟨v4, v5, v6, rfl⟩, Same.refl _, us2, hF3, by simpa using dpsSame (hid_same e3) _ _ hD2⟩, fun k σ' H' z => ?_, fun k nm σ' H' hk z => ?_, fun σ' H' z => ?_⟩
          · have := z.2.1 L _ (by rw [hid_ne nLF]; exact hL)
            rw [hid_ne nLF] at this
            exact this
          · obtain ⟨⟨v4, v5, v6, rfl⟩, g3, us, hF, hDu⟩ := z
            have hnm : nm ∈ nc tB tA := List.mem_of_getElem? hk
            have hkl : k < (nc tB tA).length := (List.getElem?_eq_some_iff.mp hk).1
            have kl8 : (nc tB tA).length ≤ 8 := Nat.le_trans (nc_le _ _) okA.1
            have up : Same H H' := fun b o e => by
              have nb : b ≠ F := ne_of_none e nF
              have w1 := g3 b o (by rw [hid_ne nb]; exact e3 _ _ (e2 _ _ e))
              rw [hid_ne nb] at w1
              exact w1
            -- some = []
            refine sq_lst fun l nl => ?_
            have nlF : l ≠ F := fun e => by
              rw [e, hF] at nl
              cases nl
            have nl' : hid F H' l = none := by rw [hid_ne nlF]; exact nl
            have up2 : Same H (upd H' l (.lst [])) := up.trans (same_upd nl)
            refine sq_for ?_
            refine for_names (ns := tB) (fun p => !isIn p tA) (fun R hR => ⟨_, rfl, _, rfl, a, _, _, _, rfl, rfl, sameT up2 ha'', hzz, hR az _ (Same.refl _) (sameT up2 sz)⟩) (by omega) (fun _ => rfl) (fun _ => rfl) (fun p _ H4 e4 R hR => ?_) fun L2 H4 nL2 e4 hL2 => ?_
            · exact ⟨_, rfl, _, rfl, _, rfl, a, _, _, _, rfl, rfl, sameT (up2.trans e4) ha', hy, ay, _, rfl, .inr (sameT (up2.trans e4) sy), rfl, flat_strs tA, _, rfl, by rw [inV_strs]; exact hR⟩
            · have nL2l : L2 ≠ l := fun e => by
                rw [e, upd_same] at nL2
                cases nL2
              have nL2F : L2 ≠ F := fun e => by
                rw [e, upd_ne nlF.symm, hF] at nL2
                cases nL2
              have hF4 : H4 F = some (.lst us) := e4 _ _ (by rw [upd_ne nlF.symm]; exact hF)
              have hl4 : H4 l = some (.lst []) := e4 _ _ upd_same
              have g4 : Same (hid F H') (hid F H4) := fun b o e => by
                by_cases hb : b = F
                · rw [hb, hid_at] at e
                  cases e
                · rw [hid_ne hb] at e ⊢
                  exact e4 _ _ (same_upd nl _ _ e)
              refine ⟨fun m σ' H5 => (∃ v6, σ' = [some (.ref a), some (.ref F), some (.int i), some (.int j), some (.str nm), some (.ref l), v6, none]) ∧ H5 F = some (.lst us) ∧ Same (hid F H') (hid F H5) ∧ H5 L2 = some (.lst ((nc tA tB).map V.str)) ∧
                H5 l = some (.lst ((((nc tA tB).take m).filter fun far => isOne (ex tA nm far) ts).map V.str)), ⟨⟨v6, rfl⟩, hF4, g4, hL2, hl4⟩, fun m σ' H5 z => z.2.2.2.1, fun m far σ' H5 hm z => ?_, fun σ' H5 z => ?_⟩
              · obtain ⟨⟨v6, rfl⟩, hF5, g5, hL5, hl5⟩ := z
                have hfar : far ∈ nc tA tB := List.mem_of_getElem? hm
                have up5 : Same H H5 := fun b o e => by
                  have nb : b ≠ F := ne_of_none e nF
                  have w1 := g5 b o (by rw [hid_ne nb]; exact up _ _ e)
                  rw [hid_ne nb] at w1
                  exact w1
                refine ⟨_, rfl, _, rfl, a, _, _, _, rfl, rfl, sameT up5 ha', hy, _, rfl, .ref ay, tA, nm, rfl, ⟨ay, rfl, sameT up5 sy⟩, by omega, fun v H6 e6 hv => ?_⟩
                obtain ⟨av, rfl, hv⟩ := hv
                refine ⟨_, rfl, (by decide : 1 ≤ sizeLine), fun t nt => ?_⟩
                have hbl : (but tA nm).length ≤ 8 := Nat.le_trans (List.length_filter_le _ _) okA.1
                refine cat_names (xs := but tA nm) (ys := [far]) (sameT (same_upd nt) hv) (st_ upd_same) (by show _ + 1 ≤ _; omega) fun z7 H7 e7 h7 => ?_
                unfold tNil
                show rSrt K [.ref z7] _ _
                refine srt_any (.inr h7) fun p8 n8 => ⟨p8, _, rfl, .inl ⟨sl_ upd_same, fun t9 n9 => ?_⟩⟩
                have e9 := (((e6.trans (same_upd nt)).trans e7).trans (same_upd n8)).trans (same_upd (o := .tup ((srt (but tA nm ++ [far])).map V.str)) n9)
                refine ⟨_, rfl, sD (ex tA nm far), ts.map sD, S1.dp ⟨t9, rfl, st_ upd_same⟩, (ht.same (up5.trans e9)).dp, shaped_sD (ok_ex okA.2 (ok_nc okB.2 far hfar)), shaped_teams (fun t z => (gt.each t z).2.2), _, rfl, ?_⟩
                rw [any_sD]
                have hF9 := e9 _ _ hF5
                have hL9 := e9 _ _ hL5
                have hl9 := e9 _ _ hl5
                have g9 := g5.trans (hid_same e9)
                generalize upd (upd H7 p8 (.lst ((srt (but tA nm ++ [far])).map V.str))) t9 (.tup ((srt (but tA nm ++ [far])).map V.str)) = H9 at hF9 hL9 hl9 g9 ⊢
                refine ite2 (fun hc => ?_) (fun hc => ?_)
                · refine ⟨_, rfl, .inl ⟨rfl, _, SqL.of hl9⟩, _, rfl, l, _, _, rfl, rfl, hl9, ?_, ?_⟩
                  · refine big ?_
                    rw [List.length_map]
                    have h1 := List.length_filter_le (fun far => isOne (ex tA nm far) ts) ((nc tA tB).take m)
                    have h2 := nc_le tA tB
                    rw [List.length_take] at h1
                    omega
                  · refine ⟨⟨_, rfl⟩, by rw [upd_ne nlF.symm]; exact hF9, ?_, by rw [upd_ne nL2l]; exact hL9, ?_⟩
                    · intro b o e
                      have nb : b ≠ l := ne_of_none e nl'
                      have w1 := g9 b o e
                      by_cases hb : b = F
                      · rw [hb, hid_at] at e
                        cases e
                      · rw [hid_ne hb] at w1 ⊢
                        rw [upd_ne nb]
                        exact w1
                    · rw [upd_same, take_snoc (show (nc tA tB)[m]? = some far from hm), List.filter_append, List.filter_cons_of_pos (p := fun far => isOne (ex tA nm far) ts) (a := far) hc]
                      simp
                · refine ⟨⟨_, rfl⟩, hF9, g9, hL9, ?_⟩
                  rw [take_snoc (show (nc tA tB)[m]? = some far from hm), List.filter_append, List.filter_cons_of_neg (p := fun far => isOne (ex tA nm far) ts) (a := far) hc]
                  simpa using hl9
              · obtain ⟨⟨v6, rfl⟩, hF5, g5, hL5, hl5⟩ := z
                have ef : ((nc tA tB).take (tB.filter fun p => !isIn p tA).length).filter (fun far => isOne (ex tA nm far) ts) = farL ts tA tB nm := by
                  show ((nc tA tB).take (nc tA tB).length).filter (fun far => isOne (ex tA nm far) ts) = farL ts tA tB nm
                  rw [List.take_length]
                  rfl
                rw [ef] at hl5
                refine ⟨_, rfl, .inl ⟨rfl, _, SqL.of hF5⟩, _, rfl, _, rfl, _, rfl, _, rfl, (by decide : 4 ≤ sizeLine), fun t nt => ?_⟩
                have ntF : t ≠ F := fun e => by
                  rw [e, hF5] at nt
                  cases nt
                have ntl : l ≠ t := ne_of_none hl5 nt
                have hul := dpa_len hDu
                refine ⟨F, us, _, rfl, rfl, by rw [upd_ne ntF.symm]; exact hF5, ?_, ⟨_, _, _, rfl⟩, ?_, us ++ [.ref t], upd_same, ?_⟩
                · have h1 := b3 i (by omega)
                  have h2 := b2 i j (by omega)
                  rw [List.length_append, List.length_append, List.length_map, List.length_take] at hul
                  exact big (by omega)
                · rw [hid_upd]
                  exact (g3.trans g5).trans (hid_same (same_upd nt))
                · rw [hid_upd]
                  have g6 : Same (hid F H') (hid F (upd H5 t (.tup [.int i, .int j, .str nm, .ref l]))) := g5.trans (hid_same (same_upd nt))
                  have one : Dp K (hid F (upd H5 t (.tup [.int i, .int j, .str nm, .ref l]))) (.ref t) (rowD i j nm (farL ts tA tB nm)) := by
                    refine .tup (st_ (by rw [hid_ne ntF]; exact upd_same)) (.cons (.int _) (.cons (.int _) (.cons (.str _) (.cons (.lst (sl_ ?_) (dpStrs _)) .nil))))
                    rw [hid_ne nlF, upd_ne ntl]
                    exact hl5
                  have ek : ((nc tB tA).take (k + 1)).map (fun nm => rowD i j nm (farL ts tA tB nm)) = ((nc tB tA).take k).map (fun nm => rowD i j nm (farL ts tA tB nm)) ++ [rowD i j nm (farL ts tA tB nm)] := by
                    rw [take_snoc (show (nc tB tA)[k]? = some nm from hk), List.map_append]
                    rfl
                  rw [ek, ← List.append_assoc]
                  exact dpa_app (dpsSame g6 _ _ hDu) (.cons one .nil)
          · obtain ⟨⟨v4, v5, v6, rfl⟩, g3, us, hF, hDu⟩ := z
            refine ⟨⟨_, _, _, _, rfl⟩, fun b o e => ?_, us, hF, ?_⟩
            · have nb : b ≠ F := ne_of_none e nF
              have w1 := g3 b o (by rw [hid_ne nb]; exact e3 _ _ (e2 _ _ e))
              rw [hid_ne nb] at w1
              exact w1
            · have e5 : ((nc tB tA).take (tA.filter fun p => !isIn p tB).length).map (fun nm => rowD i j nm (farL ts tA tB nm)) = rowsIJ ts i j := by
                show ((nc tB tA).take (nc tB tA).length).map (fun nm => rowD i j nm (farL ts tA tB nm)) = rowsIJ ts i j
                rw [List.take_length]
                unfold rowsIJ
                rw [hA, hB]
              rw [e5] at hDu
              rw [List.range_succ, List.flatMap_append, ← List.append_assoc]
              simpa using hDu
      · rintro σ2 H2 ⟨⟨v3, v4, v5, v6, rfl⟩, e2, us2, hF2, hD2⟩
        refine ⟨⟨_, _, _, _, _, rfl⟩, e2, us2, hF2, ?_⟩
        rw [List.range_succ, List.flatMap_append]
        have e5 : (List.range (ts.length : Int).toNat).flatMap (fun j => rowsIJ ts i j) = rowsI ts i := by
          rw [Int.toNat_natCast]
          rfl
        rw [e5] at hD2
        simpa using hD2
    · rintro σ1 H1 ⟨⟨v2, v3, v4, v5, v6, rfl⟩, e1, us1, hF1, hD1⟩
      refine ⟨_, rfl, q F us1 H1 e1 hF1 ?_⟩
      rw [Int.toNat_natCast] at hD1
      exact dpsSame (hid_sub F H1) _ _ hD1
end
end K49

namespace K49
open PySem PySem.Spec PyProof.Rows L2 PySem.W Cb Evl
/-- a row without anybody who can take the place -/
def rowE : PyData → Bool
  | .tuple [_, _, _, .list fs] => fs.isEmpty
  | _ => false
theorem rowE_row (i j : Nat) (nm : Str) (far : List Str) : rowE (rowD i j nm far) = far.isEmpty := by
  unfold rowD rowE
  cases far <;> rfl
theorem isEmpty_filter {α : Type} (p : α → Bool) (l : List α) : (l.filter p).isEmpty = !l.any p := by
  induction l with
  | nil => rfl
  | cons x l ih =>
    by_cases h : p x = true
    · rw [List.filter_cons_of_pos h, List.any_cons, h]
      rfl
    · rw [List.filter_cons_of_neg h, List.any_cons, ih]
      simp [h]
theorem getD_mem {ts : List (List Str)} {i : Nat} (h : i < ts.length) : ts.getD i [] ∈ ts := by
  have e : ts.getD i [] = ts[i] := by simp [List.getD, List.getElem?_eq_getElem h]
  rw [e]
  exact List.getElem_mem h
theorem good_same (ts : List (List Str)) : ((rowsL ts).filter rowE).isEmpty = (goodB ts).all id := by
  rw [isEmpty_filter, Bool.eq_iff_iff]
  constructor
  · intro h
    have h1 : ∀ d ∈ rowsL ts, rowE d = false := fun d hd => by
      cases e : rowE d with
      | false => rfl
      | true =>
        have : (rowsL ts).any rowE = true := List.any_eq_true.mpr ⟨d, hd, e⟩
        rw [this] at h
        cases h
    rw [List.all_eq_true]
    intro b hb
    unfold goodB at hb
    rw [List.mem_flatMap] at hb
    obtain ⟨c, hc, hb⟩ := hb
    rw [List.mem_flatMap] at hb
    obtain ⟨o, ho, hb⟩ := hb
    obtain ⟨p, hp, rfl⟩ := List.mem_map.mp hb
    obtain ⟨i, hi, ei⟩ := List.mem_iff_getElem.mp hc
    obtain ⟨j, hj, ej⟩ := List.mem_iff_getElem.mp ho
    have gi : ts.getD i [] = c := by simp [List.getD, List.getElem?_eq_getElem hi, ei]
    have gj : ts.getD j [] = o := by simp [List.getD, List.getElem?_eq_getElem hj, ej]
    have h2 := h1 (rowD i j p (farL ts c o p)) (by
      unfold rowsL rowsI rowsIJ
      refine List.mem_flatMap.mpr ⟨i, List.mem_range.mpr hi, List.mem_flatMap.mpr ⟨j, List.mem_range.mpr hj, ?_⟩⟩
      rw [gi, gj]
      exact List.mem_map.mpr ⟨p, hp, rfl⟩)
    rw [rowE_row] at h2
    unfold farL at h2
    rw [isEmpty_filter] at h2
    show canEx ts c p o = true
    unfold canEx
    simpa using h2
  · intro h
    rw [List.all_eq_true] at h
    have h1 : (rowsL ts).any rowE = false := by
      rw [List.any_eq_false]
      intro d hd
      unfold rowsL at hd
      rw [List.mem_flatMap] at hd
      obtain ⟨i, hi, hd⟩ := hd
      unfold rowsI at hd
      rw [List.mem_flatMap] at hd
      obtain ⟨j, hj, hd⟩ := hd
      unfold rowsIJ at hd
      obtain ⟨p, hp, rfl⟩ := List.mem_map.mp hd
      have hc := getD_mem (List.mem_range.mp hi)
      have ho := getD_mem (List.mem_range.mp hj)
      have h2 := h (canEx ts (ts.getD i []) p (ts.getD j [])) (by
        unfold goodB
        exact List.mem_flatMap.mpr ⟨_, hc, List.mem_flatMap.mpr ⟨_, ho, List.mem_map.mpr ⟨p, hp, rfl⟩⟩⟩)
      rw [rowE_row]
      unfold farL
      rw [isEmpty_filter]
      have h3 : canEx ts (ts.getD i []) p (ts.getD j []) = true := h2
      unfold canEx at h3
      simpa using h3
    rw [h1]
    rfl
theorem row_lay {i j : Nat} {nm : Str} {far : List Str} (h : okS nm) (hf : ∀ n ∈ far, okS n) : PyData.canLay0 (rowD i j nm far) = true ∧ PyData.depth (rowD i j nm far) ≤ 2 := by
  unfold rowD
  refine ⟨?_, ?_⟩
  · have h1 := lay_strs far hf
    simp [PyData.canLay0, PyData.canLayAll0, h1, h.1]
  · simp [PyData.depth, PyData.depthAll, depth_strs]
theorem rows_shaped : ∀ {ds : List PyData}, (∀ d ∈ ds, PyData.canLay0 d = true ∧ PyData.depth d ≤ 2) → PyData.canLayAll0 ds = true ∧ PyData.depthAll ds ≤ 2
  | [], _ => by simp [PyData.canLayAll0, PyData.depthAll]
  | d :: ds, h => by
    obtain ⟨a, b⟩ := rows_shaped (ds := ds) fun x hx => h x (List.mem_cons_of_mem _ hx)
    obtain ⟨c, e⟩ := h d List.mem_cons_self
    rw [PyData.canLayAll0, PyData.depthAll, a, c]
    exact ⟨rfl, Nat.max_le.mpr ⟨e, b⟩⟩
theorem rows_ok {ts : List (List Str)} (gt : Gt ts) : ∀ d ∈ rowsL ts, ∃ i j nm far, d = rowD i j nm far ∧ okS nm ∧ ∀ n ∈ far, okS n := fun d hd => by
  unfold rowsL at hd
  rw [List.mem_flatMap] at hd
  obtain ⟨i, hi, hd⟩ := hd
  unfold rowsI at hd
  rw [List.mem_flatMap] at hd
  obtain ⟨j, hj, hd⟩ := hd
  unfold rowsIJ at hd
  obtain ⟨p, hp, rfl⟩ := List.mem_map.mp hd
  have hc := (gt.each _ (getD_mem (List.mem_range.mp hi))).2.2
  have ho := (gt.each _ (getD_mem (List.mem_range.mp hj))).2.2
  exact ⟨i, j, p, _, rfl, ok_nc hc p hp, fun n hn => ok_nc ho n (List.mem_filter.mp hn).1⟩
theorem dpa_prd {K : Frag} {H : Hp} : ∀ {us : List V} {ds : List PyData}, DpAll K H us ds → Paired (Dp K H) us ds
  | _, [], h => by cases h; exact .nil
  | _, _ :: _, h => by
    cases h with
    | cons a b => exact .cons a (dpa_prd b)
theorem prd_dpa {K : Frag} {H : Hp} : ∀ {us : List V} {ds : List PyData}, Paired (Dp K H) us ds → DpAll K H us ds
  | _, _, .nil => .nil
  | _, _, .cons a b => .cons a (prd_dpa b)
section
variable {K : Frag} {tl : TE} {j : Nat} {vs : List Nat} {σ : Stt} {H : Hp} {tt : TT} {Q : VK} {β : Type} {F : Hp → V → β → Prop}
/-- [x for x in xs if ..], the items told by what they stand for -/
theorem lcL_pair (mono : ∀ H1 H2 v b, Same H1 H2 → F H1 v b → F H2 v b) (bs : List β) (p : β → Bool) (hl : ∀ R : VK, (∀ a H1 us, Same H H1 → SqL K H1 a us → Paired (F H1) us bs → R (.ref a) H1) → tl σ H R) (hn : bs.length ≤ 100000)
    (hj : ∀ x, wipe ((wipe σ vs).set j (some x)) vs = wipe σ vs) (hv : ∀ x, ((wipe σ vs).set j (some x))[j]? = some (some x))
    (ht : ∀ x b, b ∈ bs → ∀ H1, Same H H1 → F H1 x b → ∀ R : Bool → Hp → Prop, (∀ H2, Same H1 H2 → R (p b) H2) → tt ((wipe σ vs).set j (some x)) H1 R)
    (q : ∀ L us H', H L = none → Same H H' → H' L = some (.lst us) → Paired (F H') us (bs.filter p) → Q (.ref L) H') : tLc (iList K tl) (gName j) tt (tVar j) vs σ H Q := by
  refine hl _ fun a H1 us e1 hs hp => ⟨a, rfl, ⟨us, hs⟩, fun L nL => ?_⟩
  have hlen := prd_len hp
  refine lc_list (K := K) (a := a) (xs := us) (fun i H' => Same H1 H' ∧ ∃ ws, H' L = some (.lst ws) ∧ Paired (F H1) ws ((bs.take i).filter p)) ⟨same_upd nL, [], upd_same, .nil⟩ (fun i H' _ z => z.1.seq hs) (fun i x H' hi z => ⟨hj x, ?_⟩) fun H' z => ?_
  · obtain ⟨e2, ws, hw, hpw⟩ := z
    obtain ⟨b, hb, hf⟩ := prd_getL hp hi
    have hwl := prd_len hpw
    have hfl := List.length_filter_le p (bs.take i)
    have hbl := (List.getElem?_eq_some_iff.mp hb).1
    rw [List.length_take] at hfl
    refine ht x b (List.mem_of_getElem? hb) H' (e1.trans e2) (mono _ _ _ _ e2 hf) _ fun H2 e3 => ?_
    rw [take_snoc hb, List.filter_append]
    by_cases h : p b = true
    · rw [if_pos h]
      refine ⟨x, hv x, ws, e3 _ _ hw, big (by omega), same_mut (e2.trans e3) nL, ws ++ [x], upd_same, ?_⟩
      rw [List.filter_cons_of_pos h]
      exact prd_app hpw (.cons hf .nil)
    · rw [if_neg h]
      refine ⟨e2.trans e3, ws, e3 _ _ hw, ?_⟩
      rw [List.filter_cons_of_neg h]
      simpa using hpw
  · obtain ⟨e2, ws, hw, hpw⟩ := z
    rw [hlen, List.take_length] at hpw
    exact q L ws H' (e1.free nL) (e1.trans e2) hw (prd_mono (fun _ _ z => mono _ _ _ _ e2 z) hpw)
end
section
variable {P : Program} {w : World} {K : Frag} {mg : Str → Option Value} {base : Heap}
abbrev s_lgood : Stmt := top 17
abbrev N_lgood : List Str := ["_law_teams", "_law_row_now"]
theorem sc_lgood : FnScope N_lgood ["_law_teams"] (defScope s_lgood) := ⟨rfl, rfl, rfl, by decide +kernel, rfl, by decide +kernel, by decide +kernel⟩
theorem ok_lgood {f : Addr} {fd : FuncData} {k : Nat} (F : Fun K "_law_is_good" "_law_is_good" s_lgood f fd) (D__law_exchanges : Own P w K mg base 2 "_law_exchanges" ["_law_teams"] (sp_exs K)) : FnOk P w K mg base CX0 (k + 3) f fd ["_law_teams"] (sp_good K) := by
  refine F.ok sc_lgood (fun vs H Q E h => ?_) (fun cdv A outer s H vs Q E hr h => ?_)
  · obtain ⟨_, _, rfl, _⟩ := h
    rfl
  · obtain ⟨x, ts, rfl, ht, gt, q⟩ := h
    have hr2 : Room 2 _ := hr.mono (by omega)
    refine ⟨_, (pss_one (ps_ret (pe_cmpR (o_eqD K hr.units) (pe_lc (own := [("_law_row_now", 1)]) (g := gName 1) rfl sc_lgood.nd (p_list K (pe_call D__law_exchanges.G hr2 rfl D__law_exchanges.m D__law_exchanges.kp D__law_exchanges.b .nil pass0 (pa_cons (pv 0) pa_nil))) (blkOk_by (own := [("_law_row_now", 1)]) (N := N_lgood) (sc := defScope s_lgood) (by decide +kernel)) (fun _ _ _ _ _ => (pg_name (i := 1) sc_lgood.nd rfl (Or.inl rfl)))
      (fun _ _ _ _ _ => (pts_one (pt_cmpR (o_eqD K hr.units) (pe_ix (i_tup K) (pv 1) pe_int (fun _ _ => rfl)) (pe_lst pa_nil) (nomark _)))) (fun _ _ _ _ _ => (pv 1))) (pe_lst pa_nil) (nomark _)))), ?_⟩
    unfold tRet tOp
    have ok := rows_ok gt
    have hz : ∀ i, (ts.getD i []).length ≤ 8 := fun i => by
      by_cases hi : i < ts.length
      · exact (gt.each _ (getD_mem hi)).2.1
      · have e : ts.getD i [] = [] := by simp [List.getD, List.getElem?_eq_none (Nat.le_of_not_lt hi)]
        rw [e]
        simp
    have long : (rowsL ts).length ≤ 100000 := by
      have h1 := flat_le 512 (fun i => rowsI ts i) (List.range ts.length) fun i _ => by
        have h2 := flat_le 8 (fun j => rowsIJ ts i j) (List.range ts.length) fun j _ => by
          unfold rowsIJ
          rw [List.length_map]
          exact Nat.le_trans (nc_le _ _) (hz i)
        rw [List.length_range] at h2
        have := gt.many
        exact Nat.le_trans h2 (by omega)
      rw [List.length_range] at h1
      have h3 : ts.length * 512 ≤ 64 * 512 := Nat.mul_le_mul_right _ gt.many
      exact Nat.le_trans h1 (by omega)
    refine lcL_pair (F := Dp K) (fun H1 H2 v b e z => dpSame e _ _ z) (rowsL ts) rowE (fun R hR => ⟨_, rfl, x, ts, rfl, ht, gt, fun F us H' e hF hD => hR F H' us e (sl_ hF) (dpa_prd hD)⟩) long (fun _ => rfl) (fun _ => rfl) (fun v d hd H1 e1 hv R hR => ?_) fun L us H' nL e hL hp => ?_
    · obtain ⟨i, j, nm, far, rfl, okn, okf⟩ := ok d hd
      rw [rowE_row] at hR
      unfold rowD at hv
      cases hv with
      | @tup t ys _ hs ha =>
        cases ha with
        | cons h1 ha =>
          cases ha with
          | cons h2 ha =>
            cases ha with
            | cons h3 ha =>
              cases ha with
              | cons h4 ha =>
                cases ha
                refine ⟨_, rfl, t, _, 3, _, rfl, rfl, hs, atI_nat (j := 3) rfl, Nat.zero_le _, fun l nl => ⟨_, .list [], dpSame (same_upd nl) _ _ h4, .lst (sl_ upd_same) .nil, shaped_strs okf, shaped_nil, _, rfl, ?_⟩⟩
                rw [eqv_strs_nil]
                exact hR _ (same_upd nl)
    · have sh := rows_shaped (ds := (rowsL ts).filter rowE) fun d hd => by
        obtain ⟨i, j, nm, far, rfl, okn, okf⟩ := ok d (List.mem_filter.mp hd).1
        exact row_lay okn okf
      refine ⟨Nat.zero_le _, fun l nl => ⟨.list ((rowsL ts).filter rowE), .list [], dpSame (same_upd nl) _ _ (.lst (sl_ hL) (prd_dpa hp)), .lst (sl_ upd_same) .nil, ?_, shaped_nil, ?_⟩⟩
      · unfold SeqAt.shaped
        rw [PyData.canLay0, sh.1, PyData.depth]
        have := sh.2
        simp
        omega
      · rw [eqv_list_nil, good_same]
        exact q _ (e.trans (same_upd nl))
end
end K49

namespace K49
open PySem PySem.Spec PyProof.Rows L2 PySem.W Cb Evl
/-- x = e, then the rest -/
theorem sq_set {i : Nat} {te : TE} {rest : TS} {D : Ends} {σ : Stt} {H : Hp} (h : te σ H fun x H1 => rest D (σ.set i (some x)) H1) : tSeq (tAsg te (gName i)) rest D σ H := h
/-- sets made of some people, of every size up to i -/
structure Sets (i : Nat) (ns : List Str) (f : List (List Str)) : Prop where
  num : f.length = 2 ^ i
  each : ∀ t ∈ f, t.length ≤ i ∧ ∀ n ∈ t, n ∈ ns
  any : ∀ k, k ≤ i → ∃ t, t ∈ f ∧ t.length = k
theorem sets0 (ns : List Str) : Sets 0 ns [[]] := ⟨rfl, fun t h => by rw [List.mem_singleton.mp h]; exact ⟨Nat.le_refl _, fun n z => absurd z (by simp)⟩, fun k hk => ⟨[], by simp, by simp; omega⟩⟩
theorem Sets.step {i : Nat} {ns : List Str} {f : List (List Str)} {n : Str} (h : Sets i ns f) (hn : n ∈ ns) : Sets (i + 1) ns (f ++ f.map (· ++ [n])) := by
  refine ⟨by rw [List.length_append, List.length_map, h.num, Nat.pow_succ]; omega, fun t ht => ?_, fun k hk => ?_⟩
  · rcases List.mem_append.mp ht with ht | ht
    · have := h.each t ht
      exact ⟨by omega, this.2⟩
    · obtain ⟨u, hu, rfl⟩ := List.mem_map.mp ht
      have := h.each u hu
      refine ⟨by simp; omega, fun m hm => ?_⟩
      rcases List.mem_append.mp hm with hm | hm
      · exact this.2 m hm
      · rw [List.mem_singleton.mp hm]
        exact hn
  · by_cases hki : k ≤ i
    · obtain ⟨t, ht, e⟩ := h.any k hki
      exact ⟨t, List.mem_append.mpr (.inl ht), e⟩
    · obtain ⟨t, ht, e⟩ := h.any i (Nat.le_refl _)
      exact ⟨t ++ [n], List.mem_append.mpr (.inr (List.mem_map.mpr ⟨t, ht, rfl⟩)), by simp; omega⟩
theorem Sets.perm {i : Nat} {ns : List Str} {f g : List (List Str)} (h : Sets i ns f) (p : g.Perm f) : Sets i ns g :=
  ⟨by rw [p.length_eq, h.num], fun t ht => h.each t (p.mem_iff.mp ht), fun k hk => by
    obtain ⟨t, ht, e⟩ := h.any k hk
    exact ⟨t, p.mem_iff.mpr ht, e⟩⟩
section
variable {P : Program} {w : World} {K : Frag} {mg : Str → Option Value} {base : Heap}
/-! ### all sets of some people -/
abbrev s_sets : Stmt := top 15
abbrev N_sets : List Str := ["_law_names_now", "_law_found", "_law_name", "_law_some"]
theorem sc_sets : FnScope N_sets ["_law_names_now"] (defScope s_sets) := ⟨rfl, rfl, rfl, by decide +kernel, rfl, by decide +kernel, by decide +kernel⟩
def sp_sets (K : Frag) : Sp := fun vs H Q _ => ∃ (a : Addr) (ns : List Str), vs = [.ref a] ∧ SqL K H a (ns.map V.str) ∧ ns.length ≤ 10 ∧
  ∀ (F : Addr) (us : List V) (f : List (List Str)) (H' : Hp), Same H H' → H' F = some (.lst us) → Paired (S1 K H') us f → Sets ns.length ns f → Q (.ref F) H'
theorem ok_sets {f : Addr} {fd : FuncData} {k : Nat} (F : Fun K "_law_all_sets" "_law_all_sets" s_sets f fd) (B : Blt mg) : FnOk P w K mg base CX0 (k + 1) f fd ["_law_names_now"] (sp_sets K) := by
  refine F.ok sc_sets (fun vs H Q E h => ?_) (fun cdv A outer s H vs Q E hr h => ?_)
  · obtain ⟨_, _, rfl, _⟩ := h
    rfl
  · obtain ⟨a, ns, rfl, ha, hn, q⟩ := h
    refine ⟨_, (pss_cons (ps_set (i := 1) sc_sets.nd rfl (Or.inl rfl) (pe_lst (pa_cons (pe_tup pa_nil) pa_nil)))
      (pss_cons (ps_for PassesOwn.never rfl (p_list K (pe_callB (c_srt K hr.units) (by rfl) B.sorted (by decide +kernel) (pa_cons (pv 0) pa_nil))) (pg_name (i := 2) sc_sets.nd rfl (Or.inr rfl))
      (pss_one (ps_set (i := 1) sc_sets.nd rfl (Or.inl rfl) (pe_op op_cat (pv 1) (pe_lc (own := [("_law_some", 3)]) (g := gName 3) (tt := tYes) rfl sc_sets.nd (p_list K (pv 1)) (blkOk_by (own := [("_law_some", 3)]) (N := N_sets) (sc := defScope s_sets) (by decide +kernel)) (fun _ _ _ _ _ => (pg_name (i := 3) sc_sets.nd rfl (Or.inl rfl))) (fun _ _ _ _ _ => pts_nil) (fun _ _ _ _ _ => (pe_op (o_catA K) (pv 3) (pe_tup (pa_cons (pv 2) pa_nil)))))))))
      (pss_one (ps_ret (pe_srtLen hr.units B.sorted B.len (by rfl) (by rfl) (pv 1)))))), ?_⟩
    refine sq_set ⟨Nat.zero_le _, fun p np => ⟨(by decide : 1 ≤ sizeLine), fun F0 nF => ?_⟩⟩
    have s1 : Same H (upd H p (.tup [])) := same_upd np
    have s2 := s1.trans (same_upd (o := .lst [.ref p]) nF)
    refine sq_for ?_
    unfold tFor iList tCB tCons tNil
    refine ⟨_, rfl, ?_⟩
    show rSrt K [.ref a] _ _
    refine srt_any (.inl (s2.seq ha)) fun L nL => ⟨L, rfl, ⟨_, sl_ upd_same⟩, ?_⟩
    have s3 := s2.trans (same_upd (o := .lst ((srt ns).map V.str)) nL)
    refine for_list (xs := (srt ns).map V.str) (fun i σ' H' => Same H H' ∧ H' L = some (.lst ((srt ns).map V.str)) ∧ ∃ (v2 : Option V) (F' : Addr) (us : List V) (f : List (List Str)), σ' = [some (.ref a), some (.ref F'), v2, none] ∧ H' F' = some (.lst us) ∧ Paired (S1 K H') us f ∧ Sets i ns f)
      ⟨s3, upd_same, none, F0, [.ref p], [[]], rfl, same_upd nL _ _ upd_same, .cons ⟨p, rfl, st_ (same_upd nL _ _ (same_upd nF _ _ upd_same))⟩ .nil, sets0 ns⟩ (fun i σ' H2 _ z => sl_ z.2.1) (fun i x σ' H2 hi z => ?_) fun σ' H2 z => ?_
    · obtain ⟨e2, hL, v2, F', us, f, rfl, hF, hp, hs⟩ := z
      rw [List.getElem?_map] at hi
      obtain ⟨n, hi2, rfl⟩ := Option.map_eq_some_iff.mp hi
      have hnm : n ∈ ns := (srt_perm ns).mem_iff.mp (List.mem_of_getElem? hi2)
      have hil := (List.getElem?_eq_some_iff.mp hi2).1
      rw [srt_len] at hil
      have hul := prd_len hp
      have hfl := hs.num
      have h10 : 2 ^ i ≤ 2 ^ 10 := Nat.pow_le_pow_right (by decide) (by omega)
      refine ⟨_, rfl, ?_⟩
      refine lcL_rel (K := K) (tl := tVar 1) (j := 3) (vs := [3]) (te := tOp (rCatA K) (tVar 3) (tTup (tCons (tVar 2) tNil))) (xs := us) (F := fun H v b => S1 K H v b) (fun _ _ _ _ e z => e.s1 z) (f.map (· ++ [n])) (fun R hR => ⟨_, rfl, hR F' _ (Same.refl _) (sl_ hF)⟩) (by omega) (by rw [List.length_map]; exact hul) (fun _ => rfl) (fun j x b hx hb H3 e3 R hR => ?_) fun D ws H3 nD e3 hD hp3 => ?_
      · rw [List.getElem?_map] at hb
        obtain ⟨t, ht, rfl⟩ := Option.map_eq_some_iff.mp hb
        obtain ⟨t', ht', hx'⟩ := prd_getL hp hx
        rw [ht] at ht'
        cases ht'
        obtain ⟨ax, rfl, hx'⟩ := hx'
        have := (hs.each t (List.mem_of_getElem? ht)).1
        refine ⟨_, rfl, _, rfl, (by decide : 1 ≤ sizeLine), fun l nl => ?_⟩
        refine cat_names (xs := t) (ys := [n]) (sameT (e3.trans (same_upd nl)) hx') (st_ upd_same) (by simp; omega) fun z H4 e4 hz => hR _ _ ((same_upd nl).trans e4) ⟨z, rfl, hz⟩
      · have hwl := prd_len hp3
        rw [List.length_map] at hwl
        refine ⟨F', D, us, ws, rfl, rfl, e3 _ _ hF, hD, Nat.le_of_lt (big (by omega)), fun z nz => ?_⟩
        have s4 := same_upd (o := .lst (us ++ ws)) nz
        exact ⟨(e2.trans e3).trans s4, s4 _ _ (e3 _ _ hL), some (.str n), z, us ++ ws, f ++ f.map (· ++ [n]), rfl, upd_same, prd_app (prd_mono (fun _ _ z => z.same (e3.trans s4)) hp) (prd_mono (fun _ _ z => z.same s4) hp3), hs.step hnm⟩
    · obtain ⟨e2, hL, v2, F', us, f, rfl, hF, hp, hs⟩ := z
      rw [List.length_map, srt_len] at hs
      obtain ⟨zs, rfl, rfl, hz⟩ := prd_fst hp
      refine ⟨_, rfl, F', zs, rfl, sl_ hF, hz, fun p np => ?_⟩
      have s4 := same_upd (o := .lst ((zs.mergeSort (dataLe false fun b : V × List Str => PyData.int b.2.length)).map (·.1))) np
      exact q p _ ((zs.mergeSort (dataLe false fun b : V × List Str => PyData.int b.2.length)).map (·.2)) _ (e2.trans s4) upd_same (prd_of fun z m => (hz z (List.mem_mergeSort.mp m)).same s4) (hs.perm ((List.mergeSort_perm zs _).map _))
end
end K49

namespace K49
open PySem PySem.Spec PyProof.Rows L2 PySem.W Cb Evl
theorem sq_par {i j : Nat} {ta : TA} {rest : TS} {D : Ends} {σ : Stt} {H : Hp} (h : ta σ H fun vs H1 => ∃ v w, vs = [v, w] ∧ rest D ((σ.set i (some v)).set j (some w)) H1) : tSeq (tPar i j ta) rest D σ H := h
section
variable {K : Frag} {tl : TE} {j : Nat} {vs : List Nat} {σ : Stt} {H : Hp} {Q : VK} {tt : TT} {F : Addr} {us : List V} {ts : List (List Str)}
/-- [t for t in found if ..], some of the crews found -/
theorem lcL_some (hl : ∀ R : VK, R (.ref F) H → tl σ H R) (hF : H F = some (.lst us)) (hp : Paired (S1 K H) us ts) (hn : us.length ≤ 1000) (hj : ∀ x, wipe ((wipe σ vs).set j (some x)) vs = wipe σ vs) (hv : ∀ x, ((wipe σ vs).set j (some x))[j]? = some (some x))
    (ht : ∀ x t, t ∈ ts → ∀ H1, Same H H1 → S1 K H1 x t → ∀ R : Bool → Hp → Prop, (∀ b H2, Same H1 H2 → R b H2) → tt ((wipe σ vs).set j (some x)) H1 R)
    (q : ∀ D ws wts H', H D = none → Same H H' → H' D = some (.lst ws) → Paired (S1 K H') ws wts → (∀ t ∈ wts, t ∈ ts) → Q (.ref D) H') : tLc (iList K tl) (gName j) tt (tVar j) vs σ H Q := by
  refine hl _ ⟨F, rfl, ⟨us, sl_ hF⟩, fun D nD => ?_⟩
  refine lc_list (K := K) (a := F) (xs := us) (fun i H' => Same H H' ∧ ∃ ws wts, H' D = some (.lst ws) ∧ Paired (S1 K H') ws wts ∧ ws.length ≤ i ∧ ∀ t ∈ wts, t ∈ ts) ⟨same_upd nD, [], [], upd_same, .nil, Nat.zero_le _, fun _ z => absurd z (by simp)⟩ (fun i H' _ z => sl_ (z.1 _ _ hF)) (fun i x H' hi z => ⟨hj x, ?_⟩) fun H' z => ?_
  · obtain ⟨e2, ws, wts, hw, hpw, hwi, hm⟩ := z
    obtain ⟨t, ht', hx⟩ := prd_getL hp hi
    have htm : t ∈ ts := List.mem_of_getElem? ht'
    have hil := (List.getElem?_eq_some_iff.mp hi).1
    refine ht x t htm H' e2 (hx.same e2) _ fun b H2 e3 => ?_
    cases b with
    | true =>
      rw [if_pos rfl]
      refine ⟨x, hv x, ws, e3 _ _ hw, big (by omega), same_mut (e2.trans e3) nD, ws ++ [x], wts ++ [t], upd_same, ?_, by simp; omega, fun u hu => ?_⟩
      · have f2 : Fx H2 (upd H2 D (.lst (ws ++ [x]))) := Fx.mut (e3 _ _ hw)
        exact prd_app (f2.s1s (prd_mono (fun _ _ z => z.same e3) hpw)) (.cons (f2.s1 (hx.same (e2.trans e3))) .nil)
      · rcases List.mem_append.mp hu with hu | hu
        · exact hm u hu
        · rw [List.mem_singleton.mp hu]
          exact htm
    | false =>
      rw [if_neg (by simp)]
      exact ⟨e2.trans e3, ws, wts, e3 _ _ hw, prd_mono (fun _ _ z => z.same e3) hpw, by omega, hm⟩
  · obtain ⟨e2, ws, wts, hw, hpw, hwi, hm⟩ := z
    exact q D ws wts H' nD e2 hw hpw hm
end
theorem clamp (x : Int) {n : Nat} (h : 1 ≤ n) : ∃ b : Nat, (if (if x < (n : Int) then x else (n : Int)) > 1 then (if x < (n : Int) then x else (n : Int)) else (1 : Int)) = (b : Int) ∧ 1 ≤ b ∧ b ≤ n := by
  refine ⟨(if (if x < (n : Int) then x else (n : Int)) > 1 then (if x < (n : Int) then x else (n : Int)) else (1 : Int)).toNat, ?_, ?_, ?_⟩ <;> split <;> split <;> omega
def pool : List Str := ["a", "b", "c", "d", "ed", "zzzzzzzz"]
theorem pool_ok : ∀ n ∈ pool, okS n := by
  intro n hn
  have h : (pool.all fun n => PyData.strOk n && decide ((reprText n).length ≤ 20)) = true := by decide +kernel
  have h2 := List.all_eq_true.mp h n hn
  simp only [Bool.and_eq_true, decide_eq_true_eq] at h2
  exact h2
section
variable {P : Program} {w : World} {K : Frag} {mg : Str → Option Value} {base : Heap}
/-! ### drawn crews -/
/-- crews made: some, and fit -/
def sp_made (lo hi : Int) (K : Frag) : Sp := fun vs H Q _ => ∃ (r c : Addr) (m d : Int), vs = [.ref r, .int m] ∧ lo ≤ m ∧ m ≤ hi ∧ d ≤ 1000000 ∧ Rng H r c d ∧ ∀ v ts H', Ch r H H' → Rng H' r c (d + 1000) → S2 K H' v ts → Gt ts → ts ≠ [] → Q v H'
abbrev s_teams : Stmt := top 12
abbrev N_teams : List Str := ["_law_rng", "_law_most", "_law_folk", "_law_found", "_law_amount", "_law_turn", "_law_extra", "_law_some", "_law_rivals", "_law_team"]
theorem sc_teams : FnScope N_teams ["_law_rng", "_law_most"] (defScope s_teams) := ⟨rfl, rfl, rfl, by decide +kernel, rfl, by decide +kernel, by decide +kernel⟩
theorem ok_teams {f : Addr} {fd : FuncData} {k : Nat} (F : Fun K "_law_make_teams" "_law_make_teams" s_teams f fd) (B : Blt mg) (D__law_draw : Own P w K mg base 1 "_law_draw" ["_law_rng", "_law_limit"] sp_draw) (D__law_sample : Own P w K mg base 2 "_law_sample" ["_law_rng", "_law_pool", "_law_amount"] (sp_sample K))
    (D__law_is_within : Own P w K mg base 1 "_law_is_within" ["_law_some", "_law_more"] (sp_within K)) : FnOk P w K mg base CX0 (k + 3) f fd ["_law_rng", "_law_most"] (sp_made 3 5 K) := by
  refine F.ok sc_teams (fun vs H Q E h => ?_) (fun cdv A outer s H vs Q E hr h => ?_)
  · obtain ⟨_, _, _, _, rfl, _⟩ := h
    rfl
  · obtain ⟨r, c, m, d, rfl, hm1, hm2, hd, hR, q⟩ := h
    have hr1 : Room 1 _ := hr.mono (by omega)
    have hr2 : Room 2 _ := hr.mono (by omega)
    refine ⟨_, (pss_cons (ps_set (i := 2) sc_teams.nd rfl (Or.inl rfl) (pe_call D__law_sample.G hr2 rfl D__law_sample.m D__law_sample.kp D__law_sample.b .nil pass0 (pa_cons (pv 0) (pa_cons (pe_lst (pa_cons pe_str (pa_cons pe_str (pa_cons pe_str (pa_cons pe_str (pa_cons pe_str (pa_cons pe_str pa_nil))))))) (pa_cons (pe_op op_add pe_int (pe_call D__law_draw.G hr1 rfl D__law_draw.m D__law_draw.kp D__law_draw.b .nil pass0 (pa_cons (pv 0) (pa_cons (pe_op op_sub (pv 1) pe_int) pa_nil)))) pa_nil)))))
      (pss_cons (ps_par (by rfl) sc_teams.nd (i := 3) (j := 4) rfl rfl (by decide) rfl rfl (pa_cons (pe_lst pa_nil) (pa_cons (pe_ix (i_list K) (pe_lst (pa_cons pe_int (pa_cons pe_int (pa_cons pe_int (pa_cons pe_int (pa_cons pe_int pa_nil)))))) (pe_call D__law_draw.G hr1 rfl D__law_draw.m D__law_draw.kp D__law_draw.b .nil pass0 (pa_cons (pv 0) (pa_cons pe_int pa_nil))) (fun _ _ => rfl)) pa_nil)) (by rfl))
      (pss_cons (ps_for PassesOwn.never rfl (pi_range1 rfl B.range (pa_cons (pe_op op_add pe_int (pe_call D__law_draw.G hr1 rfl D__law_draw.m D__law_draw.kp D__law_draw.b .nil pass0 (pa_cons (pv 0) (pa_cons pe_int pa_nil)))) pa_nil)) (pg_name (i := 5) sc_teams.nd rfl (Or.inl rfl))
      (pss_cons (ps_set (i := 6) sc_teams.nd rfl (Or.inl rfl) (pe_ix (i_list K) (pe_lst (pa_cons pe_int (pa_cons pe_int (pa_cons pe_int (pa_cons pe_int (pa_cons (pe_un un_neg pe_int) pa_nil)))))) (pe_call D__law_draw.G hr1 rfl D__law_draw.m D__law_draw.kp D__law_draw.b .nil pass0 (pa_cons (pv 0) (pa_cons pe_int pa_nil))) (fun _ _ => rfl)))
      (pss_cons (ps_set (i := 7) sc_teams.nd rfl (Or.inr rfl) (pe_callTy (c_tuple K) (by rfl) B.tuple (by decide +kernel) (pa_cons (pe_callB (c_srt K hr.units) (by rfl) B.sorted (by decide +kernel) (pa_cons (pe_call D__law_sample.G hr2 rfl D__law_sample.m D__law_sample.kp D__law_sample.b .nil pass0 (pa_cons (pv 0) (pa_cons (pv 2) (pa_cons (pe_callB (call_max2 rfl) (by rfl) B.max (by decide +kernel) (pa_cons pe_int (pa_cons (pe_callB (call_min2 rfl) (by rfl) B.min (by decide +kernel) (pa_cons (pe_callB (c_len K) (by rfl) B.len (by decide +kernel) (pa_cons (pv 2) pa_nil)) (pa_cons (pe_op op_add (pv 4) (pv 6)) pa_nil))) pa_nil))) pa_nil)))) pa_nil)) pa_nil)))
      (pss_cons (ps_setLc (i := 8) (own := [("_law_team", 9)]) (g := gName 9) rfl sc_teams.nd rfl rfl (sw_true rfl rfl rfl (by decide +kernel)) (p_list K (pv 3)) (blkOk_by (own := [("_law_team", 9)]) (N := N_teams) (sc := defScope s_teams) (by decide +kernel)) (fun _ _ _ _ _ => (pg_name (i := 9) sc_teams.nd rfl (Or.inl rfl))) (fun _ _ _ _ _ => (pts_one (PW.pt (pw_or (pt_val (pe_call D__law_is_within.G hr1 rfl D__law_is_within.m D__law_is_within.kp D__law_is_within.b .nil pass0 (pa_cons (pv 9) (pa_cons (pv 7) pa_nil)))) (pw_or1 (pt_val (pe_call D__law_is_within.G hr1 rfl D__law_is_within.m D__law_is_within.kp D__law_is_within.b .nil pass0 (pa_cons (pv 7) (pa_cons (pv 9) pa_nil))))))))) (fun _ _ _ _ _ => (pv 9)))
      (pss_one (ps_if (pt_cmpR (o_eqD K hr.units) (pv 8) (pe_lst pa_nil) (nomark _)) (pss_one (ps_expr (pe_bm PySem.F.plainAttrs_list PySem.F.slot_list_append PySem.F.type_list_append mt_append (pv 3) (pa_cons (pv 7) pa_nil)))) pss_nil))))))
      (pss_one (ps_ret (pe_callTy (c_tuple K) (by rfl) B.tuple (by decide +kernel) (pa_cons (pe_callB (c_srt K hr.units) (by rfl) B.sorted (by decide +kernel) (pa_cons (pv 3) pa_nil)) pa_nil))))))), ?_⟩
    -- folk
    refine sq_set ⟨_, rfl, (by decide : 6 ≤ sizeLine), fun p np => ⟨_, rfl, _, rfl, _, _, rfl, rfl, r, c, m - 2, d, rfl, by omega, by omega, by omega, hR.same (same_upd np), fun z H1 c1 g1 z0 z1 => ?_⟩⟩
    obtain ⟨j, rfl⟩ : ∃ j : Nat, z = (j : Int) := ⟨z.toNat, by omega⟩
    have n1 : H p = none := np
    refine ⟨_, _, rfl, rfl, r, c, p, d + 1, pool, 3 + j, by rw [Int.natCast_add]; rfl, .inl (sl_ (c1.lst upd_same)), by show 3 + j ≤ 6; omega, by decide, g1, by omega, fun l folk H2 nl c2 g2 hl hfl hfm => ?_⟩
    have cA : Ch r H H2 := ((Ch.new np).trans c1).trans c2
    have okf : ∀ n ∈ folk, okS n := fun n hn => pool_ok n (hfm n hn)
    -- found, amount
    refine sq_par ⟨Nat.zero_le _, fun F nF => ⟨(by decide : 5 ≤ sizeLine), fun p2 np2 => ⟨_, rfl, r, c, 5, d + 1 + (3 + j : Nat), rfl, by decide, by decide, by omega, (g2.same (same_upd nF)).same (same_upd np2), fun z3 H3 c3 g3 z30 z31 => ?_⟩⟩⟩
    obtain ⟨j3, rfl⟩ : ∃ j : Nat, z3 = (j : Int) := ⟨z3.toNat, by omega⟩
    have hj3 : j3 < ([2, 2, 2, 1, 3] : List Int).length := by show j3 < 5; omega
    refine ⟨p2, ([2, 2, 2, 1, 3] : List Int).map V.int, _, .int ([2, 2, 2, 1, 3] : List Int)[j3], rfl, rfl, sl_ (c3.lst upd_same), atI_nat (by rw [List.getElem?_map, List.getElem?_eq_getElem hj3]; rfl), _, _, rfl, ?_⟩
    generalize ([2, 2, 2, 1, 3] : List Int)[j3] = am
    have cB : Ch r H H3 := ((cA.trans (Ch.new nF)).trans (Ch.new np2)).trans c3
    have hF3 : H3 F = some (.lst []) := c3.lst (same_upd np2 _ _ upd_same)
    have hl3 : H3 l = some (.lst (folk.map V.str)) := c3.lst (same_upd np2 _ _ (same_upd nF _ _ hl))
    -- for turn
    refine sq_for ?_
    refine ⟨_, rfl, r, c, 6, d + 1 + (3 + j : Nat) + 1, rfl, by decide, by decide, by omega, g3, fun z4 H4 c4 g4 z40 z41 => ⟨_, _, rfl, rfl, 4 + z4, rfl, by omega, by omega, ?_⟩⟩
    have nFH : H F = none := cA.free nF
    have nlH : H l = none := ((Ch.new np).trans c1).free nl
    have hlF : l ≠ F := fun e => by
      rw [e, nF] at hl
      cases hl
    refine for_range (lo := 0) (n := (4 + z4).toNat) (fun i σ' H' => ∃ (v5 v6 v7 v8 : Option V) (us : List V) (ts : List (List Str)), σ' = [some (.ref r), some (.int m), some (.ref l), some (.ref F), some (.int am), v5, v6, v7, v8, none] ∧ Ch r H H' ∧ Rng H' r c (d + 20 + 10 * i) ∧
      H' l = some (.lst (folk.map V.str)) ∧ H' F = some (.lst us) ∧ Paired (S1 K H') us ts ∧ us.length ≤ i ∧ (∀ t ∈ ts, t ≠ [] ∧ t.length ≤ 8 ∧ ∀ n ∈ t, okS n) ∧ (0 < i → ts ≠ []))
      ⟨none, none, none, none, [], [], rfl, cB.trans c4, g4.le (by omega), c4.lst hl3, c4.lst hF3, .nil, Nat.zero_le _, fun _ z => absurd z (by simp), fun z => absurd z (by simp)⟩ (fun i σ' H5 hi z => ?_) fun σ' H5 z => ?_
    · obtain ⟨v5, v6, v7, v8, us, ts, rfl, cC, gC, hlC, hFC, hpC, huC, okC, neC⟩ := z
      have hi9 : i < 10 := by omega
      -- extra
      refine sq_set ⟨1, rfl, (by decide : 5 ≤ sizeLine), fun p5 np5 => ⟨_, rfl, r, c, 5, d + 20 + 10 * i, rfl, by decide, by decide, by omega, gC.same (same_upd np5), fun z6 H6 c6 g6 z60 z61 => ?_⟩⟩
      obtain ⟨j6, rfl⟩ : ∃ j : Nat, z6 = (j : Int) := ⟨z6.toNat, by omega⟩
      have hj6 : j6 < ([0, 0, 0, 1, -1] : List Int).length := by show j6 < 5; omega
      refine ⟨p5, ([0, 0, 0, 1, -1] : List Int).map V.int, _, .int ([0, 0, 0, 1, -1] : List Int)[j6], rfl, rfl, sl_ (c6.lst upd_same), atI_nat (by rw [List.getElem?_map, List.getElem?_eq_getElem hj6]; rfl), ?_⟩
      generalize ([0, 0, 0, 1, -1] : List Int)[j6] = ex
      have cD : Ch r H5 H6 := (Ch.new np5).trans c6
      have hl6 := cD.lst hlC
      have hF6 := cD.lst hFC
      have hlfe : (folk.map V.str).length = folk.length := List.length_map _
      have hfl1 : 1 ≤ (folk.map V.str).length := by omega
      obtain ⟨b, hb, hb1, hb2⟩ := clamp (am + ex) hfl1
      rw [hlfe] at hb2
      -- some
      refine sq_set ⟨_, rfl, _, rfl, _, rfl, l, folk.map V.str, rfl, .inl (sl_ hl6), _, rfl, _, rfl, _, _, rfl, rfl, _, _, rfl, _, _, rfl, r, c, l, d + 20 + 10 * i + 1, folk, b, by rw [hb]; rfl, .inl (sl_ hl6), hb2, by omega, g6, by omega, fun l7 out H7 nl7 c7 g7 hl7 ho7 hm7 => ?_⟩
      unfold tNil
      show rSrt K [.ref l7] _ _
      refine srt_any (.inl (sl_ hl7)) fun p8 np8 => ⟨p8, _, rfl, .inl ⟨sl_ upd_same, fun t nt => ?_⟩⟩
      have s8 : Same H7 (upd (upd H7 p8 (.lst ((srt out).map V.str))) t (.tup ((srt out).map V.str))) := (same_upd np8).trans (same_upd nt)
      have ht8 : S1 K (upd (upd H7 p8 (.lst ((srt out).map V.str))) t (.tup ((srt out).map V.str))) (.ref t) (srt out) := ⟨t, rfl, st_ upd_same⟩
      generalize upd (upd H7 p8 (.lst ((srt out).map V.str))) t (.tup ((srt out).map V.str)) = H8 at s8 ht8
      have cE : Ch r H5 H8 := (cD.trans c7).trans (Ch.of s8)
      have hl8 := cE.lst hlC
      have hF8 := cE.lst hFC
      have g8 : Rng H8 r c (d + 20 + 10 * i + 1 + b) := g7.same s8
      have hp8 : Paired (S1 K H8) us ts := cE.s1s hpC
      have ulen := prd_len hpC
      have sl8 : (srt out).length = b := by rw [srt_len, ho7]
      have okso : ∀ n ∈ srt out, okS n := fun n hn => okf n (hm7 n ((srt_perm out).mem_iff.mp hn))
      have fit : srt out ≠ [] ∧ (srt out).length ≤ 8 ∧ ∀ n ∈ srt out, okS n := ⟨fun e => by rw [e] at sl8; simp at sl8; omega, by omega, okso⟩
      -- rivals
      refine sq_set ?_
      refine lcL_some (F := F) (us := us) (ts := ts) (fun R hR => ⟨_, rfl, hR⟩) hF8 hp8 (by omega) (fun _ => rfl) (fun _ => rfl) (fun x u hu H9 e9 hx R hR => ?_) fun D ws wts H9 nD e9 hD hpw hsub => ?_
      · have fu := okC u hu
        refine ⟨_, rfl, _, rfl, x, .ref t, u, srt out, rfl, hx, ht8.same e9, by omega, fu.2.2, fun b1 H10 e10 => ⟨b1, rfl, ite2 (fun _ => hR true H10 e10) (fun _ => ?_)⟩⟩
        exact ⟨_, rfl, _, rfl, .ref t, x, srt out, u, rfl, (ht8.same e9).same e10, hx.same e10, by omega, okso, fun b2 H11 e11 => ⟨b2, rfl, hR b2 H11 (e10.trans e11)⟩⟩
      · have okw : ∀ t ∈ wts, ∀ n ∈ t, okS n := fun t ht => (okC t (hsub t ht)).2.2
        refine ⟨_, rfl, Nat.zero_le _, fun l9 nl9 => ⟨.list (wts.map sD), .list [], .lst (sl_ (same_upd nl9 _ _ hD)) (s1s_dp (prd_mono (fun _ _ z => z.same (same_upd nl9)) hpw)), .lst (sl_ upd_same) .nil, shaped_teams okw, shaped_nil, _, rfl, ?_⟩⟩
        rw [eqv_list_nil]
        have sN : Same H8 (upd H9 l9 (.lst [])) := e9.trans (same_upd nl9)
        generalize upd H9 l9 (.lst []) = HN at sN
        have cN : Ch r H HN := (cC.trans cE).trans (Ch.of sN)
        have gN : Rng HN r c (d + 20 + 10 * i + 1 + b) := g8.same sN
        have hlN := sN _ _ hl8
        have hFN := sN _ _ hF8
        have hpN : Paired (S1 K HN) us ts := prd_mono (fun _ _ z => z.same sN) hp8
        refine ite2 (fun _ => ?_) (fun hne => ?_)
        · refine ⟨_, rfl, .inl ⟨rfl, _, SqL.of hFN⟩, _, rfl, F, us, _, rfl, rfl, hFN, big (by omega), ?_⟩
          have fF : Fx HN (upd HN F (.lst (us ++ [.ref t]))) := Fx.mut hFN
          refine ⟨some (.int (0 + i)), some (.int ex), some (.ref t), some (.ref D), us ++ [.ref t], ts ++ [srt out], rfl, cN.upd nFH, ?_, ?_, upd_same, prd_app (fF.s1s hpN) (.cons (fF.s1 (ht8.same sN)) .nil), by simp; omega, fun u hu => ?_, fun _ z => by simp at z⟩
          · exact (gN.mut nFH hR).le (by omega)
          · rw [upd_ne hlF]
            exact hlN
          · rcases List.mem_append.mp hu with hu | hu
            · exact okC u hu
            · rw [List.mem_singleton.mp hu]
              exact fit
        · refine ⟨some (.int (0 + i)), some (.int ex), some (.ref t), some (.ref D), us, ts, rfl, cN, gN.le (by omega), hlN, hFN, hpN, by omega, okC, fun _ z => ?_⟩
          subst z
          cases wts with
          | nil => exact hne rfl
          | cons u _ => exact absurd (hsub u List.mem_cons_self) (by simp)
    · obtain ⟨v5, v6, v7, v8, us, ts, rfl, cC, gC, hlC, hFC, hpC, huC, okC, neC⟩ := z
      have ulen := prd_len hpC
      unfold tRet tCB tCons tNil
      refine ⟨_, rfl, ?_⟩
      show rSrt K [.ref F] _ _
      refine srt_teams (sl_ hFC) hpC (fun t ht => (okC t ht).1) fun p8 ys np8 hps => ⟨p8, _, rfl, .inl ⟨sl_ upd_same, fun t nt => ?_⟩⟩
      have s8 := (same_upd (o := .lst ys) np8).trans (same_upd (o := .tup ys) nt)
      refine q (.ref t) (srtT ts) _ (cC.trans (Ch.of s8)) ((gC.same s8).le (by omega)) ⟨t, ys, rfl, st_ upd_same, prd_mono (fun _ _ z => z.same s8) hps⟩ ⟨?_, fun t ht => okC t ((srtT_perm ts).mem_iff.mp ht)⟩ fun e => ?_
      · rw [(srtT_perm ts).length_eq]
        omega
      · have e2 := (srtT_perm ts).length_eq
        rw [e] at e2
        refine neC (by omega) (List.eq_nil_of_length_eq_zero e2.symm)
end
end K49

namespace K49
open PySem PySem.Spec PyProof.Rows L2 PySem.W Cb Evl
theorem sq_asg {te : TE} {g : TG} {rest : TS} {D : Ends} {σ : Stt} {H : Hp} (h : te σ H fun x H1 => g x σ H1 (rest D)) : tSeq (tAsg te g) rest D σ H := h
section
variable {K : Frag} {tl : TE} {j : Nat} {vs : List Nat} {σ : Stt} {H : Hp} {tt : TT} {Q : VK} {β : Type} {F : Hp → V → β → Prop}
/-- the same, the items known when the list is made only -/
theorem lcL_pairX (mono : ∀ H1 H2 v b, Same H1 H2 → F H1 v b → F H2 v b) (Φ : List β → Prop) (p : β → Bool) (hl : ∀ R : VK, (∀ bs a H1 us, Φ bs → Same H H1 → SqL K H1 a us → Paired (F H1) us bs → R (.ref a) H1) → tl σ H R) (hn : ∀ bs, Φ bs → bs.length ≤ 100000)
    (hj : ∀ x, wipe ((wipe σ vs).set j (some x)) vs = wipe σ vs) (hv : ∀ x, ((wipe σ vs).set j (some x))[j]? = some (some x))
    (ht : ∀ x b H1, Same H H1 → F H1 x b → ∀ R : Bool → Hp → Prop, (∀ H2, Same H1 H2 → R (p b) H2) → tt ((wipe σ vs).set j (some x)) H1 R)
    (q : ∀ bs L us H', Φ bs → H L = none → Same H H' → H' L = some (.lst us) → Paired (F H') us (bs.filter p) → Q (.ref L) H') : tLc (iList K tl) (gName j) tt (tVar j) vs σ H Q := by
  refine hl _ fun bs a H1 us hΦ e1 hs hp => ⟨a, rfl, ⟨us, hs⟩, fun L nL => ?_⟩
  have hlen := prd_len hp
  have hn := hn bs hΦ
  refine lc_list (K := K) (a := a) (xs := us) (fun i H' => Same H1 H' ∧ ∃ ws, H' L = some (.lst ws) ∧ Paired (F H1) ws ((bs.take i).filter p)) ⟨same_upd nL, [], upd_same, .nil⟩ (fun i H' _ z => z.1.seq hs) (fun i x H' hi z => ⟨hj x, ?_⟩) fun H' z => ?_
  · obtain ⟨e2, ws, hw, hpw⟩ := z
    obtain ⟨b, hb, hf⟩ := prd_getL hp hi
    have hwl := prd_len hpw
    have hfl := List.length_filter_le p (bs.take i)
    have hbl := (List.getElem?_eq_some_iff.mp hb).1
    rw [List.length_take] at hfl
    refine ht x b H' (e1.trans e2) (mono _ _ _ _ e2 hf) _ fun H2 e3 => ?_
    rw [take_snoc hb, List.filter_append]
    by_cases h : p b = true
    · rw [if_pos h]
      refine ⟨x, hv x, ws, e3 _ _ hw, big (by omega), same_mut (e2.trans e3) nL, ws ++ [x], upd_same, ?_⟩
      rw [List.filter_cons_of_pos h]
      exact prd_app hpw (.cons hf .nil)
    · rw [if_neg h]
      refine ⟨e2.trans e3, ws, e3 _ _ hw, ?_⟩
      rw [List.filter_cons_of_neg h]
      simpa using hpw
  · obtain ⟨e2, ws, hw, hpw⟩ := z
    rw [hlen, List.take_length] at hpw
    exact q bs L ws H' hΦ (e1.free nL) (e1.trans e2) hw (prd_mono (fun _ _ z => mono _ _ _ _ e2 z) hpw)
end
section
variable {K : Frag} {H : Hp}
/-- the crews of the groups so far; n people are left -/
structure Gd (m n : Nat) (ts : List (List Str)) : Prop where
  some : ts ≠ []
  num : ts.length * 2 ^ n ≤ 64
  each : ∀ t ∈ ts, t.length + n ≤ 5 ∧ (∀ x ∈ t, okS x) ∧ (n < m → t ≠ [])
structure GW (K : Frag) (H : Hp) (r c : Addr) (m d : Int) (L : Addr) (n : Nat) (F : Addr) (rest : List Str) (us : List V) (ts : List (List Str)) (H' : Hp) : Prop where
  len : rest.length = n
  ch : Ch r H H'
  rng : Rng H' r c (d + 60 - 10 * n)
  atL : H' L = some (.lst (rest.map V.str))
  atF : H' F = some (.lst us)
  ne : F ≠ L
  ok : ∀ x ∈ rest, okS x
  prd : Paired (S1 K H') us ts
  gd : Gd m.toNat n ts
def GWs (K : Frag) (H : Hp) (r c : Addr) (m d : Int) (L : Addr) (n : Nat) (σ : Stt) (H' : Hp) : Prop := ∃ (v4 v5 v6 v7 v8 : Option V) (F : Addr) (rest : List Str) (us : List V) (ts : List (List Str)), σ = [some (.ref r), some (.int m), some (.ref L), some (.ref F), v4, v5, v6, v7, v8, none, none] ∧ GW K H r c m d L n F rest us ts H'
end
section
variable {P : Program} {w : World} {K : Frag} {mg : Str → Option Value} {base : Heap}
abbrev s_mgood : Stmt := top 14
abbrev N_mgood : List Str := ["_law_rng", "_law_most", "_law_rest", "_law_found", "_law_group", "_law_amount", "_law_some", "_law_longer", "_law_team", "_law_k", "_law_part"]
theorem sc_mgood : FnScope N_mgood ["_law_rng", "_law_most"] (defScope s_mgood) := ⟨rfl, rfl, rfl, by decide +kernel, rfl, by decide +kernel, by decide +kernel⟩
theorem ok_mgood {f : Addr} {fd : FuncData} {k : Nat} (F : Fun K "_law_make_good" "_law_make_good" s_mgood f fd) (B : Blt mg) (D__law_draw : Own P w K mg base 1 "_law_draw" ["_law_rng", "_law_limit"] sp_draw) (D__law_sample : Own P w K mg base 2 "_law_sample" ["_law_rng", "_law_pool", "_law_amount"] (sp_sample K))
    (D__law_all_sets : Own P w K mg base 1 "_law_all_sets" ["_law_names_now"] (sp_sets K)) : FnOk P w K mg base CX0 (k + 3) f fd ["_law_rng", "_law_most"] (sp_made 2 5 K) := by
  refine F.ok sc_mgood (fun vs H Q E h => ?_) (fun cdv A outer s H vs Q E hr h => ?_)
  · obtain ⟨_, _, _, _, rfl, _⟩ := h
    rfl
  · obtain ⟨r, c, m, d, rfl, hm1, hm2, hd, hR, q⟩ := h
    have hr1 : Room 1 _ := hr.mono (by omega)
    have hr2 : Room 2 _ := hr.mono (by omega)
    refine ⟨_, (pss_cons (ps_asg (pe_tup (pa_cons (pe_call D__law_sample.G hr2 rfl D__law_sample.m D__law_sample.kp D__law_sample.b .nil pass0 (pa_cons (pv 0) (pa_cons (pe_lst (pa_cons pe_str (pa_cons pe_str (pa_cons pe_str (pa_cons pe_str (pa_cons pe_str (pa_cons pe_str pa_nil))))))) (pa_cons (pv 1) pa_nil)))) (pa_cons (pe_lst (pa_cons (pe_tup pa_nil) pa_nil)) pa_nil))) (show PG _ _ (gTup K 2 _) from pg_tup rfl (pgs_cons (pg_name (i := 2) sc_mgood.nd rfl (Or.inr rfl)) (pgs_cons (pg_name (i := 3) sc_mgood.nd rfl (Or.inl rfl)) pgs_nil))))
      (pss_cons (ps_while PassesOwn.never (pt_cmpR (o_neD K hr.units) (pv 2) (pe_lst pa_nil) (nomark _))
      (pss_cons (ps_set (i := 4) sc_mgood.nd rfl (Or.inl rfl) (pe_callB (c_srt K hr.units) (by rfl) B.sorted (by decide +kernel) (pa_cons (pe_lc (own := [("_law_k", 9)]) (g := gName 9) (tt := tYes) rfl sc_mgood.nd (pi_range1 rfl B.range (pa_cons (pe_callB (call_min2 rfl) (by rfl) B.min (by decide +kernel) (pa_cons (pe_callB (c_len K) (by rfl) B.len (by decide +kernel) (pa_cons (pv 2) pa_nil)) (pa_cons (pe_op op_add pe_int (pe_call D__law_draw.G hr1 rfl D__law_draw.m D__law_draw.kp D__law_draw.b .nil pass0 (pa_cons (pv 0) (pa_cons pe_int pa_nil)))) pa_nil))) pa_nil)) (blkOk_by (own := [("_law_k", 9)]) (N := N_mgood) (sc := defScope s_mgood) (by decide +kernel)) (fun _ _ _ _ _ => (pg_name (i := 9) sc_mgood.nd rfl (Or.inl rfl))) (fun _ _ _ _ _ => pts_nil) (fun _ _ _ _ _ => (show PE _ _ (tBM0 K "list" rPop _) from pe_bm0 PySem.F.plainAttrs_list PySem.F.slot_list_pop PySem.F.type_list_pop mt_pop (pv 2)))) pa_nil)))
      (pss_cons (ps_set (i := 5) sc_mgood.nd rfl (Or.inr rfl) (pe_op op_add pe_int (pe_call D__law_draw.G hr1 rfl D__law_draw.m D__law_draw.kp D__law_draw.b .nil pass0 (pa_cons (pv 0) (pa_cons (pe_callB (c_len K) (by rfl) B.len (by decide +kernel) (pa_cons (pv 4) pa_nil)) pa_nil)))))
      (pss_cons (ps_setLc (i := 6) (own := [("_law_part", 10)]) (g := gName 10) rfl sc_mgood.nd rfl rfl (sw_true rfl rfl rfl (by decide +kernel)) (p_list K (pe_call D__law_all_sets.G hr1 rfl D__law_all_sets.m D__law_all_sets.kp D__law_all_sets.b .nil pass0 (pa_cons (pv 4) pa_nil))) (blkOk_by (own := [("_law_part", 10)]) (N := N_mgood) (sc := defScope s_mgood) (by decide +kernel)) (fun _ _ _ _ _ => (pg_name (i := 10) sc_mgood.nd rfl (Or.inl rfl))) (fun _ _ _ _ _ => (pts_one (pt_cmpR op_eq (pe_callB (c_len K) (by rfl) B.len (by decide +kernel) (pa_cons (pv 10) pa_nil)) (pv 5) (nomark _)))) (fun _ _ _ _ _ => (pv 10)))
      (pss_cons (ps_set (i := 7) sc_mgood.nd rfl (Or.inl rfl) (pe_lst pa_nil))
      (pss_cons (ps_for PassesOwn.never rfl (p_list K (pv 3)) (pg_name (i := 8) sc_mgood.nd rfl (Or.inr rfl))
      (pss_one (ps_expr (pe_bm PySem.F.plainAttrs_list PySem.F.slot_list_extend PySem.F.type_list_extend mt_extend (pv 7) (pa_cons (pe_lc (own := [("_law_part", 10)]) (g := gName 10) (tt := tYes) rfl sc_mgood.nd (p_list K (pv 6)) (blkOk_by (own := [("_law_part", 10)]) (N := N_mgood) (sc := defScope s_mgood) (by decide +kernel)) (fun _ _ _ _ _ => (pg_name (i := 10) sc_mgood.nd rfl (Or.inl rfl))) (fun _ _ _ _ _ => pts_nil) (fun _ _ _ _ _ => (pe_callTy (c_tuple K) (by rfl) B.tuple (by decide +kernel) (pa_cons (pe_callB (c_srt K hr.units) (by rfl) B.sorted (by decide +kernel) (pa_cons (pe_op (o_catA K) (pv 8) (pv 10)) pa_nil)) pa_nil)))) pa_nil)))))
      (pss_one (ps_set (i := 3) sc_mgood.nd rfl (Or.inl rfl) (pv 7)))))))))
      (pss_one (ps_ret (pe_callTy (c_tuple K) (by rfl) B.tuple (by decide +kernel) (pa_cons (pe_callB (c_srt K hr.units) (by rfl) B.sorted (by decide +kernel) (pa_cons (pv 3) pa_nil)) pa_nil)))))), ?_⟩
    obtain ⟨mn, rfl⟩ : ∃ n : Nat, m = (n : Int) := ⟨m.toNat, by omega⟩
    -- rest, found
    refine sq_asg ⟨_, rfl, (by decide : 6 ≤ sizeLine), fun p np => ⟨_, rfl, r, c, p, d, pool, mn, rfl, .inl (sl_ upd_same), by show mn ≤ 6; omega, by decide, hR.same (same_upd np), by omega, fun L rest H1 nL c1 g1 hL hlen hmem => ⟨Nat.zero_le _, fun e0 ne0 => ⟨(by decide : 1 ≤ sizeLine), fun F0 nF0 => ⟨(by decide : 2 ≤ sizeLine), fun tp ntp => ⟨tp, _, rfl, st_ upd_same, rfl, _, _, rfl, _, _, rfl, rfl, ?_⟩⟩⟩⟩⟩⟩
    have nLH : H L = none := Classical.byContradiction fun z => by
      cases hq : H L with
      | none => exact z hq
      | some o => exact absurd ((same_upd np _ _ hq).symm.trans nL) (by simp)
    have se : Same H1 (upd (upd (upd H1 e0 (.tup [])) F0 (.lst [.ref e0])) tp (.tup [.ref L, .ref F0])) := ((same_upd ne0).trans (same_upd nF0)).trans (same_upd ntp)
    have hF0 : (upd (upd (upd H1 e0 (.tup [])) F0 (.lst [.ref e0])) tp (.tup [.ref L, .ref F0])) F0 = some (.lst [.ref e0]) := same_upd ntp _ _ upd_same
    have he0 : S1 K (upd (upd (upd H1 e0 (.tup [])) F0 (.lst [.ref e0])) tp (.tup [.ref L, .ref F0])) (.ref e0) [] := ⟨e0, rfl, st_ (same_upd ntp _ _ (same_upd nF0 _ _ upd_same))⟩
    have nF0L : F0 ≠ L := fun e => by
      rw [e, same_upd ne0 _ _ hL] at nF0
      cases nF0
    generalize upd (upd (upd H1 e0 (.tup [])) F0 (.lst [.ref e0])) tp (.tup [.ref L, .ref F0]) = H2 at se hF0 he0
    have c2 : Ch r H H2 := ((Ch.new np).trans c1).trans (Ch.of se)
    refine sq_while ?_
    refine ⟨GWs K H r c mn d L, ⟨mn, none, none, none, none, none, F0, rest, [.ref e0], [[]], rfl, ⟨hlen, c2, (g1.same se).le (by omega), se _ _ hL, hF0, nF0L, fun x hx => pool_ok x (hmem x hx), .cons he0 .nil, ⟨by simp, ?_, fun t ht => ?_⟩⟩⟩, ?_⟩
    · have : 2 ^ mn ≤ 2 ^ 5 := Nat.pow_le_pow_right (by decide) (by omega)
      show 1 * 2 ^ mn ≤ 64
      omega
    · rw [List.mem_singleton.mp ht]
      exact ⟨by simp; omega, fun x z => absurd z (by simp), fun z => absurd z (by simp)⟩
    rintro n σ1 H3 ⟨v4, v5, v6, v7, v8, F, rest, us, ts, rfl, G⟩
    refine ⟨_, rfl, Nat.zero_le _, fun l0 nl0 => ⟨.list (rest.map .str), .list [], .lst (sl_ (same_upd nl0 _ _ G.atL)) (dpStrs _), .lst (sl_ upd_same) .nil, shaped_strs G.ok, shaped_nil, _, rfl, ?_⟩⟩
    rw [eqv_strs_nil]
    have s0 : Same H3 (upd H3 l0 (.lst [])) := same_upd nl0
    generalize upd H3 l0 (.lst []) = H4 at s0
    have G4 : GW K H r c mn d L n F rest us ts H4 := ⟨G.len, G.ch.trans (Ch.of s0), G.rng.same s0, s0 _ _ G.atL, s0 _ _ G.atF, G.ne, G.ok, prd_mono (fun _ _ z => z.same s0) G.prd, G.gd⟩
    clear G s0 nl0
    refine ite2 (fun hne => ?_) (fun hee => ?_)
    · refine ⟨fun σ' H' => ∃ m', m' < n ∧ GWs K H r c mn d L m' σ' H', fun _ _ z => z, ?_⟩
      have hn1 : 1 ≤ n := by
        rw [← G4.len]
        cases rest with
        | nil => exact absurd hne (by simp)
        | cons _ _ => simp
      obtain ⟨t0, ht0⟩ := List.exists_mem_of_ne_nil _ G4.gd.some
      have hn5 := (G4.gd.each t0 ht0).1
      have hlen : (rest.map V.str).length = n := by rw [List.length_map, G4.len]
      -- group
      refine sq_set ⟨_, rfl, L, _, rfl, .inl (sl_ G4.atL), _, rfl, r, c, 3, d + 60 - 10 * n, rfl, by decide, by decide, by omega, G4.rng, fun z H5 c5 g5 z0 z1 => ?_⟩
      obtain ⟨j, rfl⟩ : ∃ j : Nat, z = (j : Int) := ⟨z.toNat, by omega⟩
      obtain ⟨g, hg, hg1, hg2, hg3⟩ : ∃ g : Nat, (if 1 + (j : Int) < ((rest.map V.str).length : Int) then 1 + (j : Int) else ((rest.map V.str).length : Int)) = (g : Int) ∧ 1 ≤ g ∧ g ≤ n ∧ g ≤ 3 := by
        rw [hlen]
        refine ⟨min (1 + j) n, ?_, by omega, by omega, by omega⟩
        split <;> omega
      refine ⟨_, _, rfl, rfl, _, _, rfl, (g : Int), by rw [hg], by omega, by omega, fun D nD => ?_⟩
      have cc5 := G4.ch.trans c5
      have hL5 := c5.lst G4.atL
      have hF5 := c5.lst G4.atF
      have p5 := c5.s1s G4.prd
      have nDH : H D = none := cc5.free nD
      have nDL : D ≠ L := fun e => by
        rw [e, hL5] at nD
        cases nD
      have nDF : D ≠ F := fun e => by
        rw [e, hF5] at nD
        cases nD
      refine lc_range (lo := 0) (n := (g : Int).toNat) (fun i H' => Ch r H H' ∧ Rng H' r c (d + 60 - 10 * n + 1) ∧ ∃ rest' out : List Str, H' L = some (.lst (rest'.map V.str)) ∧ H' F = some (.lst us) ∧ H' D = some (.lst (out.map V.str)) ∧ Paired (S1 K H') us ts ∧ rest'.length + i = n ∧ out.length = i ∧ (∀ s ∈ rest', s ∈ rest) ∧ ∀ s ∈ out, s ∈ rest) ?_ ?_ ?_
      · exact ⟨cc5.upd nDH, g5.mut nDH hR, rest, [], by rw [upd_ne nDL.symm]; exact hL5, by rw [upd_ne nDF.symm]; exact hF5, upd_same, (Fx.of (same_upd nD)).s1s p5, by rw [G4.len]; rfl, rfl, fun _ z => z, fun _ z => absurd z (by simp)⟩
      · rintro i H6 hi ⟨cc, gg, rest', out, h1, h2, h3, h4, l1, l2, m1, m2⟩
        refine ⟨rfl, ?_⟩
        unfold tYes
        refine iteT ?_
        have hpos : rest'.length - 1 < rest'.length := by omega
        refine ⟨_, rfl, .inl ⟨rfl, _, SqL.of h1⟩, L, _, .str rest'[rest'.length - 1], rfl, rfl, h1, ?_, out.map V.str, ?_, ?_, ?_⟩
        · rw [List.length_map, List.getElem?_map, List.getElem?_eq_getElem hpos]
          rfl
        · rw [upd_ne nDL]
          exact h3
        · rw [List.length_map]
          exact big (by omega)
        · have hd1 : (rest'.map V.str).dropLast = rest'.dropLast.map V.str := by simp
          have f1 : Fx H6 (upd H6 L (.lst (rest'.map V.str).dropLast)) := Fx.mut h1
          have f2 : Fx (upd H6 L (.lst (rest'.map V.str).dropLast)) (upd (upd H6 L (.lst (rest'.map V.str).dropLast)) D (.lst (out.map V.str ++ [.str rest'[rest'.length - 1]]))) := Fx.mut (xs := out.map V.str) (by rw [upd_ne nDL]; exact h3)
          refine ⟨(cc.upd nLH).upd nDH, (gg.mut nLH hR).mut nDH hR, rest'.dropLast, out ++ [rest'[rest'.length - 1]], ?_, ?_, ?_, (f1.trans f2).s1s h4, ?_, ?_, fun s hs => m1 s (List.dropLast_subset _ hs), fun s hs => ?_⟩
          · rw [upd_ne nDL.symm, upd_same, hd1]
          · rw [upd_ne nDF.symm, upd_ne G4.ne]
            exact h2
          · rw [upd_same, List.map_append]
            rfl
          · rw [List.length_dropLast]
            omega
          · rw [List.length_append]
            simp
            omega
          · rcases List.mem_append.mp hs with hs | hs
            · exact m2 s hs
            · rw [List.mem_singleton.mp hs]
              exact m1 _ (List.getElem_mem hpos)
      · rintro H6 ⟨cc, gg, rest', out, h1, h2, h3, h4, l1, l2, m1, m2⟩
        have hgg : (g : Int).toNat = g := by omega
        rw [hgg] at l1 l2
        unfold tNil
        show rSrt K [.ref D] _ _
        refine srt_strs (sl_ h3) fun p7 np7 => ?_
        have s7 : Same H6 (upd H6 p7 (.lst ((srt out).map V.str))) := same_upd np7
        have h7 : (upd H6 p7 (.lst ((srt out).map V.str))) p7 = some (.lst ((srt out).map V.str)) := upd_same
        generalize upd H6 p7 (.lst ((srt out).map V.str)) = H7 at s7 h7
        have glen : (srt out).length = g := by rw [srt_len, l2]
        have glen2 : ((srt out).map V.str).length = g := by rw [List.length_map, glen]
        have okg : ∀ x ∈ srt out, okS x := fun x hx => G4.ok x (m2 x ((srt_perm out).mem_iff.mp hx))
        -- amount
        refine sq_set ⟨_, rfl, _, rfl, p7, _, rfl, .inl (sl_ h7), r, c, _, d + 60 - 10 * n + 1, rfl, by omega, by omega, by omega, gg.same s7, fun z8 H8 c8 g8 z80 z81 => ⟨_, _, rfl, rfl, ?_⟩⟩
        rw [glen2] at z81
        obtain ⟨j8, rfl⟩ : ∃ j : Nat, z8 = (j : Int) := ⟨z8.toNat, by omega⟩
        -- some
        have h2g : 2 ^ g ≤ 2 ^ 3 := Nat.pow_le_pow_right (by decide) hg3
        refine sq_set ?_
        refine lcL_pairX (F := S1 K) (fun _ _ _ _ e z => z.same e) (fun sets => Sets g (srt out) sets) (fun t => decide (t.length = 1 + j8)) (fun R hR => ⟨_, rfl, p7, srt out, rfl, sl_ (c8.lst h7), by omega, fun S0 ps sets H9 e9 hS0 hps hsets => hR sets S0 H9 ps (by rw [glen] at hsets; exact hsets) e9 (sl_ hS0) hps⟩) (fun bs h => by rw [h.num]; omega) (fun _ => rfl) (fun _ => rfl) (fun x t H10 e10 hx R hR => ?_) fun sets S us6 H10 hsets nS e10 hS hp6 => ?_
        · obtain ⟨ax, rfl, hx⟩ := hx
          refine ⟨_, rfl, ax, _, rfl, .inr hx, _, rfl, rfl, _, rfl, ?_⟩
          have e2 : decide (V.int ((t.map V.str).length : Int) = V.int (1 + (j8 : Int))) = decide (t.length = 1 + j8) := by
            rw [List.length_map]
            by_cases h : t.length = 1 + j8
            · rw [decide_eq_true h, h, Int.natCast_add]
              simp
            · rw [decide_eq_false h]
              refine decide_eq_false fun e => ?_
              injection e with e
              omega
          rw [e2]
          exact hR _ (Same.refl _)
        · generalize hparts : sets.filter (fun t => decide (t.length = 1 + j8)) = parts at hp6
          have okp : ∀ t ∈ parts, t.length = 1 + j8 ∧ ∀ x ∈ t, okS x := fun t ht => by
            rw [← hparts] at ht
            obtain ⟨h1, h2⟩ := List.mem_filter.mp ht
            exact ⟨of_decide_eq_true h2, fun x hx => okg x ((hsets.each t h1).2 x hx)⟩
          have pne : 0 < parts.length := by
            obtain ⟨t, ht, e⟩ := hsets.any (1 + j8) (by omega)
            have : t ∈ parts := by
              rw [← hparts]
              exact List.mem_filter.mpr ⟨ht, decide_eq_true e⟩
            exact List.length_pos_of_mem this
          have pnum : parts.length ≤ 2 ^ g := by
            rw [← hparts, ← hsets.num]
            exact List.length_filter_le _ _
          have s6 : Ch r H6 H10 := ((Ch.of s7).trans c8).trans (Ch.of e10)
          have cc10 := cc.trans s6
          have L10 := s6.lst h1
          have F10 := s6.lst h2
          have P10 := s6.s1s h4
          have g10 : Rng H10 r c (d + 60 - 10 * n + 1 + 1) := g8.same e10
          have p6l := prd_len hp6
          have pul := prd_len h4
          -- longer = []
          refine sq_lst fun l nl => ?_
          have sl := same_upd (o := .lst []) nl
          have nlH : H l = none := cc10.free nl
          have nlL : l ≠ L := fun e => by
            rw [e, L10] at nl
            cases nl
          have nlF : l ≠ F := fun e => by
            rw [e, F10] at nl
            cases nl
          have nlS : l ≠ S := fun e => by
            rw [e, hS] at nl
            cases nl
          have tnum := G4.gd.num
          have t64 : ts.length ≤ 64 := Nat.le_trans (Nat.le_mul_of_pos_right _ (Nat.two_pow_pos n)) tnum
          refine sq_for ?_
          refine ⟨_, rfl, F, rfl, ⟨us, sl_ (sl _ _ F10)⟩, for_list (xs := us) (fun i σ' H' => ∃ (v8 : Option V) (ws : List V) (wts : List (List Str)), σ' = [some (.ref r), some (.int mn), some (.ref L), some (.ref F), some (.ref p7), some (.int (1 + (j8 : Int))), some (.ref S), some (.ref l), v8, none, none] ∧
            Ch r H H' ∧ Rng H' r c (d + 60 - 10 * n + 1 + 1) ∧ H' L = some (.lst (rest'.map V.str)) ∧ H' F = some (.lst us) ∧ H' S = some (.lst us6) ∧ Paired (S1 K H') us ts ∧ Paired (S1 K H') us6 parts ∧ H' l = some (.lst ws) ∧ Paired (S1 K H') ws wts ∧ wts.length = i * parts.length ∧
            ∀ t ∈ wts, t.length + (n - g) ≤ 5 ∧ (∀ x ∈ t, okS x) ∧ t ≠ [])
            ⟨v8, [], [], rfl, cc10.upd nlH, g10.mut nlH hR, sl _ _ L10, sl _ _ F10, sl _ _ hS, (Fx.of sl).s1s P10, (Fx.of sl).s1s hp6, upd_same, .nil, by simp, fun _ z => absurd z (by simp)⟩ (fun i σ' H' _ z => ?_) (fun i x σ' H' hi z => ?_) fun σ' H' z => ?_⟩
          · obtain ⟨v8, ws, wts, rfl, z⟩ := z
            exact sl_ z.2.2.2.1
          · obtain ⟨v8, ws, wts, rfl, k1, k2, k3, k4, k5, k6, k7, k8, k9, k10, k11⟩ := z
            obtain ⟨t, ht, hx⟩ := prd_getL k6 hi
            have htm := List.mem_of_getElem? ht
            have hte := G4.gd.each t htm
            have hil := (List.getElem?_eq_some_iff.mp hi).1
            have wl := prd_len k9
            have ip : i * parts.length ≤ 64 * 8 := Nat.mul_le_mul (by omega) (by omega)
            refine ⟨_, rfl, .inl ⟨rfl, _, SqL.of k8⟩, ?_⟩
            refine lcL_rel (K := K) (tl := tVar 6) (j := 10) (vs := [10]) (te := tCB (rTupleOf K) (tCons (tCB (rSrt K) (tCons (tOp (rCatA K) (tVar 8) (tVar 10)) tNil)) tNil)) (xs := us6) (F := fun H v b => S1 K H v b) (fun _ _ _ _ e z => e.s1 z) (parts.map fun u => srt (t ++ u)) (fun R hR => ⟨_, rfl, hR S _ (Same.refl _) (sl_ k5)⟩) (by omega) (by rw [List.length_map]; exact p6l) (fun _ => rfl) (fun a y b hy hb H11 e11 R hR => ?_) fun D3 ws3 H11 nD3 e11 hD3 hp3 => ?_
            · rw [List.getElem?_map] at hb
              obtain ⟨u, hu, rfl⟩ := Option.map_eq_some_iff.mp hb
              obtain ⟨u', hu', hy'⟩ := prd_getL k7 hy
              rw [hu] at hu'
              cases hu'
              have hup := okp u (List.mem_of_getElem? hu)
              obtain ⟨ax, rfl, hx2⟩ := hx.same e11
              obtain ⟨ay, rfl, hy2⟩ := hy'.same e11
              refine ⟨_, rfl, _, rfl, cat_names (xs := t) (ys := u) hx2 hy2 (by omega) fun z H12 e12 hz => ?_⟩
              unfold tNil
              show rSrt K [.ref z] _ _
              refine srt_any (.inr hz) fun p13 np13 => ⟨p13, _, rfl, .inl ⟨sl_ upd_same, fun t14 nt14 => ?_⟩⟩
              exact hR _ _ ((e12.trans (same_upd np13)).trans (same_upd nt14)) ⟨t14, rfl, st_ upd_same⟩
            · have w3 := prd_len hp3
              rw [List.length_map] at w3
              refine ⟨l, D3, ws, ws3, rfl, rfl, e11 _ _ k8, hD3, Nat.le_of_lt (big (by omega)), ?_⟩
              have f3 : Fx H' (upd H11 l (.lst (ws ++ ws3))) := (Fx.of e11).trans (Fx.mut (e11 _ _ k8))
              have f4 : Fx H11 (upd H11 l (.lst (ws ++ ws3))) := Fx.mut (e11 _ _ k8)
              refine ⟨some x, ws ++ ws3, wts ++ parts.map fun u => srt (t ++ u), rfl, (k1.trans (Ch.of e11)).upd nlH, (k2.same e11).mut nlH hR, by rw [upd_ne nlL.symm]; exact e11 _ _ k3, by rw [upd_ne nlF.symm]; exact e11 _ _ k4, by rw [upd_ne nlS.symm]; exact e11 _ _ k5, f3.s1s k6, f3.s1s k7, upd_same, prd_app (f3.s1s k9) (f4.s1s hp3), ?_, fun u hu => ?_⟩
              · rw [List.length_append, List.length_map, k10, Nat.succ_mul]
              · rcases List.mem_append.mp hu with hu | hu
                · exact k11 u hu
                · obtain ⟨u, hu2, rfl⟩ := List.mem_map.mp hu
                  have hup := okp u hu2
                  refine ⟨?_, fun x hx => ?_, fun e => ?_⟩
                  · rw [srt_len, List.length_append]
                    omega
                  · rcases List.mem_append.mp ((srt_perm _).mem_iff.mp hx) with hx | hx
                    · exact hte.2.1 x hx
                    · exact hup.2 x hx
                  · have e2 : t.length + u.length = 0 := by
                      rw [← List.length_append, ← srt_len, e]
                      rfl
                    have := hup.1
                    omega
          · obtain ⟨v8, ws, wts, rfl, k1, k2, k3, k4, k5, k6, k7, k8, k9, k10, k11⟩ := z
            rw [pul] at k10
            refine ⟨_, rfl, n - g, by omega, _, _, _, _, _, l, rest', ws, wts, rfl, ⟨by omega, k1, k2.le (by omega), k3, k8, nlL, fun x hx => G4.ok x (m1 x hx), k9, ⟨fun e => ?_, ?_, fun t ht => ⟨(k11 t ht).1, (k11 t ht).2.1, fun _ => (k11 t ht).2.2⟩⟩⟩⟩
            · rw [e] at k10
              have h0 : 0 < ts.length := List.length_pos_of_mem ht0
              have h1 := Nat.mul_pos h0 pne
              simp at k10
              omega
            · have h1 : ts.length * parts.length * 2 ^ (n - g) ≤ ts.length * 2 ^ g * 2 ^ (n - g) := Nat.mul_le_mul_right _ (Nat.mul_le_mul_left _ pnum)
              have h2 : 2 ^ g * 2 ^ (n - g) = 2 ^ n := by
                rw [← Nat.pow_add]
                congr 1
                omega
              rw [Nat.mul_assoc (ts.length) (2 ^ g), h2] at h1
              rw [k10]
              exact Nat.le_trans h1 tnum
    · have hn0 : n = 0 := by
        rw [← G4.len]
        cases rest with
        | nil => rfl
        | cons _ _ => exact absurd rfl hee
      subst hn0
      unfold tRet tCB tCons tNil
      refine ⟨_, rfl, ?_⟩
      show rSrt K [.ref F] _ _
      have ne := G4.gd.each
      refine srt_teams (sl_ G4.atF) G4.prd (fun t ht => (ne t ht).2.2 (by omega)) fun p8 ys np8 hps => ⟨p8, _, rfl, .inl ⟨sl_ upd_same, fun t nt => ?_⟩⟩
      have s8 := (same_upd (o := .lst ys) np8).trans (same_upd (o := .tup ys) nt)
      refine q (.ref t) (srtT ts) _ (G4.ch.trans (Ch.of s8)) ((G4.rng.same s8).le (by omega)) ⟨t, ys, rfl, st_ upd_same, prd_mono (fun _ _ z => z.same s8) hps⟩ ⟨?_, fun t ht => ?_⟩ fun e => ?_
      · rw [(srtT_perm ts).length_eq]
        have := G4.gd.num
        omega
      · have := ne t ((srtT_perm ts).mem_iff.mp ht)
        exact ⟨this.2.2 (by omega), by omega, this.2.1⟩
      · have e2 := (srtT_perm ts).length_eq
        rw [e] at e2
        exact G4.gd.some (List.eq_nil_of_length_eq_zero e2.symm)
end
end K49

namespace K49
open PySem PySem.Spec PyProof.Rows L2 PySem.W Cb Evl
section
variable {P : Program} {w : World} {K : Frag} {mg : Str → Option Value} {base : Heap}
abbrev s_many : Stmt := top 19
theorem sc_many : FnScope ["_law_rng", "_law_most"] ["_law_rng", "_law_most"] (defScope s_many) := ⟨rfl, rfl, rfl, by decide +kernel, rfl, by decide +kernel, by decide +kernel⟩
def sp_many (K : Frag) : Sp := fun vs H Q _ => ∃ (r c : Addr) (d : Int), vs = [.ref r, .int 5] ∧ d ≤ 900000 ∧ Rng H r c d ∧ ∀ v ts H', Ch r H H' → Rng H' r c (d + 1010) → S2 K H' v ts → Gt ts → ts ≠ [] → Q v H'
theorem ok_many {f : Addr} {fd : FuncData} {k : Nat} (F : Fun K "_law_make_any" "_law_make_any" s_many f fd) (D__law_draw : Own P w K mg base 1 "_law_draw" ["_law_rng", "_law_limit"] sp_draw) (D__law_make_good : Own P w K mg base 3 "_law_make_good" ["_law_rng", "_law_most"] (sp_made 2 5 K))
    (D__law_make_teams : Own P w K mg base 3 "_law_make_teams" ["_law_rng", "_law_most"] (sp_made 3 5 K)) : FnOk P w K mg base CX0 (k + 4) f fd ["_law_rng", "_law_most"] (sp_many K) := by
  refine F.ok sc_many (fun vs H Q E h => ?_) (fun cdv A outer s H vs Q E hr h => ?_)
  · obtain ⟨_, _, _, rfl, _⟩ := h
    rfl
  · obtain ⟨r, c, d, rfl, hd, hR, q⟩ := h
    have hr1 : Room 1 _ := hr.mono (by omega)
    have hr3 : Room 3 _ := hr.mono (by omega)
    refine ⟨_, (pss_cons (ps_if (pt_cmpR op_eq (pe_call D__law_draw.G hr1 rfl D__law_draw.m D__law_draw.kp D__law_draw.b .nil pass0 (pa_cons (pv 0) (pa_cons pe_int pa_nil))) pe_int (nomark _)) (pss_one (ps_ret (pe_call D__law_make_good.G hr3 rfl D__law_make_good.m D__law_make_good.kp D__law_make_good.b .nil pass0 (pa_cons (pv 0) (pa_cons (pe_op op_add pe_int (pe_call D__law_draw.G hr1 rfl D__law_draw.m D__law_draw.kp D__law_draw.b .nil pass0 (pa_cons (pv 0) (pa_cons (pe_op op_sub (pv 1) pe_int) pa_nil)))) pa_nil))))) pss_nil)
      (pss_one (ps_ret (pe_call D__law_make_teams.G hr3 rfl D__law_make_teams.m D__law_make_teams.kp D__law_make_teams.b .nil pass0 (pa_cons (pv 0) (pa_cons (pv 1) pa_nil)))))), ?_⟩
    refine ⟨_, rfl, r, c, 3, d, rfl, by decide, by decide, by omega, hR, fun z H1 c1 g1 z0 z1 => ⟨rfl, _, rfl, ite2 (fun _ => ?_) (fun _ => ?_)⟩⟩
    · refine ⟨_, rfl, _, rfl, _, rfl, _, _, rfl, rfl, r, c, 5 - 1, d + 1, rfl, by decide, by decide, by omega, g1, fun z2 H2 c2 g2 z20 z21 => ⟨_, _, rfl, rfl, r, c, 2 + z2, d + 1 + 1, rfl, by omega, by omega, by omega, g2, fun v ts H3 c3 g3 h3 gt ne => ?_⟩⟩
      exact q v ts H3 ((c1.trans c2).trans c3) (g3.le (by omega)) h3 gt ne
    · refine ⟨_, rfl, _, rfl, r, c, 5, d + 1, rfl, by decide, by decide, by omega, g1, fun v ts H3 c3 g3 h3 gt ne => ?_⟩
      exact q v ts H3 (c1.trans c3) (g3.le (by omega)) h3 gt ne
/-! ### the law -/
abbrev s_law : Stmt := top 20
abbrev N_law : List Str := ["_law_script", "_law_rng", "_law_lap", "_law_teams", "_law_spot", "_law_some", "_law_before", "_law_want"]
theorem sc_law : FnScope N_law ["_law_script"] (defScope s_law) := ⟨rfl, rfl, rfl, by decide +kernel, rfl, by decide +kernel, by decide +kernel⟩
def sp_law (K : Frag) : Sp := fun vs H Q _ => ∃ (a : Addr) (ns : List Int), vs = [.ref a] ∧ SqL K H a (ns.map V.int) ∧ ∀ H', Q (.bl true) H'
def tf (b : Bool) : Str := if b then "True" else "False"
theorem tf_ok (b : Bool) : okS (tf b) := by
  have h : (PyData.strOk (tf b) && decide ((reprText (tf b)).length ≤ 20)) = true := by cases b <;> decide +kernel
  simp only [Bool.and_eq_true, decide_eq_true_eq] at h
  exact h
theorem ok_law {f : Addr} {fd : FuncData} (F : Fun K "law" "law" s_law f fd) (B : Blt mg) (D_is_good : Own P w K mg base 4 "is_good" ["crews"] (sp_good K)) (bk : ∀ (s : Shared) (u : Value), BindsTo s D_is_good.fd ⟨[], [("crews", u)]⟩ [("crews", u)])
    (D__law_source : Own P w K mg base 1 "_law_source" ["_law_script"] (sp_source K)) (D__law_draw : Own P w K mg base 1 "_law_draw" ["_law_rng", "_law_limit"] sp_draw)
    (D__law_make_any : Own P w K mg base 4 "_law_make_any" ["_law_rng", "_law_most"] (sp_many K)) (D__law_is_good : Own P w K mg base 3 "_law_is_good" ["_law_teams"] (sp_good K)) : FnG P w K mg base 5 f fd ["_law_script"] (sp_law K) := by
  refine fnG_mk F sc_law (fun vs H Q E h => ?_) (fun cdv A outer s H vs Q E g hr h => ?_)
  · obtain ⟨_, _, rfl, _⟩ := h
    rfl
  · obtain ⟨a, ns, rfl, ha, q⟩ := h
    have hr1 : Room 1 _ := hr.mono (by omega)
    have hr3 : Room 3 _ := hr.mono (by omega)
    have g2 : Gu (A.deeper (envOfC "law" (defScope s_law) s.heap.objs.size f cdv)) := g
    refine ⟨_, (pss_cons (ps_set (i := 1) sc_law.nd rfl (Or.inl rfl) (pe_call D__law_source.G hr1 rfl D__law_source.m D__law_source.kp D__law_source.b .nil pass0 (pa_cons (pv 0) pa_nil)))
      (pss_cons (ps_for PassesOwn.never rfl (pi_range1 rfl B.range (pa_cons pe_int pa_nil)) (pg_name (i := 2) sc_law.nd rfl (Or.inl rfl))
      (pss_cons (ps_set (i := 3) sc_law.nd rfl (Or.inl rfl) (pe_call D__law_make_any.G hr rfl D__law_make_any.m D__law_make_any.kp D__law_make_any.b .nil pass0 (pa_cons (pv 1) (pa_cons pe_int pa_nil))))
      (pss_cons (ps_set (i := 4) sc_law.nd rfl (Or.inl rfl) (pe_call D__law_draw.G hr1 rfl D__law_draw.m D__law_draw.kp D__law_draw.b .nil pass0 (pa_cons (pv 1) (pa_cons (pe_callB (c_len K) (by rfl) B.len (by decide +kernel) (pa_cons (pv 3) pa_nil)) pa_nil))))
      (pss_one (ps_for PassesOwn.never rfl (p_tup K (pe_tup (pa_cons (pv 3) (pa_cons (pe_op (o_catA K) (pe_slice (s_tupA K) (pv 3) po_none (po_some (pv 4))) (pe_slice (s_tupA K) (pv 3) (po_some (pe_op op_add (pv 4) pe_int)) po_none)) (pa_cons (pe_slice (s_tupA K) (pv 3) po_none (po_some pe_int)) pa_nil))))) (pg_name (i := 5) sc_law.nd rfl (Or.inl rfl))
      (pss_one (ps_if (pt_cmpR (o_neD K hr.units) (pv 5) (pe_tup pa_nil) (nomark _)) (pss_cons (ps_par (by rfl) sc_law.nd (i := 6) (j := 7) rfl rfl (by decide) rfl rfl (pa_cons (pe_callB (c_repr K hr.units g2) (by rfl) B.repr (by decide +kernel) (pa_cons (pv 5) pa_nil)) (pa_cons (pe_callB cr_reprB (by rfl) B.repr (by decide +kernel) (pa_cons (pe_call D__law_is_good.G hr3 rfl D__law_is_good.m D__law_is_good.kp D__law_is_good.b .nil pass0 (pa_cons (pv 5) pa_nil)) pa_nil)) pa_nil)) (by rfl))
      (pss_one (ps_if (PW.pt (pw_or (pt_cmpR (o_neD K hr.units) (pe_lst (pa_cons (pe_callB cr_reprB (by rfl) B.repr (by decide +kernel) (pa_cons (pe_call D_is_good.G hr rfl D_is_good.m D_is_good.kp D_is_good.b .nil pass0 (pa_cons (pv 5) pa_nil)) pa_nil)) (pa_cons (pe_callB cr_reprB (by rfl) B.repr (by decide +kernel) (pa_cons (pe_callK1 D_is_good.G hr rfl D_is_good.m D_is_good.kp bk pass0 (pk_cons (pv 5) pk_nil)) pa_nil)) pa_nil))) (pe_lst (pa_cons (pv 7) (pa_cons (pv 7) pa_nil))) (nomark _)) (pw_or1 (pt_cmpR op_ne (pe_callB (c_repr K hr.units g2) (by rfl) B.repr (by decide +kernel) (pa_cons (pv 5) pa_nil)) (pv 6) (nomark _))))) (pss_one (ps_ret pe_bl)) pss_nil))) pss_nil)))))))
      (pss_one (ps_ret pe_bl)))), ?_⟩
    refine sq_set ⟨_, rfl, a, ns, rfl, ha, fun r c H1 s1 hR => ?_⟩
    refine sq_for ?_
    refine ⟨8, rfl, by decide, by decide, ?_⟩
    refine for_range (lo := 0) (n := (8 : Int).toNat) (fun i σ' H' => ∃ (v2 v3 v4 v5 v6 v7 : Option V), σ' = [some (.ref a), some (.ref r), v2, v3, v4, v5, v6, v7] ∧ Rng H' r c (2000 * i)) ⟨none, none, none, none, none, none, rfl, hR.le (by omega)⟩ (fun i σ' H2 hi z => ?_) fun σ' H2 z => ?_
    · obtain ⟨v2, v3, v4, v5, v6, v7, rfl, hR2⟩ := z
      have hi8 : i < 8 := by omega
      -- teams
      refine sq_set ⟨_, rfl, r, c, 2000 * i, rfl, by omega, hR2, fun x ts H3 c3 g3 h3 gt ne => ?_⟩
      have gm := gt.many
      obtain ⟨b, xs, rfl, hb, hp⟩ := h3
      have h3 : S2 K H3 (.ref b) ts := ⟨b, xs, rfl, hb, hp⟩
      have hxl := prd_len hp
      have hx0 : 0 < ts.length := List.length_pos_iff.mpr ne
      -- spot
      refine sq_set ⟨_, rfl, _, rfl, b, _, rfl, .inr hb, r, c, _, 2000 * i + 1010, rfl, by omega, by omega, by omega, g3, fun z H4 c4 g4 z0 z1 => ?_⟩
      obtain ⟨sp, rfl⟩ : ∃ j : Nat, z = (j : Int) := ⟨z.toNat, by omega⟩
      have h4 : S2 K H4 (.ref b) ts := c4.s2 h3
      -- the three
      refine ⟨_, rfl, _, rfl, _, rfl, _, rfl, slA_teams h4 fun x5 H5 t5 s5 h5 l5 m5 => ?_⟩
      refine ⟨_, rfl, _, rfl, _, _, rfl, rfl, (sp : Int) + 1, rfl, ?_⟩
      unfold tNoPart
      show rSlA K (.ref b) (some ((sp : Int) + 1)) none H5 _
      refine slA_teams (h4.same s5) fun x6 H6 t6 s6 h6 l6 m6 => ?_
      have e5 : t5.length ≤ sp := by
        rw [HT.sIx_nat, HT.sIx_none] at l5
        omega
      have e6 : t6.length ≤ ts.length - (sp + 1) := by
        rw [show (sp : Int) + 1 = ((sp + 1 : Nat) : Int) by omega, HT.sIx_nat, HT.sIx_none] at l6
        omega
      refine cat_teams (h5.same s6) h6 (by omega) fun x7 H7 s7 h7 => ?_
      have h47 : S2 K H7 (.ref b) ts := ((h4.same s5).same s6).same s7
      refine ⟨_, rfl, 1, rfl, ?_⟩
      show rSlA K (.ref b) none (some 1) H7 _
      refine slA_teams h47 fun x8 H8 t8 s8 h8 l8 m8 => ?_
      have e8 : t8.length ≤ ts.length := by
        have := HT.sIx_le ts.length ts.length (Nat.le_refl _) (some 1)
        omega
      refine ⟨(by decide : 3 ≤ sizeLine), fun p np => ?_⟩
      have sA : Same H4 (upd H8 p (.tup [.ref b, x7, x8])) := (((s5.trans s6).trans s7).trans s8).trans (same_upd np)
      have G7 : Gt (t5 ++ t6) := ⟨by rw [List.length_append]; omega, fun t ht => gt.each t (by
        rcases List.mem_append.mp ht with ht | ht
        · exact m5 t ht
        · exact m6 t ht)⟩
      have G8 : Gt t8 := ⟨by omega, fun t ht => gt.each t (m8 t ht)⟩
      have it : ∀ (i : Nat) (x : V), [V.ref b, x7, x8][i]? = some x → ∃ us, S2 K (upd H8 p (.tup [.ref b, x7, x8])) x us ∧ Gt us := fun i x hx => by
        have hm := List.mem_of_getElem? hx
        simp only [List.mem_cons, List.not_mem_nil, or_false] at hm
        rcases hm with rfl | rfl | rfl
        · exact ⟨ts, (h47.same s8).same (same_upd np), gt⟩
        · exact ⟨_, (h7.same s8).same (same_upd np), G7⟩
        · exact ⟨_, h8.same (same_upd np), G8⟩
      have hpT : SqT K (upd H8 p (.tup [.ref b, x7, x8])) p [.ref b, x7, x8] := st_ upd_same
      have gA : Rng (upd H8 p (.tup [.ref b, x7, x8])) r c (2000 * i + 1010 + 1) := g4.same sA
      generalize upd H8 p (.tup [.ref b, x7, x8]) = HA at it hpT gA
      refine ⟨p, rfl, ⟨_, hpT⟩, for_tup (xs := [V.ref b, x7, x8]) (fun j σ' H' => ∃ (v5 v6 v7 : Option V), σ' = [some (.ref a), some (.ref r), some (.int (0 + i)), some (.ref b), some (.int sp), v5, v6, v7] ∧ Same HA H') ⟨v5, v6, v7, rfl, Same.refl _⟩ (fun j σ' H' _ z => sameT z.choose_spec.choose_spec.choose_spec.2 hpT) (fun j x σ' H' hj z => ?_) fun σ' H' z => ?_⟩
      · obtain ⟨v5, v6, v7, rfl, sB⟩ := z
        obtain ⟨us, hx, gu⟩ := it j x hj
        have hx := hx.same sB
        obtain ⟨y, zs, rfl, hy, hzs⟩ := hx
        have hx : S2 K H' (.ref y) us := ⟨y, zs, rfl, hy, hzs⟩
        have oku : ∀ t ∈ us, ∀ n ∈ t, okS n := fun t ht => (gu.each t ht).2.2
        have oku8 : ∀ t ∈ us, t.length ≤ 8 ∧ ∀ n ∈ t, okS n := fun t ht => (gu.each t ht).2
        have many : us.length ≤ 1000 := by
          have := gu.many
          omega
        refine ⟨_, rfl, Nat.zero_le _, fun p9 np9 => ⟨tD us, .tuple [], (hx.same (same_upd np9)).dp, .tup (st_ upd_same) .nil, shaped_tD oku, shaped_nilT, _, rfl, ite2 (fun _ => ?_) (fun _ => ⟨_, _, _, rfl, sB.trans (same_upd np9)⟩)⟩⟩
        have sC := sB.trans (same_upd (o := .tup []) np9)
        have hC := hx.same (same_upd (o := .tup []) np9)
        generalize upd H' p9 (.tup []) = HC at sC hC
        -- before, want
        refine sq_par ⟨_, rfl, ?_⟩
        unfold tNil
        show rRepr K [.ref y] HC _
        refine repr_teams hC oku8 many ?_
        refine ⟨_, rfl, _, us, rfl, hC, gu, fun HD sD' => ⟨_, rfl, _, _, rfl, ?_⟩⟩
        have hD := hC.same sD'
        refine ⟨_, rfl, _, us, rfl, hD, gu, fun HE sE => ⟨_, rfl, _, rfl, _, us, rfl, hD.same sE, gu, fun HF sF => ⟨_, rfl, (by decide : 2 ≤ sizeLine), fun l1 nl1 => ⟨_, rfl, _, rfl, (by decide : 2 ≤ sizeLine), fun l2 nl2 => ?_⟩⟩⟩⟩
        generalize hb0 : (goodB us).all id = b0 at nl1 nl2
        have okt : ∀ n ∈ [tf b0, tf b0], okS n := fun n hn => by
          simp only [List.mem_cons, List.not_mem_nil, or_false, or_self] at hn
          rw [hn]
          exact tf_ok b0
        have heq : PyData.eqv (.list ([tf b0, tf b0].map .str)) (.list ([tf b0, tf b0].map .str)) = true := by
          rw [PyData.eqv, eqv_strs]
          simp
        have sG := ((sE.trans sF).trans (same_upd (o := .lst [V.str (tf b0), V.str (tf b0)]) nl1)).trans (same_upd (o := .lst [V.str (tf b0), V.str (tf b0)]) nl2)
        have hG := hD.same sG
        refine ⟨.list ([tf b0, tf b0].map .str), .list ([tf b0, tf b0].map .str), .lst (sl_ (same_upd nl2 _ _ upd_same)) (dpStrs [tf b0, tf b0]), .lst (sl_ upd_same) (dpStrs [tf b0, tf b0]), shaped_strs okt, shaped_strs okt, _, rfl, ?_⟩
        rw [heq]
        refine ite2 (fun h => absurd h (by simp)) fun _ => ?_
        refine ⟨_, rfl, ?_⟩
        show rRepr K [.ref y] _ _
        refine repr_teams hG oku8 many ?_
        refine ⟨_, rfl, rfl, _, rfl, ?_⟩
        refine ite2 (fun h => absurd h (by simp)) fun _ => ?_
        exact ⟨_, _, _, rfl, (sC.trans sD').trans sG⟩
      · obtain ⟨v5, v6, v7, rfl, sB⟩ := z
        exact ⟨_, _, _, _, _, _, rfl, (gA.same sB).le (by omega)⟩
    · exact q H2
end
end K49

namespace K49
open PySem PySem.Spec PyProof.Rows L2 PySem.W Cb Evl
theorem all_mk {P : Program} {w : World} {K : Frag} {h : Heap} {mg : Str → Option Value} {fa : Addr} (X : K.In h) (G : h.Ns mainGlobals mg) (hfa : mg "law" = some (.ref fa))
    {od0 an0 : Option Addr} {sl0 : Array (Option Value)} {oc0 kV0 dc0 pm0 cd0 ct0 : Value} {f0 : Addr}
    (a0 : nsIn K mainGlobals "newcomers" = some (some (.ref f0))) (l0 : K.lookup f0 = some ⟨oc0, od0, .func (fnOf "newcomers" "newcomers" (defArgs s_newcomers) (defBody s_newcomers) (defScope s_newcomers) .none kV0 dc0 pm0 an0 cd0 ct0), sl0⟩) (c0 : codeIn K cd0 "newcomers" = true) (k0 : keepIn K (.ref f0) = true)
    {od1 an1 : Option Addr} {sl1 : Array (Option Value)} {oc1 kV1 dc1 pm1 cd1 ct1 : Value} {f1 : Addr}
    (a1 : nsIn K mainGlobals "exchanged" = some (some (.ref f1))) (l1 : K.lookup f1 = some ⟨oc1, od1, .func (fnOf "exchanged" "exchanged" (defArgs s_exchanged) (defBody s_exchanged) (defScope s_exchanged) .none kV1 dc1 pm1 an1 cd1 ct1), sl1⟩) (c1 : codeIn K cd1 "exchanged" = true) (k1 : keepIn K (.ref f1) = true)
    {od2 an2 : Option Addr} {sl2 : Array (Option Value)} {oc2 kV2 dc2 pm2 cd2 ct2 : Value} {f2 : Addr}
    (a2 : nsIn K mainGlobals "can_exchange" = some (some (.ref f2))) (l2 : K.lookup f2 = some ⟨oc2, od2, .func (fnOf "can_exchange" "can_exchange" (defArgs s_can_exchange) (defBody s_can_exchange) (defScope s_can_exchange) .none kV2 dc2 pm2 an2 cd2 ct2), sl2⟩) (c2 : codeIn K cd2 "can_exchange" = true) (k2 : keepIn K (.ref f2) = true)
    {od3 an3 : Option Addr} {sl3 : Array (Option Value)} {oc3 kV3 dc3 pm3 cd3 ct3 : Value} {f3 : Addr}
    (a3 : nsIn K mainGlobals "all_exchange" = some (some (.ref f3))) (l3 : K.lookup f3 = some ⟨oc3, od3, .func (fnOf "all_exchange" "all_exchange" (defArgs s_all_exchange) (defBody s_all_exchange) (defScope s_all_exchange) .none kV3 dc3 pm3 an3 cd3 ct3), sl3⟩) (c3 : codeIn K cd3 "all_exchange" = true) (k3 : keepIn K (.ref f3) = true)
    {od4 an4 : Option Addr} {sl4 : Array (Option Value)} {oc4 kV4 dc4 pm4 cd4 ct4 : Value} {f4 : Addr}
    (a4 : nsIn K mainGlobals "is_good" = some (some (.ref f4))) (l4 : K.lookup f4 = some ⟨oc4, od4, .func (fnOf "is_good" "is_good" (defArgs s_is_good) (defBody s_is_good) (defScope s_is_good) .none kV4 dc4 pm4 an4 cd4 ct4), sl4⟩) (c4 : codeIn K cd4 "is_good" = true) (k4 : keepIn K (.ref f4) = true)
    {od5 an5 : Option Addr} {sl5 : Array (Option Value)} {oc5 kV5 dc5 pm5 cd5 ct5 : Value} {f5 : Addr}
    (a5 : nsIn K mainGlobals "_law_source" = some (some (.ref f5))) (l5 : K.lookup f5 = some ⟨oc5, od5, .func (fnOf "_law_source" "_law_source" (defArgs s_source) (defBody s_source) (defScope s_source) .none kV5 dc5 pm5 an5 cd5 ct5), sl5⟩) (c5 : codeIn K cd5 "_law_source" = true) (k5 : keepIn K (.ref f5) = true)
    {od6 an6 : Option Addr} {sl6 : Array (Option Value)} {oc6 kV6 dc6 pm6 cd6 ct6 : Value} {f6 : Addr}
    (a6 : nsIn K mainGlobals "_law_draw" = some (some (.ref f6))) (l6 : K.lookup f6 = some ⟨oc6, od6, .func (fnOf "_law_draw" "_law_draw" (defArgs s_draw) (defBody s_draw) (defScope s_draw) .none kV6 dc6 pm6 an6 cd6 ct6), sl6⟩) (c6 : codeIn K cd6 "_law_draw" = true) (k6 : keepIn K (.ref f6) = true)
    {od7 an7 : Option Addr} {sl7 : Array (Option Value)} {oc7 kV7 dc7 pm7 cd7 ct7 : Value} {f7 : Addr}
    (a7 : nsIn K mainGlobals "_law_sample" = some (some (.ref f7))) (l7 : K.lookup f7 = some ⟨oc7, od7, .func (fnOf "_law_sample" "_law_sample" (defArgs s_sample) (defBody s_sample) (defScope s_sample) .none kV7 dc7 pm7 an7 cd7 ct7), sl7⟩) (c7 : codeIn K cd7 "_law_sample" = true) (k7 : keepIn K (.ref f7) = true)
    {od8 an8 : Option Addr} {sl8 : Array (Option Value)} {oc8 kV8 dc8 pm8 cd8 ct8 : Value} {f8 : Addr}
    (a8 : nsIn K mainGlobals "_law_make_teams" = some (some (.ref f8))) (l8 : K.lookup f8 = some ⟨oc8, od8, .func (fnOf "_law_make_teams" "_law_make_teams" (defArgs s_teams) (defBody s_teams) (defScope s_teams) .none kV8 dc8 pm8 an8 cd8 ct8), sl8⟩) (c8 : codeIn K cd8 "_law_make_teams" = true) (k8 : keepIn K (.ref f8) = true)
    {od9 an9 : Option Addr} {sl9 : Array (Option Value)} {oc9 kV9 dc9 pm9 cd9 ct9 : Value} {f9 : Addr}
    (a9 : nsIn K mainGlobals "_law_is_within" = some (some (.ref f9))) (l9 : K.lookup f9 = some ⟨oc9, od9, .func (fnOf "_law_is_within" "_law_is_within" (defArgs s_within) (defBody s_within) (defScope s_within) .none kV9 dc9 pm9 an9 cd9 ct9), sl9⟩) (c9 : codeIn K cd9 "_law_is_within" = true) (k9 : keepIn K (.ref f9) = true)
    {od10 an10 : Option Addr} {sl10 : Array (Option Value)} {oc10 kV10 dc10 pm10 cd10 ct10 : Value} {f10 : Addr}
    (a10 : nsIn K mainGlobals "_law_make_good" = some (some (.ref f10))) (l10 : K.lookup f10 = some ⟨oc10, od10, .func (fnOf "_law_make_good" "_law_make_good" (defArgs s_mgood) (defBody s_mgood) (defScope s_mgood) .none kV10 dc10 pm10 an10 cd10 ct10), sl10⟩) (c10 : codeIn K cd10 "_law_make_good" = true) (k10 : keepIn K (.ref f10) = true)
    {od11 an11 : Option Addr} {sl11 : Array (Option Value)} {oc11 kV11 dc11 pm11 cd11 ct11 : Value} {f11 : Addr}
    (a11 : nsIn K mainGlobals "_law_all_sets" = some (some (.ref f11))) (l11 : K.lookup f11 = some ⟨oc11, od11, .func (fnOf "_law_all_sets" "_law_all_sets" (defArgs s_sets) (defBody s_sets) (defScope s_sets) .none kV11 dc11 pm11 an11 cd11 ct11), sl11⟩) (c11 : codeIn K cd11 "_law_all_sets" = true) (k11 : keepIn K (.ref f11) = true)
    {od12 an12 : Option Addr} {sl12 : Array (Option Value)} {oc12 kV12 dc12 pm12 cd12 ct12 : Value} {f12 : Addr}
    (a12 : nsIn K mainGlobals "_law_but" = some (some (.ref f12))) (l12 : K.lookup f12 = some ⟨oc12, od12, .func (fnOf "_law_but" "_law_but" (defArgs s_but) (defBody s_but) (defScope s_but) .none kV12 dc12 pm12 an12 cd12 ct12), sl12⟩) (c12 : codeIn K cd12 "_law_but" = true) (k12 : keepIn K (.ref f12) = true)
    {od13 an13 : Option Addr} {sl13 : Array (Option Value)} {oc13 kV13 dc13 pm13 cd13 ct13 : Value} {f13 : Addr}
    (a13 : nsIn K mainGlobals "_law_is_good" = some (some (.ref f13))) (l13 : K.lookup f13 = some ⟨oc13, od13, .func (fnOf "_law_is_good" "_law_is_good" (defArgs s_lgood) (defBody s_lgood) (defScope s_lgood) .none kV13 dc13 pm13 an13 cd13 ct13), sl13⟩) (c13 : codeIn K cd13 "_law_is_good" = true) (k13 : keepIn K (.ref f13) = true)
    {od14 an14 : Option Addr} {sl14 : Array (Option Value)} {oc14 kV14 dc14 pm14 cd14 ct14 : Value} {f14 : Addr}
    (a14 : nsIn K mainGlobals "_law_exchanges" = some (some (.ref f14))) (l14 : K.lookup f14 = some ⟨oc14, od14, .func (fnOf "_law_exchanges" "_law_exchanges" (defArgs s_exs) (defBody s_exs) (defScope s_exs) .none kV14 dc14 pm14 an14 cd14 ct14), sl14⟩) (c14 : codeIn K cd14 "_law_exchanges" = true) (k14 : keepIn K (.ref f14) = true)
    {od15 an15 : Option Addr} {sl15 : Array (Option Value)} {oc15 kV15 dc15 pm15 cd15 ct15 : Value} {f15 : Addr}
    (a15 : nsIn K mainGlobals "_law_make_any" = some (some (.ref f15))) (l15 : K.lookup f15 = some ⟨oc15, od15, .func (fnOf "_law_make_any" "_law_make_any" (defArgs s_many) (defBody s_many) (defScope s_many) .none kV15 dc15 pm15 an15 cd15 ct15), sl15⟩) (c15 : codeIn K cd15 "_law_make_any" = true) (k15 : keepIn K (.ref f15) = true)
    {od16 an16 : Option Addr} {sl16 : Array (Option Value)} {oc16 kV16 dc16 pm16 cd16 ct16 : Value} {f16 : Addr}
    (a16 : nsIn K mainGlobals "law" = some (some (.ref f16))) (l16 : K.lookup f16 = some ⟨oc16, od16, .func (fnOf "law" "law" (defArgs s_law) (defBody s_law) (defScope s_law) .none kV16 dc16 pm16 an16 cd16 ct16), sl16⟩) (c16 : codeIn K cd16 "law" = true) (k16 : keepIn K (.ref f16) = true)
    (z0 : nsIn K mainGlobals "len" = some none)
    (z1 : nsIn K mainGlobals "list" = some none)
    (z2 : nsIn K mainGlobals "tuple" = some none)
    (z3 : nsIn K mainGlobals "range" = some none)
    (z4 : nsIn K mainGlobals "sorted" = some none)
    (z5 : nsIn K mainGlobals "any" = some none)
    (z6 : nsIn K mainGlobals "all" = some none)
    (z7 : nsIn K mainGlobals "min" = some none)
    (z8 : nsIn K mainGlobals "max" = some none)
    (z9 : nsIn K mainGlobals "repr" = some none) :
    ∃ fd : FuncData, (∀ (s : Shared) (v : Value), BindsTo s fd ⟨[v], []⟩ [("_law_script", v)]) ∧ ∀ base : Heap, K.In base → base.Ns mainGlobals mg → FnG P w K mg base 5 fa fd ["_law_script"] (sp_law K) := by
  have e := hfa.symm.trans (mg_of X G a16)
  cases e
  have F0 := fun_mk (st := s_newcomers) l0 c0 k0
  have b0 := F0.binds (ps := ["crew", "other"]) fun _ _ _ _ _ _ us hl => match us, hl with | [_, _], _ => rfl
  have F1 := fun_mk (st := s_exchanged) l1 c1 k1
  have b1 := F1.binds (ps := ["crew", "person", "other"]) fun _ _ _ _ _ _ us hl => match us, hl with | [_, _, _], _ => rfl
  have F2 := fun_mk (st := s_can_exchange) l2 c2 k2
  have b2 := F2.binds (ps := ["crews", "crew", "person", "other"]) fun _ _ _ _ _ _ us hl => match us, hl with | [_, _, _, _], _ => rfl
  have F3 := fun_mk (st := s_all_exchange) l3 c3 k3
  have b3 := F3.binds (ps := ["crews"]) fun _ _ _ _ _ _ us hl => match us, hl with | [_], _ => rfl
  have F4 := fun_mk (st := s_is_good) l4 c4 k4
  have b4 := F4.binds (ps := ["crews"]) fun _ _ _ _ _ _ us hl => match us, hl with | [_], _ => rfl
  have F5 := fun_mk (st := s_source) l5 c5 k5
  have b5 := F5.binds (ps := ["_law_script"]) fun _ _ _ _ _ _ us hl => match us, hl with | [_], _ => rfl
  have F6 := fun_mk (st := s_draw) l6 c6 k6
  have b6 := F6.binds (ps := ["_law_rng", "_law_limit"]) fun _ _ _ _ _ _ us hl => match us, hl with | [_, _], _ => rfl
  have F7 := fun_mk (st := s_sample) l7 c7 k7
  have b7 := F7.binds (ps := ["_law_rng", "_law_pool", "_law_amount"]) fun _ _ _ _ _ _ us hl => match us, hl with | [_, _, _], _ => rfl
  have F8 := fun_mk (st := s_teams) l8 c8 k8
  have b8 := F8.binds (ps := ["_law_rng", "_law_most"]) fun _ _ _ _ _ _ us hl => match us, hl with | [_, _], _ => rfl
  have F9 := fun_mk (st := s_within) l9 c9 k9
  have b9 := F9.binds (ps := ["_law_some", "_law_more"]) fun _ _ _ _ _ _ us hl => match us, hl with | [_, _], _ => rfl
  have F10 := fun_mk (st := s_mgood) l10 c10 k10
  have b10 := F10.binds (ps := ["_law_rng", "_law_most"]) fun _ _ _ _ _ _ us hl => match us, hl with | [_, _], _ => rfl
  have F11 := fun_mk (st := s_sets) l11 c11 k11
  have b11 := F11.binds (ps := ["_law_names_now"]) fun _ _ _ _ _ _ us hl => match us, hl with | [_], _ => rfl
  have F12 := fun_mk (st := s_but) l12 c12 k12
  have b12 := F12.binds (ps := ["_law_here", "_law_name"]) fun _ _ _ _ _ _ us hl => match us, hl with | [_, _], _ => rfl
  have F13 := fun_mk (st := s_lgood) l13 c13 k13
  have b13 := F13.binds (ps := ["_law_teams"]) fun _ _ _ _ _ _ us hl => match us, hl with | [_], _ => rfl
  have F14 := fun_mk (st := s_exs) l14 c14 k14
  have b14 := F14.binds (ps := ["_law_teams"]) fun _ _ _ _ _ _ us hl => match us, hl with | [_], _ => rfl
  have F15 := fun_mk (st := s_many) l15 c15 k15
  have b15 := F15.binds (ps := ["_law_rng", "_law_most"]) fun _ _ _ _ _ _ us hl => match us, hl with | [_, _], _ => rfl
  have F16 := fun_mk (st := s_law) l16 c16 k16
  have b16 := F16.binds (ps := ["_law_script"]) fun _ _ _ _ _ _ us hl => match us, hl with | [_], _ => rfl
  have B : Blt mg := ⟨mg_none_of X G z0, mg_none_of X G z1, mg_none_of X G z2, mg_none_of X G z3, mg_none_of X G z4, mg_none_of X G z5, mg_none_of X G z6, mg_none_of X G z7, mg_none_of X G z8, mg_none_of X G z9⟩
  refine ⟨fnOf "law" "law" (defArgs s_law) (defBody s_law) (defScope s_law) .none kV16 dc16 pm16 an16 cd16 ct16, fun s v => .of_eq rfl, fun base _ _ => ?_⟩
  have D0 : Own P w K mg base 1 "newcomers" ["crew", "other"] (sp_newcomers K) := ⟨_, _, ok_newcomers F0 B, mg_of X G a0, k0, b0⟩
  have D1 : Own P w K mg base 1 "exchanged" ["crew", "person", "other"] (sp_exchanged K) := ⟨_, _, ok_exchanged F1 B, mg_of X G a1, k1, b1⟩
  have D2 : Own P w K mg base 2 "can_exchange" ["crews", "crew", "person", "other"] (sp_can K) := ⟨_, _, ok_can F2 B D0 D1, mg_of X G a2, k2, b2⟩
  have D3 : Own P w K mg base 3 "all_exchange" ["crews"] (sp_good K) := ⟨_, _, ok_all F3 B D0 D2, mg_of X G a3, k3, b3⟩
  let D4 : Own P w K mg base 4 "is_good" ["crews"] (sp_good K) := ⟨f4, fnOf "is_good" "is_good" (defArgs s_is_good) (defBody s_is_good) (defScope s_is_good) .none kV4 dc4 pm4 an4 cd4 ct4, ok_is_good F4 D3, mg_of X G a4, k4, b4⟩
  have D5 : Own P w K mg base 1 "_law_source" ["_law_script"] (sp_source K) := ⟨_, _, ok_source F5 B, mg_of X G a5, k5, b5⟩
  have D6 : Own P w K mg base 1 "_law_draw" ["_law_rng", "_law_limit"] sp_draw := ⟨_, _, ok_draw F6 B, mg_of X G a6, k6, b6⟩
  have D7 : Own P w K mg base 2 "_law_sample" ["_law_rng", "_law_pool", "_law_amount"] (sp_sample K) := ⟨_, _, ok_sample F7 B D6, mg_of X G a7, k7, b7⟩
  have D9 : Own P w K mg base 1 "_law_is_within" ["_law_some", "_law_more"] (sp_within K) := ⟨_, _, ok_within F9, mg_of X G a9, k9, b9⟩
  have D8 : Own P w K mg base 3 "_law_make_teams" ["_law_rng", "_law_most"] (sp_made 3 5 K) := ⟨_, _, ok_teams F8 B D6 D7 D9, mg_of X G a8, k8, b8⟩
  have D11 : Own P w K mg base 1 "_law_all_sets" ["_law_names_now"] (sp_sets K) := ⟨_, _, ok_sets F11 B, mg_of X G a11, k11, b11⟩
  have D10 : Own P w K mg base 3 "_law_make_good" ["_law_rng", "_law_most"] (sp_made 2 5 K) := ⟨_, _, ok_mgood F10 B D6 D7 D11, mg_of X G a10, k10, b10⟩
  have D12 : Own P w K mg base 1 "_law_but" ["_law_here", "_law_name"] (sp_but K) := ⟨_, _, ok_but' F12 B, mg_of X G a12, k12, b12⟩
  have D14 : Own P w K mg base 2 "_law_exchanges" ["_law_teams"] (sp_exs K) := ⟨_, _, ok_exs F14 B D12, mg_of X G a14, k14, b14⟩
  have D13 : Own P w K mg base 3 "_law_is_good" ["_law_teams"] (sp_good K) := ⟨_, _, ok_lgood F13 D14, mg_of X G a13, k13, b13⟩
  have D15 : Own P w K mg base 4 "_law_make_any" ["_law_rng", "_law_most"] (sp_many K) := ⟨_, _, ok_many F15 D6 D10 D8, mg_of X G a15, k15, b15⟩
  exact ok_law F16 B D4 (fun s u => BindsTo.of_eq (by rfl)) D5 D6 D15 D13
end K49
open PySem PySem.W PyProof.Rows
set_option maxHeartbeats 0 in
theorem PySem.Challenge.cw_crewbook_k49_good_crews_told_holds : PySem.Challenge.rw_crewbook_k49_good_crews_told.Holds := by
  w_on; o_law; k_head; (case hw => w_witness2)
  k_fill
  refine Cb.walkG (l := PySem.Challenge.rw_crewbook_k49_good_crews_told) (n := 63) (k := 5) (x := "_law_script") (sp := fun w => K49.sp_law _) rfl (by decide) rfl ⟨rfl, by decide, by decide⟩ (fun w h Y => PySem.W.kIn_of Y) ?F (fun _ _ a ns hl _ hS => ⟨a, ns, rfl, hS, fun _ => rfl⟩)
  case F =>
    intro w mg fa h KX G hmg
    refine' K49.all_mk KX G hmg ?a0 ?l0 ?c0 ?k0 ?a1 ?l1 ?c1 ?k1 ?a2 ?l2 ?c2 ?k2 ?a3 ?l3 ?c3 ?k3 ?a4 ?l4 ?c4 ?k4 ?a5 ?l5 ?c5 ?k5 ?a6 ?l6 ?c6 ?k6 ?a7 ?l7 ?c7 ?k7 ?a8 ?l8 ?c8 ?k8 ?a9 ?l9 ?c9 ?k9 ?a10 ?l10 ?c10 ?k10 ?a11 ?l11 ?c11 ?k11 ?a12 ?l12 ?c12 ?k12 ?a13 ?l13 ?c13 ?k13 ?a14 ?l14 ?c14 ?k14 ?a15 ?l15 ?c15 ?k15 ?a16 ?l16 ?c16 ?k16 ?z0 ?z1 ?z2 ?z3 ?z4 ?z5 ?z6 ?z7 ?z8 ?z9
    (case a0 => k_is); (case l0 => k_is); (case c0 => k_is); (case k0 => k_is)
    (case a1 => k_is); (case l1 => k_is); (case c1 => k_is); (case k1 => k_is)
    (case a2 => k_is); (case l2 => k_is); (case c2 => k_is); (case k2 => k_is)
    (case a3 => k_is); (case l3 => k_is); (case c3 => k_is); (case k3 => k_is)
    (case a4 => k_is); (case l4 => k_is); (case c4 => k_is); (case k4 => k_is)
    (case a5 => k_is); (case l5 => k_is); (case c5 => k_is); (case k5 => k_is)
    (case a6 => k_is); (case l6 => k_is); (case c6 => k_is); (case k6 => k_is)
    (case a7 => k_is); (case l7 => k_is); (case c7 => k_is); (case k7 => k_is)
    (case a8 => k_is); (case l8 => k_is); (case c8 => k_is); (case k8 => k_is)
    (case a9 => k_is); (case l9 => k_is); (case c9 => k_is); (case k9 => k_is)
    (case a10 => k_is); (case l10 => k_is); (case c10 => k_is); (case k10 => k_is)
    (case a11 => k_is); (case l11 => k_is); (case c11 => k_is); (case k11 => k_is)
    (case a12 => k_is); (case l12 => k_is); (case c12 => k_is); (case k12 => k_is)
    (case a13 => k_is); (case l13 => k_is); (case c13 => k_is); (case k13 => k_is)
    (case a14 => k_is); (case l14 => k_is); (case c14 => k_is); (case k14 => k_is)
    (case a15 => k_is); (case l15 => k_is); (case c15 => k_is); (case k15 => k_is)
    (case a16 => k_is); (case l16 => k_is); (case c16 => k_is); (case k16 => k_is)
    (case z0 => k_is); (case z1 => k_is); (case z2 => k_is); (case z3 => k_is); (case z4 => k_is); (case z5 => k_is); (case z6 => k_is); (case z7 => k_is); (case z8 => k_is); (case z9 => k_is)
