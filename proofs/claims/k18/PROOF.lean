import PyProof.Rows.All
import Wide.All
import OpenK.AllK
import Wide.FinOn
import HandS.ForMost
import HandS.TupAny
import HandS.SortKw
import HandS.Deep
import HandS.Wide
import HandS.Defaults
import HandS.Conv
import HandS.Evl
import KE.SortData
import KE.SortKeyHeap
import PyProof.P3In
import HandS.FStrTup
import HandS.SetTxt0
import HandS.SetBool
import HandS.TupSets
import HandS.Star
import PySem.Challenge.RW_crewbook_k18_losses_told
import HandS.Flow
set_option Elab.async false
set_option linter.all false
set_option maxRecDepth 100000
set_option maxHeartbeats 4000000
/-! Rules that the layer lacks: sorted of data, repr, in over tuples of data. -/
namespace Cb
open PySem PySem.Spec PyProof.Rows L2 PySem.W

/-! ### data that stands in the heap -/
theorem sameT {K : Frag} {H H' : Hp} {a : Addr} {xs : List V} (e : Same H H') (h : SqT K H a xs) : SqT K H' a xs := by
  rcases h with (h | ⟨o, h⟩) | h
  · exact .inl (.inl (e _ _ h))
  · exact .inl (.inr ⟨o, e _ _ h⟩)
  · exact .inr h
mutual
theorem dpSame {K : Frag} {H H' : Hp} (e : Same H H') : ∀ (d : PyData) (v : V), Dp K H v d → Dp K H' v d
  | .none, _, h => by cases h; exact .non
  | .bool _, _, h => by cases h; exact .bl _
  | .int _, _, h => by cases h; exact .int _
  | .str _, _, h => by cases h; exact .str _
  | .list ds, _, h => by
    cases h with
    | lst hs ha => exact .lst (e.seq hs) (dpsSame e ds _ ha)
  | .tuple ds, _, h => by
    cases h with
    | tup hs ha => exact .tup (sameT e hs) (dpsSame e ds _ ha)
  | .dict _, _, h => by cases h
theorem dpsSame {K : Frag} {H H' : Hp} (e : Same H H') : ∀ (ds : List PyData) (vs : List V), DpAll K H vs ds → DpAll K H' vs ds
  | [], _, h => by cases h; exact .nil
  | d :: ds, _, h => by
    cases h with
    | cons h1 h2 => exact .cons (dpSame e d _ h1) (dpsSame e ds _ h2)
end

/-! ### sorted of a list of data -/
theorem each_in {β : Type} (f : β → V) : ∀ {bs : List β} {us : List Value}, Vals (bs.map f) us → EachIs (fun u b => RelV (f b) u) us bs
  | [], us, h => by
    have h' : Vals [] us := h
    cases h'
    exact .nil
  | b :: bs, us, h => by
    have h' : Vals (f b :: bs.map f) us := h
    cases h' with
    | cons r t => exact .cons r (each_in f t)
theorem each_out {β : Type} (f : β → V) : ∀ {bs : List β} {us : List Value}, EachIs (fun u b => RelV (f b) u) us bs → Vals (bs.map f) us
  | _, _, .nil => .nil
  | _, _, .cons r t => .cons r (each_out f t)
theorem each_and {β γ : Type} {R S : γ → β → Prop} : ∀ {us : List γ} {bs : List β}, EachIs R us bs → (∀ u b, b ∈ bs → R u b → S u b) → EachIs S us bs
  | _, _, .nil, _ => .nil
  | _, _, .cons r t, f => .cons (f _ _ List.mem_cons_self r) (each_and t fun u b hb => f u b (List.mem_cons_of_mem _ hb))
/-! ### sorted of a tuple -/
section
variable {prog : Program} {w : World} {A : Around} {E : Value → Shared → Prop} {s : Shared}
theorem collect_tup {l : Addr} {vs : List Value} {Q : List Value → Shared → Prop} (hl : IsTup s.heap l vs.toArray) (hz : vs.length ≤ sizeLine) (h : Q vs { s with heap := (s.heap.push (seqObj "list" #[] 0)).update s.heap.objs.size (Obj.mapSeq (· ++ vs.toArray)) }) :
    wpAny (model prog w) A (collect (.ref l)) Q E s := by
  obtain ⟨o, ho, hc, n, hd⟩ := id hl
  have h1 : (s.heap.push (seqObj "list" #[] 0)).get? l = some o := Heap.get?_push_of_some _ ho
  have h2 : (s.heap.push (seqObj "list" #[] 0)).get? s.heap.objs.size = some (seqObj "list" #[] 0) := Heap.get?_push_size _ rfl
  have tt : (Value.type "tuple" == Value.type "tuple") = true := by rfl
  unfold collect
  refine wpAny_bind (wpAny_runValue (codeAny_builtin entry_proto_collect' ?_))
  show wpAny _ _ (newList [] >>= fun b => again (.builtin "list.__iadd__" ⟨[b, .ref l], []⟩)) _ _ s
  refine wpAny_bind (wpAny_newList (wpAny_pure ⟨Code.quiet_builtin _ (by decide +kernel), codeAny_builtin entry_list_iadd' ?_⟩))
  show wpAny _ _ (Builtin.List.listExtendWith (.ref s.heap.objs.size) (.ref l) (.ref s.heap.objs.size)) _ _ { s with heap := s.heap.push (seqObj "list" #[] 0) }
  unfold Builtin.List.listExtendWith
  refine wpAny_bind (wpAny_typeOf (T := "tuple") ⟨o, h1, hc⟩ ?_)
  rw [if_pos (by rw [tt]; simp)]
  refine wpAny_bind (listItems_at h1 hd (wpAny_bind (listItems_at h2 rfl ?_)))
  rw [if_neg (by simp)]
  refine wpAny_bind (listUpdate_at h2 rfl (wpAny_pure ?_) (Nat.zero_le _) (by rw [Array.size_append, List.size_toArray]; simp only [List.size_toArray, List.length_nil]; omega))
  refine wpAny_bind (wpAny_load (get?_update_seq h2 _) ?_)
  show wpAny _ _ (pure ((#[] : Array Value) ++ vs.toArray).toList) Q E _
  have e : ((#[] : Array Value) ++ vs.toArray).toList = vs := by simp
  rw [e]
  exact wpAny_pure h
theorem sortedT_data {β : Type} {R : Value → β → Prop} {enc : β → PyData} {vs : List Value} {bs : List β} {l : Addr} {Q : Value → Shared → Prop} (hl : IsTup s.heap l vs.toArray) (e : EachIs R vs bs) (er : EachIs (fun v b => ∃ as, Reads s.heap v (enc b) as) vs bs)
    (hal : AllAlike (bs.map enc)) (hk : Sortable (bs.map enc)) (hL : bs.length ≤ sizeLine) (hu : ∀ b, b ∈ bs → A.units + 2 + (enc b).depth < cLine)
    (h : ∀ out, out.length = bs.length → EachIs R out (bs.mergeSort (dataLe false enc)) → Q (.ref (s.heap.objs.size + 1)) { s with heap := sortedAll s.heap vs (List.toArray out) }) : wpAny (model prog w) A (call (.builtin "sorted") [.ref l]) Q E s := by
  have hv : vs.length ≤ sizeLine := by rw [e.length]; exact hL
  have er' : EachIs (fun v b => ∃ as, Reads (sortingHeap (copyHeap s.heap vs) (s.heap.objs.size + 1) vs) v (enc b) as) vs bs := er.mono fun _ _ ⟨as, r⟩ => ⟨as, PyProof.Rows.Reads.keeps (fun _ _ => sorting_copy_old) r⟩
  refine call_function_entry_kw kind_sorted plain_sorted entry_sorted (args_sorted1 _) ?_
  unfold Builtin.«sorted»
  refine wpAny_bind (m := checkCount "sorted" 1 1 _) (wpAny_pure (wpAny_bind (collect_tup hl hv (wpAny_bind (wpAny_newList ?_ hv)))))
  have sz : ((s.heap.push (seqObj "list" #[] 0)).update s.heap.objs.size (Obj.mapSeq (· ++ vs.toArray))).objs.size = s.heap.objs.size + 1 := by rw [Heap.size_update, size_push']
  show wpAny _ _ _ _ _ { s with heap := copyHeap s.heap vs }
  rw [sz]
  refine wpAny_bind (wpAny_holding (wpAny_call_entry_kw slot_list_sort ⟨_, copyHeap_at s.heap vs, rfl⟩ entry_list_sort ?_ (args_list_sort _)))
  refine list_sort_vals (s := { s with heap := copyHeap s.heap vs }) (copyHeap_at s.heap vs)
    (SortsAt.data (s := { s with heap := sortingHeap (copyHeap s.heap vs) (s.heap.objs.size + 1) vs }) (each_map (R := fun v d => ∃ as, Reads (sortingHeap (copyHeap s.heap vs) (s.heap.objs.size + 1) vs) v d as) enc er') hal hk (bound_map hu)) hv ?_
  exact ⟨_, rfl, wpAny_pure ⟨_, rfl, h _ (by rw [sortVals_length false rfl]; exact e.length) (sortVals_data false e er' hal)⟩⟩
end
/-- values with the data they stand for, in order -/
abbrev ordD (bs : List (V × PyData)) : List (V × PyData) := bs.mergeSort (dataLe false fun b : V × PyData => b.2)
def rSrt (K : Frag) : List V → Hp → VK → Prop := fun vs H Q => ∃ (a : Addr) (bs : List (V × PyData)), vs = [.ref a] ∧ (SqL K H a (bs.map (·.1)) ∨ SqT K H a (bs.map (·.1))) ∧ (∀ b ∈ bs, Dp K H b.1 b.2) ∧ AllAlike (bs.map (·.2)) ∧ Sortable (bs.map (·.2)) ∧
  (∀ b ∈ bs, b.2.depth ≤ 50) ∧ ∀ p, H p = none → Q (.ref p) (upd H p (.lst ((ordD bs).map (·.1))))
section
variable {X : Cx}
theorem cr_srt (hu : X.A.units + 64 < cLine) : CallR X (.builtin "sorted") (rSrt X.K) := by
  intro pins s σ H vs us Q I r h
  obtain ⟨a, bs, rfl, hs, hd, hal, hk, hdp, q⟩ := h
  rw [Vals.ref1 r]
  have fin : ∀ its : List Value, Vals (bs.map (·.1)) its → (bs.map (·.1)).length ≤ sizeLine → ∀ out : List Value, EachIs (fun u b => RelV b.1 u) out (ordD bs) →
      EP X pins σ Q (.ref (s.heap.objs.size + 1)) { s with heap := sortedAll s.heap its (List.toArray out) } := fun its rv hz out h2 => by
    have ro := each_out (fun b : V × PyData => b.1) h2
    obtain ⟨ep, he'⟩ := PyProof.Rows.sortedAll_at s.heap its out.toArray
    have hl2 : ((ordD bs).map (·.1)).length ≤ sizeLine := by
      rw [List.length_map, List.length_mergeSort, ← List.length_map (f := (·.1))]
      exact hz
    exact ⟨.ref _, upd H (s.heap.objs.size + 1) (.lst ((ordD bs).map (·.1))), I.laid (t' := s.toks) (fun _ _ => PyProof.Rows.sortedAll_old) (Nat.le_succ _) ⟨hl2, out, ep, ro, by simpa using he'⟩, rfl, q _ (I.hok.fresh (Nat.le_succ _))⟩
  rcases hs with hs | hs
  · obtain ⟨its, rv, hl, hz⟩ := I.list hs
    have e0 := each_in (fun b : V × PyData => b.1) rv
    exact sorted_data (enc := fun b : V × PyData => b.2) hl.isList e0 (each_and e0 fun u b hb r => Dp.reads I b.2 b.1 u (hd b hb) r) hal hk (by rw [List.length_map] at hz; exact hz) (fun b hb => by have := hdp b hb; omega) fun out h1 h2 => fin its rv hz out h2
  · obtain ⟨its, rv, hl, hz⟩ := I.tuple hs
    have e0 := each_in (fun b : V × PyData => b.1) rv
    exact sortedT_data (enc := fun b : V × PyData => b.2) hl e0 (each_and e0 fun u b hb r => Dp.reads I b.2 b.1 u (hd b hb) r) hal hk (by rw [List.length_map] at hz; exact hz) (fun b hb => by have := hdp b hb; omega) fun out h1 h2 => fin its rv hz out h2

/-! ### repr -/
def rRepr (K : Frag) : List V → Hp → VK → Prop := fun vs H Q => ∃ (a : Addr) (d : PyData), vs = [.ref a] ∧ Dp K H (.ref a) d ∧ d.showable = true ∧ d.hasDict = false ∧ d.depth ≤ 50 ∧ d.shown.length ≤ sizeLine ∧ Q (.str d.shown) H
theorem guards0 {k : Nat} {A : Around} (hr : Room k A) (h : A.guards = some []) : A.guards = some [] := h
theorem cr_repr (hu : X.A.units + 64 < cLine) (hg : X.A.guards = some []) : CallR X (.builtin "repr") (rRepr X.K) := by
  intro pins s σ H vs us Q I r h
  obtain ⟨a, d, rfl, hd, hs, hn, hdp, hz, q⟩ := h
  rw [Vals.ref1 r]
  obtain ⟨as, rd⟩ := Dp.reads I d (.ref a) (.ref a) hd rfl
  exact repr_of_reads' rd hs (PyData.noDict_hsm hn) hg (by omega) (fun _ _ e => e) (fun h' u tk hk => ⟨.str d.shown, H, I.kept hk, ⟨_, rfl⟩, q⟩) hz
theorem cr_reprB : CallR X (.builtin "repr") (fun vs H Q => ∃ b : Bool, vs = [.bl b] ∧ Q (.str (if b then "True" else "False")) H) := by
  intro pins s σ H vs us Q I r h
  obtain ⟨b, rfl, q⟩ := h
  obtain ⟨u, rfl, e⟩ := vals1 r
  obtain rfl : u = Value.bool b := e
  exact PySem.P.repr_of_bool ⟨.str _, H, I.tok _, ⟨_, rfl⟩, q⟩

/-! ### x in t, t a tuple of data -/
def rInT (K : Frag) : R2 := fun x y H Q => ∃ d ds, Dp K H x d ∧ Dp K H y (.tuple ds) ∧ SeqAt.shaped d = true ∧ SeqAt.shaped (.list ds) = true ∧ Q (.bl (ds.any fun z => PyData.eqv z d)) H
theorem op_inT (hu : X.A.units + 65 < cLine) : OpR X (compareOp .In) (rInT X.K) := by
  intro pins s σ H x y v u Q I rx ry h
  obtain ⟨d, ds, hd, he, sd, se, q⟩ := h
  obtain ⟨as, r1⟩ := Dp.reads I d x v hd rx
  obtain ⟨bs, r2⟩ := Dp.reads I (.tuple ds) y u he ry
  exact SeqAt.in_tuple_reads r2 r1 (SeqAt.canLay_of_shaped se) (SeqAt.canLay_of_shaped sd) (room_in_shaped sd hu) ⟨.bl _, H, I, rfl, q⟩
end


end Cb

/-! Defs that are called where no repr is under way. -/
namespace Cb
open PySem PySem.Spec PyProof.Rows L2 PySem.W
/-- nothing stands around that a repr would meet again -/
def Gu (A : Around) : Prop := A.guards = some []
structure FnG (P : Program) (w : World) (K : Frag) (mg : Str → Option Value) (base : Heap) (k : Nat) (f : Addr) (fd : FuncData) (ps : List Str) (sp : Sp) : Prop where
  ln : ∀ vs H Q E, sp vs H Q E → vs.length = ps.length
  go : ∀ (A : Around) (out : List Env) (s : Shared) (H : Hp) (ar : Args) (us : List Value) (vs : List V) (Q : VK) (E : XK), Gu A → Room k A → Env0 P w K mg base A out s H →
    BindsTo s fd ar (ps.zip us) → Vals vs us → sp vs H Q E → codeAny (model P w) A (.call (.ref f) ar) (CR CX0 out P w H s Q E) s
theorem FnG.of {P : Program} {w : World} {K : Frag} {mg : Str → Option Value} {base : Heap} {k : Nat} {f : Addr} {fd : FuncData} {ps : List Str} {sp : Sp} (F : FnOk P w K mg base CX0 k f fd ps sp) : FnG P w K mg base k f fd ps sp :=
  ⟨F.len, fun A out s H ar us vs Q E _ hr => F.run A out s H ar us vs Q E hr⟩
theorem FnG.up {P : Program} {w : World} {K : Frag} {mg : Str → Option Value} {base : Heap} {j k : Nat} {f : Addr} {fd : FuncData} {ps : List Str} {sp : Sp} (F : FnG P w K mg base j f fd ps sp) (h : j ≤ k) : FnG P w K mg base k f fd ps sp :=
  ⟨F.ln, fun A out s H ar us vs Q E g hr => F.go A out s H ar us vs Q E g (hr.mono h)⟩
section
variable {P : Program} {w : World} {K : Frag} {mg : Str → Option Value} {base : Heap}
/-- a def's body, with that said of what stands around -/
theorem fnG_mk {x q : Str} {st : Stmt} {f : Addr} {fd : FuncData} {N ps : List Str} {k : Nat} {sp : Sp} (F : Fun K x q st f fd) (S : FnScope N ps (defScope st)) (ln : ∀ vs H Q E, sp vs H Q E → vs.length = ps.length)
    (hb : ∀ (cdv : Value) (A : Around) (out : List Env) (s : Shared) (H : Hp) (vs : List V) (Q : VK) (E : XK), Gu A → Room k (A.deeper (envOfC q (defScope st) s.heap.objs.size f cdv)) → sp vs H Q E →
      ∃ t, PSs (cxOf CX0 P w K mg base N q (defScope st) f cdv A out s H E).nox (defBody st) t ∧ t { nx := fun _ H' => Q .non H', rt := Q } (start N vs) H) : FnG P w K mg base (k + 1) f fd ps sp := by
  obtain ⟨oc, od, kV, doc, pm, an, cdv, ct, osl, rfl, lk, hcd⟩ := F.ex
  refine ⟨ln, fun A out s H ar us vs Q E g hr e0 hbi r hsp => ?_⟩
  -- the promise of this one entry, as if it were made for all
  have one : ∀ (B : Around) (o2 : List Env) (s2 : Shared) (H2 : Hp) (v2 : List V) (Q2 : VK) (E2 : XK), Room k (B.deeper (envOfC q (defScope st) s2.heap.objs.size f cdv)) → (Gu B ∧ sp v2 H2 Q2 E2) →
      ∃ t, PSs (cxOf CX0 P w K mg base N q (defScope st) f cdv B o2 s2 H2 E2) (defBody st) t ∧ t { nx := fun _ H' => Q2 .non H', rt := Q2 } (start N v2) H2 := fun B o2 s2 H2 v2 Q2 E2 hr2 h2 => by
    obtain ⟨t, h, z⟩ := hb cdv B o2 s2 H2 v2 Q2 E2 h2.1 hr2 h2.2
    exact ⟨t, h.nox, z⟩
  have hl := ln _ _ _ _ hsp
  have KX : K.In s.heap := e0.mod.kin.keeps fun b o e => (e0.bs b o e).1
  have lim : s.heap.NoLimit := e0.mod.nolimit.keeps fun b o e => (e0.bs b o e).1
  refine codeAny_call_function hr.depth (KX _ _ lk) rfl S.co S.gen rfl (codeRec_of KX hcd) (hbi _ _ _ _ ?_)
  refine wpAny_newFunctionEnv_cells S.kind (fun ⟨n, v⟩ hy => ?_) fun env he s1 x => ?_
  · rcases S.par n (List.of_mem_zip hy).1 with z | z
    · exact .inl z
    · exact .inr ⟨z, cellsFrom_some _ _ _ (.inl z)⟩
  · subst he
    refine ⟨lim.keeps x.toInCall.keep, codeAny_func ?_⟩
    obtain ⟨t, ht, hq⟩ := one A out s H vs Q E (hr.deeper _) ⟨g, hsp⟩
    refine wpAny_mono (ht.run [] s1 (start N vs) H _ (inv_start S hr.hd e0 hl r x) hq) (fun fl s' hs => ?_) fun e s' hs => hs
    cases fl with
    | ret u => exact let ⟨v, _, H', J, rv, z⟩ := hs; ⟨v, H', J.os, J.bare, J.base, J.hok, rv, z⟩
    | next => exact let ⟨_, H', J, z⟩ := hs; ⟨V.non, H', J.os, J.bare, J.base, J.hok, rfl, z⟩
    | brk => exact let ⟨_, _, _, z⟩ := hs; False.elim z
    | cont => exact let ⟨_, _, _, z⟩ := hs; False.elim z
end
section
variable {X : Cx} {k : Nat} {f : Addr} {fd : FuncData} {ps : List Str} {sp : Sp} {x : Str} {p pos : Pos} {e : Expr} {es : List Expr} {t : TA}
theorem runG {pins : List (Addr × Obj)} {σ : L2.St} {H : Hp} {s : Shared} {Q : VK} {us : List Value} {vs : List V} (F : FnG X.prog X.w X.K X.mg X.base k f fd ps sp) (g : Gu X.A) (hr : Room k X.A) (hb : Binds X.K fd ps []) (I : Inv X pins σ H s) (r : Vals vs us)
    (h : sp vs H Q E0) : wpAny (model X.prog X.w) X.A (call (.ref f) us) (EP X pins σ Q) X.xe s := by
  have hl : (us ++ ([] : List Value)).length = ps.length := by rw [List.append_nil, ← r.length]; exact F.ln _ _ _ _ h
  have hz := hb s us I.kIn hl
  rw [List.append_nil] at hz
  refine wpAny_call (codeAny_mono (F.go X.A X.stack s H ⟨us, []⟩ us vs Q E0 g hr I.env0 hz r h) fun z s' hq => ?_)
  match z, hq with
  | .ok (.ret u), hq => exact I.after hq
  | .ok .next, hq => exact False.elim hq
  | .ok .brk, hq => exact False.elim hq
  | .ok .cont, hq => exact False.elim hq
  | .error _, hq => exact False.elim hq
/-- f(e, ..) of such a def -/
theorem pe_callG (F : FnG X.prog X.w X.K X.mg X.base k f fd ps sp) (g : Gu X.A) (hr : Room k X.A) (hg : Gl X x) (hm : X.mg x = some (.ref f)) (hk : keepIn X.K (.ref f) = true) (hb : Binds X.K fd ps [])
    (ha : PA X (e :: es) t) (hdb : (x == ("__debug__" : Str)) = false := by decide) (he : starEach (e :: es) X.env = (false, eval e X.env) :: starEach es X.env := by rfl) (hpl : (backTo pos (starEach es X.env)).any (·.1) = false := by rfl) :
    PE X (.Call (.Name x p) (e :: es) [] pos) (tCall sp [] E0 t) := by
  refine ⟨fun pins s σ H Q I h => wpAny_Call_Name_kw (ld_glob I hg hm ?_ hdb)⟩
  refine callWith_K (h₀ := X.base) I.ok.mod.kin hk (thn (ha.run pos pins s σ H _ I h) fun us s1 ⟨vs, H1, I1, r, q⟩ => ⟨I1.kIn, ?_⟩) he hpl
  have q1 : sp (vs ++ []) H1 Q E0 := q
  rw [List.append_nil] at q1
  exact runG F g hr hb I1 r q1
end

/-! ### the end of a law's row -/
theorem lawG {P : Program} {w : World} {K : Frag} {mg mb : Str → Option Value} {k : Nat} {fa a : Addr} {fd : FuncData} {x : Str} {sp : Sp} {s₁ : Shared} {vs : List Value} {ns : List Int}
    (KX : K.In s₁.heap) (hns : s₁.heap.Ns mainGlobals mg) (hb : s₁.heap.Ns builtinsNs mb) (hbb : ∀ x : Str, x ≠ "__name__" → mb x = bootBuiltins x) (hlim : s₁.heap.NoLimit) (hg : s₁.gens = #[])
    (ha : s₁.heap.get? a = some { cls := .type "list", data := .seq vs.toArray }) (hi : IntsAre vs ns) (hl : ns.length ≤ sizeLine) (hr : Room k callerA)
    (F : ∀ base : Heap, K.In base → base.Ns mainGlobals mg → FnG P w K mg base k fa fd [x] sp) (hbind : ∀ (s : Shared) (u : Value), BindsTo s fd ⟨[u], []⟩ [(x, u)])
    (hsp : ∀ H : Hp, Only H → SqL K H a (ns.map V.int) → sp [.ref a] H (fun v _ => v = .bl true) fun _ _ _ => False) :
    codeAny (model P w) callerA (.call (.ref fa) ⟨[.ref a], []⟩) (fun r s' => r = .ok (.ret (.bool true)) ∧ OldK s₁.heap s'.heap ∧ s'.os = s₁.os ∧ AllBare s'.gens) s₁ := by
  have main : ∀ H : Hp, Only H → SqL K H a (ns.map V.int) → HOk P w H s₁.heap → (∀ b, H b ≠ none → b = a ∧ K.lookup a = none) →
      codeAny (model P w) callerA (.call (.ref fa) ⟨[.ref a], []⟩) (fun r s' => r = .ok (.ret (.bool true)) ∧ OldK s₁.heap s'.heap ∧ s'.os = s₁.os ∧ AllBare s'.gens) s₁ := by
    intro H hO hS hok hA
    have off : ∀ {b : Addr}, b ≠ a → H b = none := fun {b} n => Classical.byContradiction fun z => n (hA b z).1
    have dict_off : ∀ {b : Addr} {o : Obj} {es : Array DictEntry} {ep : Nat}, s₁.heap.get? b = some o → o.data = .dict es ep → b ≠ a := fun {b o es ep} e d z => by
      subst z
      rw [ha] at e
      cases e
      exact nomatch (show Data.seq vs.toArray _ = Data.dict es ep from d)
    have ns_ : ∀ {b : Addr} {m : Str → Option Value}, s₁.heap.Ns b m → (hidT s₁.heap H).Ns b m := fun {b m} ⟨o, es, ep, e, d, r⟩ => ⟨o, es, ep, hidT_get e (off (dict_off e d)), d, r⟩
    have k_ : K.In (hidT s₁.heap H) := fun b o e => hidT_get (KX b o e) (Classical.byContradiction fun z => by
      obtain ⟨z1, z2⟩ := hA b z
      rw [z1, z2] at e
      cases e)
    have e0 : Env0 P w K mg (hidT s₁.heap H) callerA [] s₁ H :=
      ⟨rfl, ⟨k_, ns_ hns, ⟨mb, ns_ hb, hbb⟩, let ⟨mc, h1, h2⟩ := hlim; ⟨mc, ns_ h1, h2⟩⟩, fun b o e => of_hidT e, Nat.le_of_eq (hidT_size _ _), trivial, fun b z => absurd (show b ∈ ([] : List Addr) from z) (by simp), hok, .of_eq hg⟩
    refine codeAny_mono ((F _ k_ (ns_ hns)).go callerA [] s₁ H ⟨[.ref a], []⟩ [.ref a] [.ref a] _ _ rfl hr e0 (hbind s₁ (.ref a)) (.cons rfl .nil) (hsp H hO hS)) fun r s' h => ?_
    match r, h with
    | .ok (.ret u), h =>
      obtain ⟨v, H', os, bare, un, hok', r', q⟩ := h
      obtain rfl : v = .bl true := q
      obtain rfl : u = Value.bool true := r'
      refine ⟨rfl, OldK.of_keep fun b o e => ?_, os, bare⟩
      cases q : H b with
      | none => exact un.keep b o e q (fun z => absurd (show b ∈ ([] : List Addr) from z) (by simp)) (by simp)
      | some u =>
        rcases hO b with z | ⟨ob, xs, z⟩
        · exact absurd (q.symm.trans z) (by simp)
        · have e1 := (hok b _ z).1
          have e2 := (hok' b _ (un.frzs b ob _ z)).1
          rw [e] at e1
          cases e1
          exact e2
    | .ok .next, h => exact False.elim h
    | .ok .brk, h => exact False.elim h
    | .ok .cont, h => exact False.elim h
    | .error _, h => exact False.elim h
  cases hk : K.lookup a with
  | some o =>
    have e := KX a o hk
    rw [ha] at e
    cases e
    exact main (fun _ => none) (fun _ => .inl rfl) (.inr ⟨_, vs.toArray, _, hk, rfl, rfl, rfl, by rw [List.size_toArray, hi.length]; exact hl, by simpa using vals_ints hi⟩) (fun b u z => nomatch (show (none : Option HO) = some u from z)) fun b z => absurd rfl z
  | none =>
    have here : (if a = a then some (HO.frz { cls := .type "list", data := .seq vs.toArray } (.lst (ns.map V.int))) else none) = some (HO.frz { cls := .type "list", data := .seq vs.toArray } (.lst (ns.map V.int))) := if_pos rfl
    refine main (fun b => if b = a then some (.frz { cls := .type "list", data := .seq vs.toArray } (.lst (ns.map V.int))) else none) (fun b => ?_) (.inl (.inr ⟨_, here⟩)) (fun b u z => ?_) (fun b z => ?_)
    · by_cases hb : b = a
      · exact .inr ⟨_, _, if_pos hb⟩
      · exact .inl (if_neg hb)
    · by_cases hb : b = a
      · subst hb
        cases here.symm.trans z
        exact ⟨ha, by rw [List.length_map]; exact hl, vs, _, vals_ints hi, ha⟩
      · exact absurd z (by simp [hb])
    · by_cases hb : b = a
      · exact ⟨hb, hk⟩
      · exact absurd (if_neg hb) z
theorem walkG {l : OpenLaw} {n k : Nat} {q : Program} {loose : List Str} {XP : (Str → Option Value) → Heap → Prop} {YP : World → Heap → Prop} {d : DefRec} {K : Params → Frag} {sp : World → Sp} {x : Str}
    (hn : l.most = some n) (hn2 : n ≤ sizeLine) (hdf : d.params.defaults = []) (hr : Room k callerA) (hY : ∀ (w : World) (h : Heap), YP w h → (K w.params).In h)
    (F : ∀ (w : World) (mg : Str → Option Value) (fa : Addr) (h : Heap), (K w.params).In h → h.Ns mainGlobals mg → mg d.name = some (.ref fa) →
      ∃ fd : FuncData, (∀ (s : Shared) (u : Value), BindsTo s fd ⟨[u], []⟩ [(x, u)]) ∧ ∀ base : Heap, (K w.params).In base → base.Ns mainGlobals mg → FnG l.prog w (K w.params) mg base k fa fd [x] (sp w))
    (hsp : ∀ (w : World) (H : Hp) (a : Addr) (ns : List Int), ns.length ≤ n → Only H → SqL (K w.params) H a (ns.map V.int) → sp w [.ref a] H (fun v _ => v = .bl true) fun _ _ _ => False) :
    WalkO q loose XP YP l.row.toRowW d [] (fun f vs => PySem.call f vs) := by
  refine Att.attach_call hn hdf fun w s₀ s₁ mg mb fa o pm cd doc a vs ns G Y ho hd hcd hmg hobj hints hlen hg => ?_
  obtain ⟨fd, hb, hF⟩ := F w mg fa _ (hY w _ Y) G.T.g hmg
  exact lawG (hY w _ Y) G.T.g G.T.b G.T.builtins G.T.nolimit hg hobj hints (Nat.le_trans hlen hn2) hr hF hb fun H hO hS => hsp w H a ns hlen hO hS
end Cb

/-! Comprehensions with three for. -/
namespace Cb
open PySem PySem.Spec PyProof.Rows L2 PySem.W
section turns
variable {prog : Program} {w : World} {A : Around} {R : Result → Shared → Prop} {elt tg i1 : Expr} {gs : List Comprehension} {sc : Scope} {pos : Pos} {k : Nat} {fs : List Expr} {p : Pos} {it acc : Value} {env : Env} {bd : Sem PySem.Fin → Sem PySem.Fin} {s : Shared}
/-- what a turn of clause k does: bd stands for what lies behind its tests, ahead of the next turn -/
def TurnIs (c tg : Expr) (k : Nat) (fs : List Expr) (p : Pos) (it acc : Value) (env : Env) (bd : Sem PySem.Fin → Sem PySem.Fin) : Prop :=
  compTurn c k it acc env = (do
    standAt p
    match ← pyNext it with
    | none => pure (.done .next)
    | some v =>
      letOwnedTupleGo tg it v
      assign tg env v
      let mut ok := true
      for f in fs do
        if ok then ok ← isTrue f env (eval f env)
      if ok then bd (again (.compLoop c k it acc env)) else again (.compLoop c k it acc env))
/-- bd comes to its end, where Z holds -/
def Ends3 (prog : Program) (w : World) (A : Around) (bd : Sem PySem.Fin → Sem PySem.Fin) (Z : Shared → Prop) (s : Shared) : Prop :=
  ∀ (n : Sem PySem.Fin) (Q : PySem.Fin → Shared → Prop) (E : Value → Shared → Prop), (∀ s', Z s' → wpAny (model prog w) A n Q E s') → wpAny (model prog w) A (bd n) Q E s
theorem loopB (ht : TurnIs (.ListComp elt gs sc pos) tg k fs p it acc env bd) (I : Nat → Shared → Prop)
    (turn : ∀ n s, I n s → wpAny (model prog w) A (pyNext it) (fun r s1 => match r with
      | none => R (.ok .next) s1
      | some v => wpAny (model prog w) A (letOwnedTupleGo tg it v) (fun _ s2 => wpAny (model prog w) A (assign tg env v) (fun _ s3 =>
          wpAny (model prog w) A (forIn fs true fun f r => if r = true then do let ok ← isTrue f env (eval f env); pure (ForInStep.yield ok) else pure (ForInStep.yield r)) (fun ok s4 =>
            if ok = true then Ends3 prog w A bd (fun s5 => ∃ m, m < n ∧ I m s5) s4 else ∃ m, m < n ∧ I m s4) (fun _ _ => False) s3) (fun _ _ => False) s2) (fun _ _ => False) s1) (fun _ _ => False) s)
    (n : Nat) (s : Shared) (h : I n s) : codeAny (model prog w) A (.compLoop (.ListComp elt gs sc pos) k it acc env) R s := by
  refine codeAny_loop rfl I (fun n s hI => ?_) n h
  show wpAny _ A ((compTurn (.ListComp elt gs sc pos) k it acc env).onRaise (fun x => do noteFrame x env; theTreesLotGoes x)) _ _ s
  refine wpAny_noted ?_
  rw [show compTurn (.ListComp elt gs sc pos) k it acc env = _ from ht]
  refine wpAny_bind (wpAny_standAt (wpAny_bind (thnF (turn n s hI) fun r s1 h1 => ?_)))
  match r, h1 with
  | none, h1 => exact wpAny_pure h1
  | some v, h1 =>
    refine wpAny_bind (thnF h1 fun _ s2 h2 => wpAny_bind (thnF h2 fun _ s3 h3 => wpAny_bind (thnF h3 fun ok s4 h4 => ?_)))
    cases ok with
    | false => exact wpAny_pure ⟨rfl, h4⟩
    | true => exact h4 _ _ _ fun s5 h5 => wpAny_pure ⟨rfl, h5⟩
/-- where a later clause begins -/
def NextIs (c i1 : Expr) (k : Nat) (acc : Value) (env : Env) (n : Sem PySem.Fin) : Sem PySem.Fin := do
  let x ← eval i1 env
  standAt i1.pos
  let x ← foldedSetIterable i1 env x
  let _ ← runOwn (.compStart c k (← holding [x] (pyIter x)) acc env) env
  n
def LastIs (elt : Expr) (acc : Value) (env : Env) (n : Sem PySem.Fin) : Sem PySem.Fin := do
  (do let _ ← call (.builtin "list.append") [acc, ← eval elt env])
  n
theorem last_ok {Z : Shared → Prop} (h : wpAny (model prog w) A (eval elt env) (fun x s1 => wpAny (model prog w) A (call (.builtin "list.append") [acc, x]) (fun _ s2 => Z s2) (fun _ _ => False) s1) (fun _ _ => False) s) : Ends3 prog w A (LastIs elt acc env) Z s := by
  intro n Q E hn
  unfold LastIs
  exact wpAny_bind (wpAny_bind (thnF h fun x s1 h1 => wpAny_bind (thnF h1 fun _ s2 h2 => wpAny_pure (hn s2 h2))))
theorem next_ok {c : Expr} {Z : Shared → Prop} (hs : ∀ x, foldedSetIterable i1 env x = pure x)
    (h : wpAny (model prog w) A (eval i1 env) (fun x s1 => wpAny (model prog w) A (pyIter x) (fun it1 s2 => codeAny (model prog w) A (.compStart c k it1 acc env) (fun r s3 => match r with
      | .ok _ => Z s3
      | .error _ => False) s2) (fun _ _ => False) s1) (fun _ _ => False) s) : Ends3 prog w A (NextIs c i1 k acc env) Z s := by
  intro n Q E hn
  unfold NextIs
  refine wpAny_bind (thnF h fun x s1 h1 => wpAny_bind (wpAny_standAt (wpAny_bind (wpAny_of_eq (hs x) (wpAny_bind (wpAny_holding (thnF h1 fun it1 s2 h2 => ?_)))))))
  refine wpAny_bind (wpAny_runOwn ?_)
  rw [Around.mark_none]
  refine codeAny_mono h2 fun r s3 hr => ?_
  match r, hr with
  | .ok f, hr => exact hn s3 hr
  | .error e, hr => exact False.elim hr
/-- a later clause's iterator gives itself -/
theorem start_ok (hc : ((gs)[k]?).elim false (fun g => g.is_async != 0) = false) (h0 : codeAny (model prog w) A (.compLoop (.ListComp elt gs sc pos) k it acc env) R s)
    (h : wpAny (model prog w) A (pyIter it) (fun it' s' => codeAny (model prog w) A (.compLoop (.ListComp elt gs sc pos) k it' acc env) R s') (fun _ _ => False) s) :
    codeAny (model prog w) A (.compStart (.ListComp elt gs sc pos) k it acc env) R s := by
  refine codeAny_of_tree ?_
  show wpAny _ _ ((compStart (.ListComp elt gs sc pos) k it acc env).onRaise (fun x => do noteFrame x env; standAt theWindowsPlace)) _ _ s
  refine wpAny_notedAt ?_
  unfold compStart
  rw [show ((clausesOf (.ListComp elt gs sc pos))[k]?).elim false (fun g => g.is_async != 0) = false from hc]
  show wpAny _ _ (ask >>= _) _ _ s
  refine wpAny_bind (wpAny_askSetting (wpAny_ite ?_))
  split
  · exact wpAny_pure (And.intro rfl h0)
  · refine wpAny_bind (wpAny_rule ?_)
    have jp : wpAny (model prog w) A (pyIter it >>= fun l => again (.compLoop (.ListComp elt gs sc pos) k l acc env)) (fun f s' => match f with
        | .done f => R (.ok f) s'
        | .again c' => c'.quiet = true ∧ codeAny (model prog w) A c' R s') (fun _ _ => False) s := wpAny_bind (thnF h fun it' s' h' => wpAny_pure ⟨rfl, h'⟩)
    show wpAny _ _ (match (clausesOf (.ListComp elt gs sc pos))[k]? with
      | some g => standAt g.iter.pos >>= fun _ => (pyIter it >>= fun l => again (.compLoop (.ListComp elt gs sc pos) k l acc env))
      | _ => (pyIter it >>= fun l => again (.compLoop (.ListComp elt gs sc pos) k l acc env))) _ _ s
    split
    · exact wpAny_bind (wpAny_standAt (thnF jp fun _ _ z => z))
    · exact thnF jp fun _ _ z => z
end turns
section forms
variable (elt t0 i0 t1 i1 t2 i2 : Expr) (f0 f1 f2 : List Expr) (sc : Scope) (pos : Pos) (it acc : Value) (env : Env)
abbrev c3 : Expr := .ListComp elt [⟨t0, i0, f0, 0⟩, ⟨t1, i1, f1, 0⟩, ⟨t2, i2, f2, 0⟩] sc pos
theorem turn3_0 : TurnIs (c3 elt t0 i0 t1 i1 t2 i2 f0 f1 f2 sc pos) t0 0 f0 i0.pos it acc env (NextIs (c3 elt t0 i0 t1 i1 t2 i2 f0 f1 f2 sc pos) i1 1 acc env) := by
  unfold TurnIs NextIs
  rfl
theorem turn3_1 : TurnIs (c3 elt t0 i0 t1 i1 t2 i2 f0 f1 f2 sc pos) t1 1 f1 i1.pos it acc env (NextIs (c3 elt t0 i0 t1 i1 t2 i2 f0 f1 f2 sc pos) i2 2 acc env) := by
  unfold TurnIs NextIs
  rfl
theorem turn3_2 : TurnIs (c3 elt t0 i0 t1 i1 t2 i2 f0 f1 f2 sc pos) t2 2 f2 i2.pos it acc env (LastIs elt acc env) := by
  unfold TurnIs LastIs
  rfl
end forms
end Cb

namespace Cb
open PySem PySem.Spec PyProof.Rows L2 PySem.W
abbrev Stt := List (Option V)
abbrev TB := Stt → Hp → (Hp → Prop) → Prop
/-- what a clause's end asks: the element, laid behind the list at D -/
def tEnd (te : TE) (D : Addr) : TB := fun σ H N => te σ H fun y H1 => ∃ acc, H1 D = some (.lst acc) ∧ acc.length < sizeLine ∧ N (upd H1 D (.lst (acc ++ [y])))
/-- what a later clause asks -/
def tCl (wi : TI) (g : TG) (tt : TT) (tb : TB) (vs : List Nat) : TB := fun σ H N => wi σ H fun J H1 => ∃ W : Nat → Nat → Hp → Prop, (∃ m, W 0 m H1) ∧ ∀ j m H, W j m H →
  (J.stop j H ∧ N H) ∨ (J.go j H ∧ ∃ N1 : Hp → Prop, (∀ H', N1 H' → ∃ m', m' < m ∧ W (j + 1) m' H') ∧ ∀ x H', J.yld j H x H' → g x (wipe σ vs) H' fun σ2 H2 => wipe σ2 vs = wipe σ vs ∧ tt σ2 H2 fun b H3 => if b = true then tb σ2 H3 N1 else N1 H3)
section
variable {Y : Cx} {elt tg i1 : Expr} {gs : List Comprehension} {sc : Scope} {pos p : Pos} {k : Nat} {fs : List Expr} {D : Addr} {bd : Sem PySem.Fin → Sem PySem.Fin} {wi : TI} {g : TG} {tt : TT} {te : TE} {tb : TB} {vI vs : List Nat}
/-- bd keeps the block and does what tb asks; the slots vI are forgotten behind it -/
def Bd (Y : Cx) (bd : Sem PySem.Fin → Sem PySem.Fin) (tb : TB) (vI : List Nat) : Prop := ∀ (pins : List (Addr × Obj)) (σ : Stt) (H : Hp) (s : Shared) (N : Hp → Prop), Inv Y pins σ H s → tb σ H N →
  Ends3 Y.prog Y.w Y.A bd (fun s' => ∃ H', Inv Y pins (wipe σ vI) H' s' ∧ N H') s
theorem bd_last (hx : Y.xe = fun _ _ => False) (he : PE Y elt te) : Bd Y (LastIs elt (.ref D) Y.env) (tEnd te D) [] := by
  intro pins σ H s N I h
  have q := he.run pins s σ H _ I h
  rw [hx] at q
  refine last_ok (thnF q fun x s1 hz => ?_)
  obtain ⟨yv, H1, I1, r1, acc, hD, hl, nx⟩ := hz
  exact app_ok I1 hD hl r1 fun s2 I2 => ⟨_, I2, nx⟩
theorem bd_clause (hx : Y.xe = fun _ _ => False) (hc : Y.calm = true) (tu : ∀ it, TurnIs (.ListComp elt gs sc pos) tg k fs p it (.ref D) Y.env bd) (hgs : ((gs)[k]?).elim false (fun g => g.is_async != 0) = false)
    (hs : ∀ x, foldedSetIterable i1 Y.env x = pure x) (hi : PI Y tg i1 wi) (hg : PG Y tg g) (ht : PTs Y fs tt) (hb : Bd Y bd tb vI) (hv : ∀ i ∈ vI, i ∈ vs) :
    Bd Y (NextIs (.ListComp elt gs sc pos) i1 k (.ref D) Y.env) (tCl wi g tt tb vs) vs := by
  intro pins σ H s N I h
  have q := hi.run pins s σ H _ I h
  rw [hx] at q
  refine next_ok hs (thnF q fun xv s1 hz => thnF hz fun itv s2 h2 => ?_)
  obtain ⟨it, fp, tn, J, H2, rfl, I2, T, st2, f2, W, ⟨m0, w0⟩, tr⟩ := h2
  have fpk : ∀ {H' : Hp}, (∀ b ∈ fp, H' b = none) → ∀ b ∈ fp, FpOk Y pins H' b := fun n b hb => ⟨n b hb, (f2 b hb).2⟩
  have lp : codeAny (model Y.prog Y.w) Y.A (.compLoop (.ListComp elt gs sc pos) k (.ref it) (.ref D) Y.env) (fun r s3 => match r with
      | .ok _ => ∃ H', Inv Y pins (wipe σ vs) H' s3 ∧ N H'
      | .error _ => False) s2 := by
    refine loopB (tu _) (fun n s' => ∃ j H', Inv Y pins (wipe σ vs) H' s' ∧ tn j s'.heap ∧ (∀ b ∈ fp, H' b = none) ∧ W j n H') (fun n s3 h3 => ?_) m0 s2 ⟨0, H2, I2.weak (wipe_length _ _) (fun _ _ e => (wipe_some e).1), st2, fun b hb => (f2 b hb).1, w0⟩
    obtain ⟨j, H3, I3, st3, n3, w3⟩ := h3
    rcases tr j n H3 w3 with ⟨stop, nx⟩ | ⟨go, N1, hN, step⟩
    · refine thnF (T.done Y rfl rfl rfl hc j pins s3 _ H3 (fun _ _ => False) I3 (fpk n3) st3 stop) fun r s4 hr => ?_
      obtain ⟨rfl, I4⟩ := hr
      exact ⟨H3, I4, nx⟩
    · refine thnF (T.item Y rfl rfl rfl hc j pins s3 _ H3 (fun _ _ => False) I3 (fpk n3) st3 go) fun r s4 hr => ?_
      obtain ⟨u, rfl, h4⟩ := hr
      refine thnF h4 fun _ s5 h5 => ?_
      obtain ⟨x, H5, I5, r5, y5, st5, n5⟩ := h5
      have a1 := hg.run _ s5 _ H5 x u _ (I5.pinned (fpk n5) (T.obj _ _ st5)) r5 (step x H5 y5)
      rw [hx] at a1
      refine thnF a1 fun _ s6 h6 => ?_
      obtain ⟨σ6, H6, I6, e6, q6⟩ := h6
      have a2 := ht.run _ s6 σ6 H6 _ I6 q6
      rw [hx] at a2
      refine thnF a2 fun b s7 h7 => ?_
      obtain ⟨H7, I7, q7⟩ := h7
      have back : ∀ {σ8 : Stt} {s' : Shared} {H' : Hp}, Inv Y (pins ++ pinsAt fp s5.heap) σ8 H' s' → σ8.length = σ6.length → (∀ (i : Nat) v, (wipe σ vs)[i]? = some (some v) → σ8[i]? = some (some v)) → N1 H' →
          ∃ m, m < n ∧ ∃ j H', Inv Y pins (wipe σ vs) H' s' ∧ tn j s'.heap ∧ (∀ b ∈ fp, H' b = none) ∧ W j m H' := fun {σ8 s' H'} I' hl hk nx => by
        obtain ⟨m', hm, w'⟩ := hN H' nx
        have at_ : ∀ b ∈ fp, ∀ o, s5.heap.get? b = some o → s'.heap.get? b = some o ∧ H' b = none := fun b hb o e =>
          ⟨(I'.pin (b, o) (List.mem_append_right _ (List.mem_append_right _ (mem_pinsAt hb e)))).1, (I'.pin (b, o) (List.mem_append_right _ (List.mem_append_right _ (mem_pinsAt hb e)))).2.1⟩
        refine ⟨m', hm, j + 1, H', I'.unpinned.weak (by rw [hl, ← wipe_length σ6 vs, e6]) hk, T.keep _ _ _ st5 fun b hb o e => (at_ b hb o e).1, fun b hb => ?_, w'⟩
        obtain ⟨o, e, _⟩ := T.obj _ _ st5 b hb
        exact (at_ b hb o e).2
      have k6 : ∀ (i : Nat) v, (wipe σ vs)[i]? = some (some v) → σ6[i]? = some (some v) ∧ i ∉ vs := fun i v e => by
        rw [← e6] at e
        exact wipe_some e
      cases b with
      | false => exact back I7 rfl (fun i v e => (k6 i v e).1) q7
      | true =>
        intro nn QQ EE hn
        refine hb _ σ6 H7 s7 N1 I7 q7 nn QQ EE fun s8 h8 => hn s8 ?_
        obtain ⟨H8, I8, nx⟩ := h8
        refine back I8 (wipe_length _ _) (fun i v e => ?_) nx
        rw [wipe_out fun z => (k6 i v e).2 (hv i z)]
        exact (k6 i v e).1
  exact start_ok hgs lp (T.self Y.A 0 _ _ _ st2 lp)
end
section
variable {X : Cx}
/-- [elt for t0 in i0 for t1 in i1 for t2 in i2 ..]: D the new list -/
def tLcN (wi : TI) (g : TG) (tt : TT) (tb : Addr → TB) (vs : List Nat) : TE := fun σ H Q => wi σ H fun J H1 => ∀ D, H1 D = none → ∃ W : Nat → Nat → Hp → Prop, (∃ m, W 0 m (upd H1 D (.lst []))) ∧ ∀ i m H, W i m H →
  (J.stop i H ∧ Q (.ref D) H) ∨ (J.go i H ∧ ∃ N : Hp → Prop, (∀ H', N H' → ∃ m', m' < m ∧ W (i + 1) m' H') ∧ ∀ x H', J.yld i H x H' → g x (wipe σ vs) H' fun σ2 H2 => wipe σ2 vs = wipe σ vs ∧ tt σ2 H2 fun b H3 => if b = true then tb D σ2 H3 N else N H3)
theorem lcN_ok {elt tg iter : Expr} {ifs : List Expr} {rest : List Comprehension} {scope : Scope} {own : List (Str × Nat)} {pos : Pos} {wi : TI} {g : TG} {tt : TT} {tb : Addr → TB} {vI : List Nat} {bd : Addr → Env → Sem PySem.Fin → Sem PySem.Fin}
    (hc : X.calm = true) (hN : X.N.Nodup) (hi : PI X tg iter wi) (ok : BlkOk X.N X.env.scope scope own) (hs : ∀ x, foldedSetIterable iter X.env x = pure x)
    (tu : ∀ (it D : Addr) (env : Env), TurnIs (.ListComp elt (⟨tg, iter, ifs, 0⟩ :: rest) scope pos) tg 0 ifs iter.pos (.ref it) (.ref D) env (bd D env))
    (hg : ∀ (s : Shared) (H : Hp) (C : Addr) (cl : List (Str × Addr)) (fp : List Addr), PG (X.blk s H scope (compEnvC scope cl C X.env) fp) tg g) (ht : ∀ (s : Shared) (H : Hp) (C : Addr) (cl : List (Str × Addr)) (fp : List Addr), PTs (X.blk s H scope (compEnvC scope cl C X.env) fp) ifs tt)
    (hb : ∀ (s : Shared) (H : Hp) (C : Addr) (cl : List (Str × Addr)) (fp : List Addr) (D : Addr), Bd (X.blk s H scope (compEnvC scope cl C X.env) fp) (bd D (compEnvC scope cl C X.env)) (tb D) vI) (hv : ∀ i ∈ vI, i ∈ own.map (·.2)) :
    PE X (.ListComp elt (⟨tg, iter, ifs, 0⟩ :: rest) scope pos) (tLcN wi g tt tb (own.map (·.2))) := by
  refine ⟨fun pins s σ H Q I h => ?_⟩
  rw [eval_ListComp]
  have free_ : ∀ y ∈ scope.names, y.2 = .free → ∃ c, X.env.cells.lookup y.1 = some c := fun y hy e => I.ok.has _ (ok.free y hy e)
  refine wpAny_comprehension_free (use := none) rfl hs (closure_ok free_) ok.kind (fun y hy e => by rw [ok.uniq y hy, e]) (thn (hi.run pins s σ H _ I h) fun xv s1 hz => thn hz fun itv s2 h2 => ?_)
  obtain ⟨it, fp, tn, J, H2, rfl, I2, T, st2, f2, q⟩ := h2
  refine wpAny_newObj_type (newEnv_comp ?_) (by show 0 ≤ sizeLine; decide)
  generalize hD : s2.heap.objs.size = D
  obtain ⟨W, ⟨m0, w0⟩, tr⟩ := q D (I2.hok.fresh (Nat.le_of_eq hD))
  generalize es : ({ s2 with heap := s2.heap.push { cls := .type "list", data := .seq ([] : List Value).toArray } } : Shared) = s3
  have h3 : s3.heap = s2.heap.push { cls := .type "list", data := .seq ([] : List Value).toArray } := by rw [← es]
  have I3 : Inv X pins σ (upd H2 D (.lst [])) s3 := by
    rw [← es]
    refine I2.laid (t' := s2.toks) (fun b o e => Heap.get?_push_of_some _ e) (Nat.le_of_eq hD) ⟨Nat.zero_le _, [], 0, .nil, ?_⟩
    rw [← hD]
    exact Heap.get?_push_size _ rfl
  have f3 : ∀ b ∈ fp, FpOk X pins (upd H2 D (.lst [])) b ∧ b < s3.heap.objs.size := fun b hb => by
    obtain ⟨o, e, _⟩ := T.obj _ _ st2 b hb
    have lt_ := Heap.lt_size e
    refine ⟨⟨?_, (f2 b hb).2⟩, by rw [h3, Heap.size_push]; exact Nat.lt_succ_of_lt lt_⟩
    rw [upd_ne (by rw [← hD]; exact Nat.ne_of_lt lt_)]
    exact (f2 b hb).1
  have st3 : tn 0 s3.heap := T.keep _ _ _ st2 fun b _ o e => by rw [h3]; exact Heap.get?_push_of_some _ e
  have I4 := block_start I3 ok hN f3
  have pg := hg s3 (upd H2 D (.lst [])) s3.heap.objs.size (cellsFrom (s3.heap.objs.size + 1) scope.names (cloFrom X.env.cells scope.names [])) fp
  have pt := ht s3 (upd H2 D (.lst [])) s3.heap.objs.size (cellsFrom (s3.heap.objs.size + 1) scope.names (cloFrom X.env.cells scope.names [])) fp
  have pb := hb s3 (upd H2 D (.lst [])) s3.heap.objs.size (cellsFrom (s3.heap.objs.size + 1) scope.names (cloFrom X.env.cells scope.names [])) fp D
  show codeAny _ _ (.compStart (.ListComp elt (⟨tg, iter, ifs, 0⟩ :: rest) scope pos) 0 (.ref it) (.ref D) (compEnvC scope (cellsFrom (s3.heap.objs.size + 1) scope.names (cloFrom X.env.cells scope.names [])) s3.heap.objs.size X.env)) (compPost (model X.prog X.w) X.A X.xe none _ (.ref D) s3.heap.objs.size) { s3 with heap := pushCells (s3.heap.push { cls := .type "dict", data := .dict #[] }) scope.names }
  have nfp : ∀ b ∈ fp, (upd H2 D (.lst [])) b = none := fun b hb => (f3 b hb).1.1
  have tu0 := tu it D (compEnvC scope (cellsFrom (s3.heap.objs.size + 1) scope.names (cloFrom X.env.cells scope.names [])) s3.heap.objs.size X.env)
  generalize ec : compEnvC scope (cellsFrom (s3.heap.objs.size + 1) scope.names (cloFrom X.env.cells scope.names [])) s3.heap.objs.size X.env = ce at I4 pg pt pb tu0 ⊢
  have cL : ce.locals = s3.heap.objs.size := by subst ec; rfl
  generalize eH : upd H2 D (.lst []) = H3 at I3 I4 pg pt pb w0 nfp f3
  generalize e4 : ({ s3 with heap := pushCells (s3.heap.push { cls := .type "dict", data := .dict #[] }) scope.names } : Shared) = s4 at I4 ⊢
  have st4 : tn 0 s4.heap := T.keep _ _ _ st3 fun b _ o e => by rw [← e4]; exact pushCells_keeps _ _ _ _ (Heap.get?_push_of_some _ e)
  have fpk : ∀ {σ' : Stt} {H' : Hp} {s' : Shared}, Inv (X.blk s3 H3 scope ce fp) [] σ' H' s' → (∀ b ∈ fp, H' b = none) → ∀ b ∈ fp, FpOk (X.blk s3 H3 scope ce fp) [] H' b := fun {σ' H' s'} I' hn b hb =>
    ⟨hn b hb, (I'.ok.exf b hb).1, I'.ok.exfs b hb, .inl hb, fun x c e => (I'.ok.exf b hb).2 x c e, fun p hp => absurd (show p ∈ ([] : List (Addr × Obj)) ++ [] from hp) (by simp)⟩
  have lp : codeAny (model X.prog X.w) X.A (.compLoop (.ListComp elt (⟨tg, iter, ifs, 0⟩ :: rest) scope pos) 0 (.ref it) (.ref D) ce)
      (compPost (model X.prog X.w) X.A X.xe none (EP X pins σ Q) (.ref D) s3.heap.objs.size) s4 := by
    refine loopB tu0 (fun n s' => ∃ i H', Inv (X.blk s3 H3 scope ce fp) [] (wipe σ (own.map (·.2))) H' s' ∧ tn i s'.heap ∧ (∀ b ∈ fp, H' b = none) ∧ W i n H') (fun n s5 h5 => ?_) m0 s4 ⟨0, H3, I4, st4, nfp, w0⟩
    obtain ⟨i, H5, I5, st5, n5, w5⟩ := h5
    rcases tr i n H5 w5 with ⟨stop, qq⟩ | ⟨go, N1, hN1, step⟩
    · refine thnF (T.done (X.blk s3 H3 scope ce fp) rfl rfl rfl hc i [] s5 _ H5 (fun _ _ => False) I5 (fpk I5 n5) st5 stop) fun r s6 hr => ?_
      obtain ⟨rfl, I6⟩ := hr
      have I7 : Inv X pins σ H5 s6 := I3.call' (ch := fp) I6.os I6.base I6.hok I6.bare fun b hb => ⟨(f3 b hb).1.2.2.2.1, (f3 b hb).1.2.1, (f3 b hb).1.2.2.2.2.1, (f3 b hb).1.2.2.2.2.2⟩
      have nC : H5 s3.heap.objs.size = none := by
        rw [← cL]
        exact I6.free
      obtain ⟨m, hn, _⟩ := I6.loc
      have hn : s6.heap.Ns ce.locals m := hn
      rw [cL] at hn
      obtain ⟨g0, g1, _, g3, g4, g5⟩ := I3.fpOk (H' := H5) (Nat.le_refl _) nC
      exact ⟨m, hn, fun h'' sb => ⟨.ref D, H5, I7.turned (t' := s6.toks) (fun b o hb e => (sb.2 b hb).trans e) g0 g1 (by assumption) (by assumption) (by assumption), rfl, qq⟩⟩
    · refine thnF (T.item (X.blk s3 H3 scope ce fp) rfl rfl rfl hc i [] s5 _ H5 (fun _ _ => False) I5 (fpk I5 n5) st5 go) fun r s6 hr => ?_
      obtain ⟨u, rfl, h6⟩ := hr
      refine thnF h6 fun _ s7 h7 => ?_
      obtain ⟨x, H7, I7, r7, y7, st7, n7⟩ := h7
      refine thnF (pg.run _ s7 _ H7 x u _ (I7.pinned (fpk I7 n7) (T.obj _ _ st7)) r7 (step x H7 y7)) fun _ s8 h8 => ?_
      obtain ⟨σ8, H8, I8, e8, q8⟩ := h8
      refine thnF (pt.run _ s8 σ8 H8 _ I8 q8) fun b s9 h9 => ?_
      obtain ⟨H9, I9, q9⟩ := h9
      have back : ∀ {σ9 : Stt} {s' : Shared} {H' : Hp}, Inv (X.blk s3 H3 scope ce fp) ([] ++ pinsAt fp s7.heap) σ9 H' s' → σ9.length = σ8.length → (∀ (j : Nat) v, (wipe σ (own.map (·.2)))[j]? = some (some v) → σ9[j]? = some (some v)) → N1 H' →
          ∃ m, m < n ∧ ∃ i H', Inv (X.blk s3 H3 scope ce fp) [] (wipe σ (own.map (·.2))) H' s' ∧ tn i s'.heap ∧ (∀ b ∈ fp, H' b = none) ∧ W i m H' := fun {σ9 s' H'} I' hl hk nx => by
        obtain ⟨m', hm, w'⟩ := hN1 H' nx
        have at_ : ∀ b ∈ fp, ∀ o, s7.heap.get? b = some o → s'.heap.get? b = some o ∧ H' b = none := fun b hb o e =>
          ⟨(I'.pin (b, o) (List.mem_append_right _ (List.mem_append_right _ (mem_pinsAt hb e)))).1, (I'.pin (b, o) (List.mem_append_right _ (List.mem_append_right _ (mem_pinsAt hb e)))).2.1⟩
        refine ⟨m', hm, i + 1, H', (I'.unpinned (pins := [])).weak (by rw [hl, ← wipe_length σ8 (own.map (·.2)), e8]) hk, T.keep _ _ _ st7 fun b hb o e => (at_ b hb o e).1, fun b hb => ?_, w'⟩
        obtain ⟨o, e, _⟩ := T.obj _ _ st7 b hb
        exact (at_ b hb o e).2
      have k8 : ∀ (j : Nat) v, (wipe σ (own.map (·.2)))[j]? = some (some v) → σ8[j]? = some (some v) ∧ j ∉ own.map (·.2) := fun j v e => by
        rw [← e8] at e
        exact wipe_some e
      cases b with
      | false => exact back I9 rfl (fun j v e => (k8 j v e).1) q9
      | true =>
        intro nn QQ EE hn
        refine pb _ σ8 H9 s9 N1 I9 q9 nn QQ EE fun s10 h10 => hn s10 ?_
        obtain ⟨H10, I10, nx⟩ := h10
        refine back I10 (wipe_length _ _) (fun j v e => ?_) nx
        rw [wipe_out fun z => (k8 j v e).2 (hv j z)]
        exact (k8 j v e).1
  exact codeAny_compStart_list lp (T.self X.A 0 _ _ _ st4 lp)
end
end Cb

/-! Sets of people and lists of crews as data; what a draw may change. -/
namespace Cb
open PySem PySem.Spec PyProof.Rows L2 PySem.W
abbrev PD := PyData
/-! ### pairs of lists -/
theorem prd_get {α β : Type} {F : α → β → Prop} : ∀ {xs : List α} {ys : List β} {i : Nat} {y : β}, Paired F xs ys → ys[i]? = some y → ∃ x, xs[i]? = some x ∧ F x y
  | _, _, _, _, .nil, e => by simp at e
  | _, _, 0, _, .cons r _, e => by simp at e; subst e; exact ⟨_, rfl, r⟩
  | _, _, i + 1, y, .cons _ t, e => by
    obtain ⟨x, h1, h2⟩ := prd_get (i := i) (y := y) t (by simpa using e)
    exact ⟨x, by simpa using h1, h2⟩
theorem prd_getL {α β : Type} {F : α → β → Prop} : ∀ {xs : List α} {ys : List β} {i : Nat} {x : α}, Paired F xs ys → xs[i]? = some x → ∃ y, ys[i]? = some y ∧ F x y
  | _, _, _, _, .nil, e => by simp at e
  | _, _, 0, _, .cons r _, e => by simp at e; subst e; exact ⟨_, rfl, r⟩
  | _, _, i + 1, y, .cons _ t, e => by
    obtain ⟨x, h1, h2⟩ := prd_getL (i := i) (x := y) t (by simpa using e)
    exact ⟨x, by simpa using h1, h2⟩
theorem prd_mono {α β : Type} {F G : α → β → Prop} (h : ∀ a b, F a b → G a b) : ∀ {xs : List α} {ys : List β}, Paired F xs ys → Paired G xs ys
  | _, _, .nil => .nil
  | _, _, .cons r t => .cons (h _ _ r) (prd_mono h t)
theorem prd_app {α β : Type} {F : α → β → Prop} : ∀ {xs : List α} {ys : List β} {xs' : List α} {ys' : List β}, Paired F xs ys → Paired F xs' ys' → Paired F (xs ++ xs') (ys ++ ys')
  | _, _, _, _, .nil, s => s
  | _, _, _, _, .cons r t, s => .cons r (prd_app t s)
theorem prd_take {α β : Type} {F : α → β → Prop} : ∀ {xs : List α} {ys : List β} (n : Nat), Paired F xs ys → Paired F (xs.take n) (ys.take n)
  | _, _, 0, _ => .nil
  | _, _, _ + 1, .nil => .nil
  | _, _, n + 1, .cons r t => .cons r (prd_take n t)
theorem prd_drop {α β : Type} {F : α → β → Prop} : ∀ {xs : List α} {ys : List β} (n : Nat), Paired F xs ys → Paired F (xs.drop n) (ys.drop n)
  | _, _, 0, h => h
  | _, _, _ + 1, .nil => .nil
  | _, _, n + 1, .cons r t => prd_drop n t
theorem prd_len {α β : Type} {F : α → β → Prop} : ∀ {xs : List α} {ys : List β}, Paired F xs ys → xs.length = ys.length
  | _, _, .nil => rfl
  | _, _, .cons r t => congrArg Nat.succ (prd_len t)
theorem prd_map {α β γ δ : Type} {F : γ → δ → Prop} (f : α → γ) (g : β → δ) : ∀ {xs : List α} {ys : List β}, Paired (fun a b => F (f a) (g b)) xs ys → Paired F (xs.map f) (ys.map g)
  | _, _, .nil => .nil
  | _, _, .cons r t => .cons r (prd_map f g t)
theorem prd_fst {α β : Type} {F : α → β → Prop} : ∀ {xs : List α} {ys : List β}, Paired F xs ys → ∃ zs : List (α × β), zs.map (·.1) = xs ∧ zs.map (·.2) = ys ∧ ∀ z ∈ zs, F z.1 z.2
  | _, _, .nil => ⟨[], rfl, rfl, fun _ h => by simp at h⟩
  | _, _, .cons (a := a) (b := b) r t => by
    obtain ⟨zs, h1, h2, h3⟩ := prd_fst t
    refine ⟨(a, b) :: zs, by rw [List.map_cons, h1], by rw [List.map_cons, h2], fun z hz => ?_⟩
    rcases List.mem_cons.mp hz with e | hz
    · rw [e]
      exact r
    · exact h3 z hz
theorem prd_of {α β : Type} {F : α → β → Prop} : ∀ {zs : List (α × β)}, (∀ z ∈ zs, F z.1 z.2) → Paired F (zs.map (·.1)) (zs.map (·.2))
  | [], _ => .nil
  | z :: zs, h => .cons (h z List.mem_cons_self) (prd_of fun y hy => h y (List.mem_cons_of_mem _ hy))

/-! ### sets of people, lists of crews -/
def sD (ns : List Str) : PD := .tuple (ns.map .str)
def tD (ts : List (List Str)) : PD := .tuple (ts.map sD)
def S1 (K : Frag) (H : Hp) (v : V) (ns : List Str) : Prop := ∃ a, v = .ref a ∧ SqT K H a (ns.map V.str)
def S2 (K : Frag) (H : Hp) (v : V) (ts : List (List Str)) : Prop := ∃ a xs, v = .ref a ∧ SqT K H a xs ∧ Paired (S1 K H) xs ts
section
variable {K : Frag} {H H' H0 : Hp}
theorem dpStrs : ∀ ns : List Str, DpAll K H (ns.map V.str) (ns.map PyData.str)
  | [] => .nil
  | n :: ns => .cons (.str n) (dpStrs ns)
theorem S1.dp {v : V} {ns : List Str} (h : S1 K H v ns) : Dp K H v (sD ns) := by
  obtain ⟨a, rfl, h⟩ := h
  exact .tup h (dpStrs ns)
theorem s1s_dp : ∀ {xs : List V} {ts : List (List Str)}, Paired (S1 K H) xs ts → DpAll K H xs (ts.map sD)
  | _, _, .nil => .nil
  | _, _, .cons r t => .cons r.dp (s1s_dp t)
theorem S2.dp {v : V} {ts : List (List Str)} (h : S2 K H v ts) : Dp K H v (tD ts) := by
  obtain ⟨a, xs, rfl, h, t⟩ := h
  exact .tup h (s1s_dp t)
theorem S1.same {v : V} {ns : List Str} (e : Same H H') (h : S1 K H v ns) : S1 K H' v ns := by
  obtain ⟨a, rfl, h⟩ := h
  exact ⟨a, rfl, sameT e h⟩
theorem S2.same {v : V} {ts : List (List Str)} (e : Same H H') (h : S2 K H v ts) : S2 K H' v ts := by
  obtain ⟨a, xs, rfl, h, t⟩ := h
  exact ⟨a, xs, rfl, sameT e h, prd_mono (fun _ _ z => z.same e) t⟩
theorem same_upd {p : Addr} {o : HO} (h : H p = none) : Same H (upd H p o) := fun b x e => by
  rw [upd_ne (ne_of_none e h)]
  exact e
theorem same_mut {p : Addr} {o : HO} (e : Same H0 H) (h : H0 p = none) : Same H0 (upd H p o) := fun b x z => by
  rw [upd_ne (ne_of_none z h)]
  exact e b x z
theorem st_ (h : H' a = some (.tup xs)) : SqT K H' a xs := .inl (.inl h)
theorem sl_ (h : H' a = some (.lst xs)) : SqL K H' a xs := .inl (.inl h)

/-! ### the dict at r may change, all else stands -/
def Ch (r : Addr) (H H' : Hp) : Prop := ∀ b o, H b = some o → H' b = some o ∨ (b = r ∧ (∃ k, o = .dK k) ∧ ∃ k, H' b = some (.dK k))
variable {r : Addr}
theorem Ch.refl : Ch r H H := fun _ _ h => .inl h
theorem Ch.of (e : Same H H') : Ch r H H' := fun b o h => .inl (e b o h)
theorem Ch.trans (h1 : Ch r H0 H) (h2 : Ch r H H') : Ch r H0 H' := fun b o h => by
  rcases h1 b o h with e | ⟨rfl, k, k', e⟩
  · exact h2 b o e
  · rcases h2 _ _ e with e2 | ⟨_, _, k2, e2⟩
    · exact .inr ⟨rfl, k, k', e2⟩
    · exact .inr ⟨rfl, k, k2, e2⟩
theorem Ch.at (h : Ch r H H') {b : Addr} {o : HO} (e : H b = some o) (n : ∀ k, o ≠ .dK k) : H' b = some o := by
  rcases h b o e with z | ⟨_, ⟨k, z⟩, _⟩
  · exact z
  · exact absurd z (n k)
theorem Ch.lst (h : Ch r H H') {b : Addr} {xs : List V} (e : H b = some (.lst xs)) : H' b = some (.lst xs) := h.at e fun _ z => by cases z
theorem Ch.sqT (h : Ch r H H') {a : Addr} {xs : List V} (e : SqT K H a xs) : SqT K H' a xs := by
  rcases e with (e | ⟨o, e⟩) | e
  · exact .inl (.inl (h.at e fun _ z => by cases z))
  · exact .inl (.inr ⟨o, h.at e fun _ z => by cases z⟩)
  · exact .inr e
theorem Ch.sqL (h : Ch r H H') {a : Addr} {xs : List V} (e : SqL K H a xs) : SqL K H' a xs := by
  rcases e with (e | ⟨o, e⟩) | e
  · exact .inl (.inl (h.at e fun _ z => by cases z))
  · exact .inl (.inr ⟨o, h.at e fun _ z => by cases z⟩)
  · exact .inr e
theorem Ch.s1 (h : Ch r H H') {v : V} {ns : List Str} (e : S1 K H v ns) : S1 K H' v ns := by
  obtain ⟨a, rfl, e⟩ := e
  exact ⟨a, rfl, h.sqT e⟩
theorem Ch.s1s (h : Ch r H H') {xs : List V} {ts : List (List Str)} (e : Paired (S1 K H) xs ts) : Paired (S1 K H') xs ts := prd_mono (fun _ _ z => h.s1 z) e
theorem Ch.s2 (h : Ch r H H') {v : V} {ts : List (List Str)} (e : S2 K H v ts) : S2 K H' v ts := by
  obtain ⟨a, xs, rfl, e, t⟩ := e
  exact ⟨a, xs, rfl, h.sqT e, h.s1s t⟩
theorem Ch.free (h : Ch r H H') {l : Addr} (e : H' l = none) : H l = none := by
  cases q : H l with
  | none => rfl
  | some o =>
    rcases h l o q with z | ⟨_, _, k, z⟩
    · rw [e] at z; cases z
    · rw [e] at z; cases z
theorem Ch.upd (h : Ch r H0 H) {l : Addr} {o : HO} (n : H0 l = none) : Ch r H0 (L2.upd H l o) := fun b x e => by
  have nb := ne_of_none e n
  rw [upd_ne nb]
  exact h b x e
theorem Ch.new {l : Addr} {o : HO} (n : H l = none) : Ch r H (L2.upd H l o) := Ch.refl.upd n
theorem Ch.put {k k' : List (Key × V)} (e : H r = some (.dK k)) : Ch r H (L2.upd H r (.dK k')) := fun b o h => by
  by_cases hb : b = r
  · subst hb
    rw [e] at h
    cases h
    exact .inr ⟨rfl, ⟨_, rfl⟩, k', upd_same⟩
  · exact .inl (by rw [upd_ne hb]; exact h)
end

/-! ### sorted -/
/-- texts in order -/
def srt (ns : List Str) : List Str := ns.mergeSort (dataLe false PyData.str)
theorem srt_perm (ns : List Str) : (srt ns).Perm ns := List.mergeSort_perm ns _
theorem srt_len (ns : List Str) : (srt ns).length = ns.length := (srt_perm ns).length_eq
/-- crews in order -/
def srtT (ts : List (List Str)) : List (List Str) := ts.mergeSort (dataLe false sD)
theorem srtT_perm (ts : List (List Str)) : (srtT ts).Perm ts := List.mergeSort_perm ts _
section
variable {K : Frag} {H : Hp} {Q : VK}
theorem srt_any {a : Addr} {ns : List Str} (h : SqL K H a (ns.map V.str) ∨ SqT K H a (ns.map V.str)) (q : ∀ p, H p = none → Q (.ref p) (upd H p (.lst ((srt ns).map V.str)))) : rSrt K [.ref a] H Q := by
  refine ⟨a, ns.map fun s => (V.str s, PyData.str s), rfl, by rw [List.map_map]; exact h, fun b hb => ?_, fun d hd d' hd' => ?_, .inr fun d hd => ?_, fun b hb => ?_, fun p hp => ?_⟩
  · obtain ⟨s, _, rfl⟩ := List.mem_map.mp hb
    exact .str s
  · rw [List.map_map] at hd hd'
    obtain ⟨s, _, rfl⟩ := List.mem_map.mp hd
    obtain ⟨s', _, rfl⟩ := List.mem_map.mp hd'
    simp [alike]
  · rw [List.map_map] at hd
    obtain ⟨s, _, rfl⟩ := List.mem_map.mp hd
    exact ⟨fun z => (nomatch z), fun _ z => (nomatch z)⟩
  · obtain ⟨s, _, rfl⟩ := List.mem_map.mp hb
    simp [PyData.depth]
  · have e : ordD (ns.map fun s => (V.str s, PyData.str s)) = (srt ns).map fun s => (V.str s, PyData.str s) :=
      (sort_maps (fun s : Str => (V.str s, PyData.str s)) (r := dataLe false PyData.str) (s := dataLe false fun b : V × PD => b.2) fun _ _ _ _ => rfl).symm
    rw [e, List.map_map]
    exact q p hp
theorem srt_strs {a : Addr} {ns : List Str} (h : SqL K H a (ns.map V.str)) (q : ∀ p, H p = none → Q (.ref p) (upd H p (.lst ((srt ns).map V.str)))) : rSrt K [.ref a] H Q := srt_any (.inl h) q
theorem alike_strs : ∀ xs ys : List Str, alikeAll (xs.map PyData.str) (ys.map PyData.str) = true
  | [], _ => by simp [alikeAll]
  | _ :: _, [] => by simp [alikeAll]
  | x :: xs, y :: ys => by
    show alikeAll (PyData.str x :: xs.map PyData.str) (PyData.str y :: ys.map PyData.str) = true
    rw [alikeAll, alike_strs xs ys]
    simp [alike]
theorem depth_strs : ∀ xs : List Str, PyData.depthAll (xs.map PyData.str) = 0
  | [] => by simp [PyData.depthAll]
  | x :: xs => by
    show PyData.depthAll (PyData.str x :: xs.map PyData.str) = 0
    rw [PyData.depthAll, depth_strs xs]
    simp [PyData.depth]
theorem depth_sD (ns : List Str) : (sD ns).depth = 1 := by
  unfold sD
  rw [PyData.depth, depth_strs]
theorem srt_teams {a : Addr} {xs : List V} {ts : List (List Str)} (h : SqL K H a xs) (hp : Paired (S1 K H) xs ts) (h0 : ∀ t ∈ ts, t ≠ []) (q : ∀ p ys, H p = none → Paired (S1 K H) ys (srtT ts) → Q (.ref p) (upd H p (.lst ys))) : rSrt K [.ref a] H Q := by
  obtain ⟨zs, rfl, rfl, hz⟩ := prd_fst hp
  have e1 : (zs.map fun z => (z.1, sD z.2)).map (·.1) = zs.map (·.1) := by rw [List.map_map]; rfl
  refine ⟨a, zs.map fun z => (z.1, sD z.2), rfl, by rw [e1]; exact .inl h, fun b hb => ?_, fun d hd d' hd' => ?_, .inl fun d hd => ?_, fun b hb => ?_, fun p hp => ?_⟩
  · obtain ⟨s, hs, rfl⟩ := List.mem_map.mp hb
    exact (hz s hs).dp
  · rw [List.map_map] at hd hd'
    obtain ⟨s, _, rfl⟩ := List.mem_map.mp hd
    obtain ⟨s', _, rfl⟩ := List.mem_map.mp hd'
    show alike (sD s.2) (sD s'.2) = true
    unfold sD
    rw [alike]
    exact alike_strs _ _
  · rw [List.map_map] at hd
    obtain ⟨s, hs, rfl⟩ := List.mem_map.mp hd
    have n := h0 s.2 (List.mem_map.mpr ⟨s, hs, rfl⟩)
    show ∃ x r, sD s.2 = .tuple (x :: r)
    match e : s.2 with
    | [] => exact absurd e n
    | x :: r => exact ⟨PyData.str x, r.map PyData.str, rfl⟩
  · obtain ⟨s, _, rfl⟩ := List.mem_map.mp hb
    show (sD s.2).depth ≤ 50
    rw [depth_sD]
    decide
  · have e : ordD (zs.map fun z => (z.1, sD z.2)) = (zs.mergeSort (dataLe false fun z : V × List Str => sD z.2)).map fun z => (z.1, sD z.2) :=
      (sort_maps (fun z : V × List Str => (z.1, sD z.2)) (r := dataLe false fun z : V × List Str => sD z.2) (s := dataLe false fun b : V × PD => b.2) fun _ _ _ _ => rfl).symm
    have e2 : (zs.mergeSort (dataLe false fun z : V × List Str => sD z.2)).map (·.2) = srtT (zs.map (·.2)) :=
      sort_maps (fun z : V × List Str => z.2) (r := dataLe false fun z : V × List Str => sD z.2) (s := dataLe false sD) fun _ _ _ _ => rfl
    rw [e, List.map_map]
    refine q p ((zs.mergeSort (dataLe false fun z : V × List Str => sD z.2)).map (·.1)) hp ?_
    rw [← e2]
    exact prd_of fun z m => hz z (List.mem_mergeSort.mp m)
end
/-! ### who is in a set -/
def isIn (x : Str) (ns : List Str) : Bool := ns.any (· == x)
theorem inV_strs (x : Str) (ns : List Str) : inV (.str x) (ns.map V.str) = isIn x ns := by
  unfold inV isIn
  rw [List.any_map]
  rfl
theorem flat_strs (ns : List Str) : (ns.map V.str).all flatV = true := by
  rw [List.all_map]
  simp [flatV]
end Cb

/-! Comprehensions that change nothing; data compared; what a repr comes to. -/
namespace Cb
open PySem PySem.Spec PyProof.Rows L2 PySem.W
theorem take_snoc {α : Type} {xs : List α} {i : Nat} {x : α} (h : xs[i]? = some x) : xs.take (i + 1) = xs.take i ++ [x] := by
  rw [List.take_add_one, h]
  rfl
theorem big (h : n ≤ 100000) : n < sizeLine := Nat.lt_of_le_of_lt h (by decide)
/-! ### what stands whatever lists and dicts do -/
def Fx (H H' : Hp) : Prop := ∀ b o, H b = some o → (∃ xs, o = .lst xs) ∨ (∃ k, o = .dK k) ∨ H' b = some o
section
variable {K : Frag} {H H' H0 : Hp}
theorem Fx.refl : Fx H H := fun _ _ h => .inr (.inr h)
theorem Fx.of (e : Same H H') : Fx H H' := fun b o h => .inr (.inr (e b o h))
theorem Fx.ch {r : Addr} (e : Ch r H H') : Fx H H' := fun b o h => by
  rcases e b o h with z | ⟨_, z, _⟩
  · exact .inr (.inr z)
  · exact .inr (.inl z)
theorem Fx.trans (h1 : Fx H0 H) (h2 : Fx H H') : Fx H0 H' := fun b o h => by
  rcases h1 b o h with z | z | z
  · exact .inl z
  · exact .inr (.inl z)
  · exact h2 b o z
theorem Fx.mut {l : Addr} {xs : List V} {o : HO} (e : H l = some (.lst xs)) : Fx H (upd H l o) := fun b u h => by
  by_cases hb : b = l
  · subst hb
    rw [e] at h
    cases h
    exact .inl ⟨_, rfl⟩
  · exact .inr (.inr (by rw [upd_ne hb]; exact h))
theorem Fx.sqT (h : Fx H H') {a : Addr} {xs : List V} (e : SqT K H a xs) : SqT K H' a xs := by
  rcases e with (e | ⟨o, e⟩) | e
  · rcases h _ _ e with ⟨_, z⟩ | ⟨_, z⟩ | z
    · cases z
    · cases z
    · exact .inl (.inl z)
  · rcases h _ _ e with ⟨_, z⟩ | ⟨_, z⟩ | z
    · cases z
    · cases z
    · exact .inl (.inr ⟨o, z⟩)
  · exact .inr e
theorem Fx.s1 (h : Fx H H') {v : V} {ns : List Str} (e : S1 K H v ns) : S1 K H' v ns := by
  obtain ⟨a, rfl, e⟩ := e
  exact ⟨a, rfl, h.sqT e⟩
theorem Fx.s1s (h : Fx H H') {xs : List V} {ts : List (List Str)} (e : Paired (S1 K H) xs ts) : Paired (S1 K H') xs ts := prd_mono (fun _ _ z => h.s1 z) e
theorem Fx.s2 (h : Fx H H') {v : V} {ts : List (List Str)} (e : S2 K H v ts) : S2 K H' v ts := by
  obtain ⟨a, xs, rfl, e, t⟩ := e
  exact ⟨a, xs, rfl, h.sqT e, h.s1s t⟩
end
section
variable {K : Frag} {xs : List V} {tl : TE} {j : Nat} {vs : List Nat} {σ : Stt} {H : Hp} {Q : VK} {tt : TT} {te : TE}
theorem turn_filter {D : Addr} (f : V → Bool) (g : V → V) (hD : H D = none) (hn : xs.length ≤ 100000)
    (ht : ∀ x ∈ xs, ∀ H1, Same H H1 → ∀ R : Bool → Hp → Prop, R (f x) H1 → tt ((wipe σ vs).set j (some x)) H1 R)
    (he : ∀ x ∈ xs, f x = true → ∀ H1, Same H H1 → ∀ R : VK, (∀ H2, Same H1 H2 → R (g x) H2) → te ((wipe σ vs).set j (some x)) H1 R)
    {i : Nat} {x : V} {H' : Hp} (hi : xs[i]? = some x) (p : Same H H' ∧ H' D = some (.lst (((xs.take i).filter f).map g))) :
    tt ((wipe σ vs).set j (some x)) H' fun b H3 => if b = true then te ((wipe σ vs).set j (some x)) H3 fun y H4 => ∃ acc, H4 D = some (.lst acc) ∧ acc.length < sizeLine ∧
      (Same H (upd H4 D (.lst (acc ++ [y]))) ∧ (upd H4 D (.lst (acc ++ [y]))) D = some (.lst (((xs.take (i + 1)).filter f).map g))) else Same H H3 ∧ H3 D = some (.lst (((xs.take (i + 1)).filter f).map g)) := by
  have hx : x ∈ xs := List.mem_of_getElem? hi
  refine ht x hx H' p.1 _ ?_
  rw [take_snoc hi, List.filter_append, List.map_append]
  by_cases hf : f x = true
  · rw [if_pos hf]
    refine he x hx hf H' p.1 _ fun H2 e2 => ⟨_, e2 _ _ p.2, ?_, same_mut (p.1.trans e2) hD, ?_⟩
    · rw [List.length_map]
      exact big (Nat.le_trans (List.length_filter_le _ _) (by rw [List.length_take]; omega))
    · rw [upd_same, List.filter_cons_of_pos hf]
      rfl
  · rw [if_neg hf]
    refine ⟨p.1, ?_⟩
    rw [p.2, List.filter_cons_of_neg hf]
    simp
/-- [e for x in t if ..], t a tuple, nothing changed -/
theorem lcT_filter (f : V → Bool) (g : V → V) (hl : ∀ R : VK, (∀ a H1, Same H H1 → SqT K H1 a xs → R (.ref a) H1) → tl σ H R) (hn : xs.length ≤ 100000) (hj : ∀ x, wipe ((wipe σ vs).set j (some x)) vs = wipe σ vs)
    (ht : ∀ x ∈ xs, ∀ H1, Same H H1 → ∀ R : Bool → Hp → Prop, R (f x) H1 → tt ((wipe σ vs).set j (some x)) H1 R)
    (he : ∀ x ∈ xs, f x = true → ∀ H1, Same H H1 → ∀ R : VK, (∀ H2, Same H1 H2 → R (g x) H2) → te ((wipe σ vs).set j (some x)) H1 R)
    (q : ∀ D H', H D = none → Same H H' → H' D = some (.lst ((xs.filter f).map g)) → Q (.ref D) H') : tLc (iTup K tl) (gName j) tt te vs σ H Q := by
  refine hl _ fun a H1 e1 hs => ⟨a, rfl, ⟨xs, hs⟩, fun D hD => ?_⟩
  refine lc_tup (K := K) (a := a) (xs := xs) (fun i H' => Same H1 H' ∧ H' D = some (.lst (((xs.take i).filter f).map g))) ⟨same_upd hD, upd_same⟩ (fun i H' _ p => sameT p.1 hs)
    (fun i x H' hi p => ⟨hj x, turn_filter f g hD hn (fun x hx H2 e2 => ht x hx H2 (e1.trans e2)) (fun x hx hf H2 e2 => he x hx hf H2 (e1.trans e2)) hi p⟩) fun H' p => ?_
  refine q D H' (e1.free hD) (e1.trans p.1) ?_
  rw [p.2, List.take_length]
theorem lcL_filter (f : V → Bool) (g : V → V) (hl : ∀ R : VK, (∀ a H1, Same H H1 → SqL K H1 a xs → R (.ref a) H1) → tl σ H R) (hn : xs.length ≤ 100000) (hj : ∀ x, wipe ((wipe σ vs).set j (some x)) vs = wipe σ vs)
    (ht : ∀ x ∈ xs, ∀ H1, Same H H1 → ∀ R : Bool → Hp → Prop, R (f x) H1 → tt ((wipe σ vs).set j (some x)) H1 R)
    (he : ∀ x ∈ xs, f x = true → ∀ H1, Same H H1 → ∀ R : VK, (∀ H2, Same H1 H2 → R (g x) H2) → te ((wipe σ vs).set j (some x)) H1 R)
    (q : ∀ D H', H D = none → Same H H' → H' D = some (.lst ((xs.filter f).map g)) → Q (.ref D) H') : tLc (iList K tl) (gName j) tt te vs σ H Q := by
  refine hl _ fun a H1 e1 hs => ⟨a, rfl, ⟨xs, hs⟩, fun D hD => ?_⟩
  refine lc_list (K := K) (a := a) (xs := xs) (fun i H' => Same H1 H' ∧ H' D = some (.lst (((xs.take i).filter f).map g))) ⟨same_upd hD, upd_same⟩ (fun i H' _ p => p.1.seq hs)
    (fun i x H' hi p => ⟨hj x, turn_filter f g hD hn (fun x hx H2 e2 => ht x hx H2 (e1.trans e2)) (fun x hx hf H2 e2 => he x hx hf H2 (e1.trans e2)) hi p⟩) fun H' p => ?_
  refine q D H' (e1.free hD) (e1.trans p.1) ?_
  rw [p.2, List.take_length]
/-- every item gives one element, which stands for b -/
theorem turn_rel {β : Type} {F : Hp → V → β → Prop} (mono : ∀ H1 H2 v b, Fx H1 H2 → F H1 v b → F H2 v b) {bs : List β} {D : Addr} (hD : H D = none) (hn : xs.length ≤ 100000) (hlen : xs.length = bs.length)
    (he : ∀ (i : Nat) (x : V) (b : β), xs[i]? = some x → bs[i]? = some b → ∀ H1, Same H H1 → ∀ R : VK, (∀ v H2, Same H1 H2 → F H2 v b → R v H2) → te ((wipe σ vs).set j (some x)) H1 R)
    {i : Nat} {x : V} {H' : Hp} (hi : xs[i]? = some x) (p : Same H H' ∧ ∃ us, H' D = some (.lst us) ∧ Paired (F H') us (bs.take i)) :
    te ((wipe σ vs).set j (some x)) H' fun y H4 => ∃ acc, H4 D = some (.lst acc) ∧ acc.length < sizeLine ∧ (Same H (upd H4 D (.lst (acc ++ [y]))) ∧ ∃ us, (upd H4 D (.lst (acc ++ [y]))) D = some (.lst us) ∧ Paired (F (upd H4 D (.lst (acc ++ [y])))) us (bs.take (i + 1))) := by
  have hlt := (List.getElem?_eq_some_iff.mp hi).1
  obtain ⟨b, hb⟩ : ∃ b, bs[i]? = some b := ⟨bs[i]'(by omega), List.getElem?_eq_getElem (by omega)⟩
  obtain ⟨e1, us, hu, hp⟩ := p
  have hl := prd_len hp
  rw [List.length_take] at hl
  refine he i x b hi hb H' e1 _ fun v H2 e2 hv => ⟨us, e2 _ _ hu, big (by omega), same_mut (e1.trans e2) hD, us ++ [v], upd_same, ?_⟩
  have f2 : Fx H2 (upd H2 D (.lst (us ++ [v]))) := Fx.mut (e2 _ _ hu)
  rw [take_snoc hb]
  exact prd_app (prd_mono (fun _ _ z => mono _ _ _ _ ((Fx.of e2).trans f2) z) hp) (.cons (mono _ _ _ _ f2 hv) .nil)
theorem lcL_rel {β : Type} {F : Hp → V → β → Prop} (mono : ∀ H1 H2 v b, Fx H1 H2 → F H1 v b → F H2 v b) (bs : List β) (hl : ∀ R : VK, (∀ a H1, Same H H1 → SqL K H1 a xs → R (.ref a) H1) → tl σ H R) (hn : xs.length ≤ 100000) (hlen : xs.length = bs.length)
    (hj : ∀ x, wipe ((wipe σ vs).set j (some x)) vs = wipe σ vs)
    (he : ∀ (i : Nat) (x : V) (b : β), xs[i]? = some x → bs[i]? = some b → ∀ H1, Same H H1 → ∀ R : VK, (∀ v H2, Same H1 H2 → F H2 v b → R v H2) → te ((wipe σ vs).set j (some x)) H1 R)
    (q : ∀ D us H', H D = none → Same H H' → H' D = some (.lst us) → Paired (F H') us bs → Q (.ref D) H') : tLc (iList K tl) (gName j) tYes te vs σ H Q := by
  refine hl _ fun a H1 e1 hs => ⟨a, rfl, ⟨xs, hs⟩, fun D hD => ?_⟩
  refine lc_list (K := K) (a := a) (xs := xs) (fun i H' => Same H1 H' ∧ ∃ us, H' D = some (.lst us) ∧ Paired (F H') us (bs.take i)) ⟨same_upd hD, [], upd_same, .nil⟩ (fun i H' _ p => p.1.seq hs)
    (fun i x H' hi p => ⟨hj x, turn_rel mono hD hn hlen (fun i x b h1 h2 H2 e2 => he i x b h1 h2 H2 (e1.trans e2)) hi p⟩) fun H' p => ?_
  obtain ⟨e2, us, hu, hp⟩ := p
  rw [hlen, List.take_length] at hp
  exact q D us H' (e1.free hD) (e1.trans e2) hu hp
theorem lcT_rel {β : Type} {F : Hp → V → β → Prop} (mono : ∀ H1 H2 v b, Fx H1 H2 → F H1 v b → F H2 v b) (bs : List β) (hl : ∀ R : VK, (∀ a H1, Same H H1 → SqT K H1 a xs → R (.ref a) H1) → tl σ H R) (hn : xs.length ≤ 100000) (hlen : xs.length = bs.length)
    (hj : ∀ x, wipe ((wipe σ vs).set j (some x)) vs = wipe σ vs)
    (he : ∀ (i : Nat) (x : V) (b : β), xs[i]? = some x → bs[i]? = some b → ∀ H1, Same H H1 → ∀ R : VK, (∀ v H2, Same H1 H2 → F H2 v b → R v H2) → te ((wipe σ vs).set j (some x)) H1 R)
    (q : ∀ D us H', H D = none → Same H H' → H' D = some (.lst us) → Paired (F H') us bs → Q (.ref D) H') : tLc (iTup K tl) (gName j) tYes te vs σ H Q := by
  refine hl _ fun a H1 e1 hs => ⟨a, rfl, ⟨xs, hs⟩, fun D hD => ?_⟩
  refine lc_tup (K := K) (a := a) (xs := xs) (fun i H' => Same H1 H' ∧ ∃ us, H' D = some (.lst us) ∧ Paired (F H') us (bs.take i)) ⟨same_upd hD, [], upd_same, .nil⟩ (fun i H' _ p => sameT p.1 hs)
    (fun i x H' hi p => ⟨hj x, turn_rel mono hD hn hlen (fun i x b h1 h2 H2 e2 => he i x b h1 h2 H2 (e1.trans e2)) hi p⟩) fun H' p => ?_
  obtain ⟨e2, us, hu, hp⟩ := p
  rw [hlen, List.take_length] at hp
  exact q D us H' (e1.free hD) (e1.trans e2) hu hp
end

/-! ### data compared -/
theorem eqv_strs : ∀ xs ys : List Str, PyData.eqvAll (xs.map .str) (ys.map .str) = decide (xs = ys)
  | [], [] => by simp [PyData.eqvAll]
  | [], _ :: _ => by simp [PyData.eqvAll]
  | _ :: _, [] => by simp [PyData.eqvAll]
  | x :: xs, y :: ys => by
    show PyData.eqvAll (.str x :: xs.map .str) (.str y :: ys.map .str) = _
    rw [PyData.eqvAll, eqv_strs xs ys, PyData.eqv]
    by_cases h : x = y <;> by_cases h2 : xs = ys <;> simp [h, h2]
theorem eqv_sD (xs ys : List Str) : PyData.eqv (sD xs) (sD ys) = decide (xs = ys) := by
  unfold sD
  rw [PyData.eqv, eqv_strs]
/-- whether a set is one of these -/
def isOne (x : List Str) (ts : List (List Str)) : Bool := ts.any fun t => decide (t = x)
theorem any_sD (x : List Str) (ts : List (List Str)) : ((ts.map sD).any fun z => PyData.eqv z (sD x)) = isOne x ts := by
  unfold isOne
  rw [List.any_map]
  congr 1
  funext t
  exact eqv_sD t x
theorem eqv_strs_nil (xs : List Str) : PyData.eqv (.list (xs.map .str)) (.list []) = xs.isEmpty := by
  cases xs <;> simp [PyData.eqv, PyData.eqvAll]
theorem eqv_list_nil (xs : List PD) : PyData.eqv (.list xs) (.list []) = xs.isEmpty := by
  cases xs <;> simp [PyData.eqv, PyData.eqvAll]

/-! ### names that may stand in data -/
def okS (s : Str) : Prop := PyData.strOk s = true ∧ (reprText s).length ≤ 20
theorem lay_strs : ∀ ns : List Str, (∀ n ∈ ns, okS n) → PyData.canLayAll0 (ns.map .str) = true
  | [], _ => by simp [PyData.canLayAll0]
  | n :: ns, h => by
    show PyData.canLayAll0 (.str n :: ns.map .str) = true
    rw [PyData.canLayAll0, lay_strs ns fun m hm => h m (List.mem_cons_of_mem _ hm), PyData.canLay0, (h n List.mem_cons_self).1]
    rfl
theorem shaped_sD {ns : List Str} (h : ∀ n ∈ ns, okS n) : SeqAt.shaped (sD ns) = true := by
  unfold SeqAt.shaped
  rw [depth_sD]
  unfold sD
  rw [PyData.canLay0, lay_strs ns h]
  rfl
theorem shaped_strs {ns : List Str} (h : ∀ n ∈ ns, okS n) : SeqAt.shaped (.list (ns.map .str)) = true := by
  unfold SeqAt.shaped
  rw [PyData.canLay0, lay_strs ns h, PyData.depth, depth_strs]
  rfl
theorem lay_teams : ∀ ts : List (List Str), (∀ t ∈ ts, ∀ n ∈ t, okS n) → PyData.canLayAll0 (ts.map sD) = true
  | [], _ => by simp [PyData.canLayAll0]
  | t :: ts, h => by
    show PyData.canLayAll0 (sD t :: ts.map sD) = true
    rw [PyData.canLayAll0, lay_teams ts fun m hm => h m (List.mem_cons_of_mem _ hm), SeqAt.canLay_of_shaped (shaped_sD (h t List.mem_cons_self))]
    rfl
theorem depth_teams : ∀ ts : List (List Str), PyData.depthAll (ts.map sD) ≤ 1
  | [] => by simp [PyData.depthAll]
  | t :: ts => by
    show PyData.depthAll (sD t :: ts.map sD) ≤ 1
    rw [PyData.depthAll, depth_sD]
    exact Nat.max_le.mpr ⟨Nat.le_refl _, depth_teams ts⟩
theorem shaped_teams {ts : List (List Str)} (h : ∀ t ∈ ts, ∀ n ∈ t, okS n) : SeqAt.shaped (.list (ts.map sD)) = true := by
  unfold SeqAt.shaped
  rw [PyData.canLay0, lay_teams ts h, PyData.depth]
  have := depth_teams ts
  simp
  omega
theorem shaped_tD {ts : List (List Str)} (h : ∀ t ∈ ts, ∀ n ∈ t, okS n) : SeqAt.shaped (tD ts) = true := by
  unfold SeqAt.shaped tD
  rw [PyData.canLay0, lay_teams ts h, PyData.depth]
  have := depth_teams ts
  simp
  omega
/-! ### repr of lists of crews -/
theorem show_sD (ns : List Str) : PyData.showable (sD ns) = true := by
  unfold sD
  rw [PyData.showable]
  exact PyData.showableAll_strs ns
theorem nodict_sD : ∀ ns : List Str, PyData.hasDictAll (ns.map .str) = false
  | [] => by simp [PyData.hasDictAll]
  | n :: ns => by
    show PyData.hasDictAll (.str n :: ns.map .str) = false
    rw [PyData.hasDictAll, nodict_sD ns]
    simp [PyData.hasDict]
theorem nodict_tD : ∀ ts : List (List Str), PyData.hasDictAll (ts.map sD) = false
  | [] => by simp [PyData.hasDictAll]
  | t :: ts => by
    show PyData.hasDictAll (sD t :: ts.map sD) = false
    rw [PyData.hasDictAll, nodict_tD ts]
    unfold sD
    rw [PyData.hasDict, nodict_sD]
    rfl
theorem piled_le (m : Nat) : ∀ {ts : List Str}, (∀ t ∈ ts, t.length ≤ m) → piled ts ≤ ts.length * (m + 2)
  | [], _ => Nat.zero_le _
  | t :: ts, h => by
    have := piled_le m (ts := ts) fun x hx => h x (List.mem_cons_of_mem _ hx)
    have := h t List.mem_cons_self
    rw [piled_cons, List.length_cons, Nat.succ_mul]
    omega
theorem long_sD {ns : List Str} (h : ∀ n ∈ ns, okS n) (hl : ns.length ≤ 8) : (sD ns).shown.length ≤ 178 := by
  unfold sD
  rw [PyData.shown, PyData.shownAll_strs]
  have h1 := fmt_text (ns.map reprText)
  have h2 := piled_le 20 (ts := ns.map reprText) fun t ht => by
    obtain ⟨n, hn, rfl⟩ := List.mem_map.mp ht
    exact (h n hn).2
  rw [List.length_map] at h2
  have : ns.length * 22 ≤ 8 * 22 := Nat.mul_le_mul_right _ hl
  omega
theorem shown_all : ∀ ts : List PD, PyData.shownAll ts = ts.map PyData.shown
  | [] => by simp [PyData.shownAll]
  | t :: ts => by rw [PyData.shownAll, shown_all ts]; rfl
theorem long_tD {ts : List (List Str)} (h : ∀ t ∈ ts, t.length ≤ 8 ∧ ∀ n ∈ t, okS n) (hl : ts.length ≤ 1000) : (tD ts).shown.length ≤ sizeLine := by
  unfold tD
  rw [PyData.shown, shown_all, List.map_map]
  have h1 := fmt_text (ts.map (PyData.shown ∘ sD))
  have h2 := piled_le 178 (ts := ts.map (PyData.shown ∘ sD)) fun t ht => by
    obtain ⟨n, hn, rfl⟩ := List.mem_map.mp ht
    exact long_sD (h n hn).2 (h n hn).1
  rw [List.length_map] at h2
  have h3 : ts.length * 180 ≤ 1000 * 180 := Nat.mul_le_mul_right _ hl
  have h4 : 1000 * 180 + 2 ≤ sizeLine := by decide
  omega
theorem repr_teams {K : Frag} {H : Hp} {Q : VK} {a : Addr} {ts : List (List Str)} (h : S2 K H (.ref a) ts) (ho : ∀ t ∈ ts, t.length ≤ 8 ∧ ∀ n ∈ t, okS n) (hl : ts.length ≤ 1000) (q : Q (.str (tD ts).shown) H) : rRepr K [.ref a] H Q := by
  refine ⟨a, tD ts, rfl, h.dp, ?_, ?_, ?_, long_tD ho hl, q⟩
  · unfold tD
    rw [PyData.showable]
    exact PySem.Spec.showableAll_of fun x hx => by
      obtain ⟨t, _, rfl⟩ := List.mem_map.mp hx
      exact show_sD t
  · unfold tD
    rw [PyData.hasDict, nodict_tD]
  · unfold tD
    rw [PyData.depth]
    have := depth_teams ts
    omega
end Cb

/-! The layer's rules with the written part named, for use within comprehensions. -/
namespace Cb
open PySem PySem.Spec PyProof.Rows L2 PySem.W
section
variable (K : Frag) {X : Cx}
theorem o_nin (e : X.K = K := by rfl) : OpR X (compareOp .NotIn) (rIn K true) := by subst e; exact op_notIn_seq
theorem o_in (e : X.K = K := by rfl) : OpR X (compareOp .In) (rIn K false) := by subst e; exact op_in_seq
theorem o_inT (hu : X.A.units + 65 < cLine) (e : X.K = K := by rfl) : OpR X (compareOp .In) (rInT K) := by subst e; exact op_inT hu
theorem o_eqD (hu : X.A.units + 64 < cLine) (e : X.K = K := by rfl) : OpR X (compareOp .Eq) (rEqD K) := by subst e; exact op_eqD hu
theorem o_neD (hu : X.A.units + 64 < cLine) (e : X.K = K := by rfl) : OpR X (compareOp .NotEq) (rNeD K) := by subst e; exact op_neD hu
theorem o_catA (e : X.K = K := by rfl) : OpR X (binaryOp .Add) (rCatA K) := by subst e; exact op_catA
theorem i_list (e : X.K = K := by rfl) : IxR X (rIxL K) := by subst e; exact ix_list
theorem i_tup (e : X.K = K := by rfl) : IxR X (rIxT K) := by subst e; exact ix_tup
theorem s_list (e : X.K = K := by rfl) : SlR X (rSlL K) := by subst e; exact sl_list
theorem s_tupA (e : X.K = K := by rfl) : SlR X (rSlA K) := by subst e; exact sl_tupA
def rTupleOf (K : Frag) : List V → Hp → VK → Prop := fun xs H Q => ∃ p ys, xs = [.ref p] ∧ ((SqL K H p ys ∧ ∀ l, H l = none → Q (.ref l) (upd H l (.tup ys))) ∨ (SqT K H p ys ∧ Q (.ref p) H))
theorem c_tuple (e : X.K = K := by rfl) : CallR X (.type "tuple") (rTupleOf K) := by subst e; exact call_tuple_of
def rListOf (K : Frag) : List V → Hp → VK → Prop := fun xs H Q => ∃ p ys, xs = [.ref p] ∧ (SqL K H p ys ∨ SqT K H p ys) ∧ ∀ l, H l = none → Q (.ref l) (upd H l (.lst ys))
theorem c_list (e : X.K = K := by rfl) : CallR X (.type "list") (rListOf K) := by subst e; exact call_list_of
def rLenOf (K : Frag) : List V → Hp → VK → Prop := fun xs H Q => ∃ p ys, xs = [.ref p] ∧ (SqL K H p ys ∨ SqT K H p ys) ∧ Q (.int ys.length) H
theorem c_len (e : X.K = K := by rfl) : CallR X (.builtin "len") (rLenOf K) := by subst e; exact call_len_seq
theorem c_srt (hu : X.A.units + 64 < cLine) (e : X.K = K := by rfl) : CallR X (.builtin "sorted") (rSrt K) := by subst e; exact cr_srt hu
theorem c_any (hc : X.calm = true := by rfl) (e : X.K = K := by rfl) : CallR X (.builtin "any") (rAny K) := by subst e; exact cr_any hc
theorem c_all (hc : X.calm = true := by rfl) (e : X.K = K := by rfl) : CallR X (.builtin "all") (rAll K) := by subst e; exact cr_all hc
theorem c_repr (hu : X.A.units + 64 < cLine) (hg : Gu X.A) (e : X.K = K := by rfl) : CallR X (.builtin "repr") (rRepr K) := by subst e; exact cr_repr hu hg
theorem p_list {tg l : Expr} {tl : TE} (h : PE X l tl) (e : X.K = K := by rfl) : PI X tg l (iList K tl) := by subst e; exact pi_list h
theorem p_tup {tg l : Expr} {tl : TE} (h : PE X l tl) (e : X.K = K := by rfl) : PI X tg l (iTup K tl) := by subst e; exact pi_tup h
theorem p_app {o a : Expr} {apos cpos : Pos} {to te : TE} (ho : PE X o to) (ha : PE X a te)
    (h : PE X (.Call (.Attribute o "append" apos) [a] [] cpos) (tBM X.K "list" rAppend to (tCons te tNil))) (e : X.K = K := by rfl) :
    PE X (.Call (.Attribute o "append" apos) [a] [] cpos) (tBM K "list" rAppend to (tCons te tNil)) := by subst e; exact h
end
end Cb
namespace Cb
open PySem PySem.Spec PyProof.Rows L2 PySem.W
section
variable {K : Frag} {xs : List V} {tl : TE} {j : Nat} {vs : List Nat} {σ : Stt} {H : Hp} {tb : TB} {N : Hp → Prop}
/-- a later clause over a tuple -/
theorem cl_tup (Pv : Hp → Nat → Hp → Prop) (hl : ∀ R : VK, (∀ a H1, Same H H1 → SqT K H1 a xs → R (.ref a) H1) → tl σ H R) (hj : ∀ x, wipe ((wipe σ vs).set j (some x)) vs = wipe σ vs) (h0 : ∀ H1, Same H H1 → Pv H1 0 H1)
    (hst : ∀ i H1 H2, Pv H1 i H2 → Fx H1 H2) (hs : ∀ i x H0 H1, Same H H0 → xs[i]? = some x → Pv H0 i H1 → tb ((wipe σ vs).set j (some x)) H1 (Pv H0 (i + 1))) (hd : ∀ H0 H1, Same H H0 → Pv H0 xs.length H1 → N H1) : tCl (iTup K tl) (gName j) tYes tb vs σ H N := by
  refine hl _ fun a H1 e1 ht => ⟨a, rfl, ⟨xs, ht⟩, fun i m H' => m = xs.length - i ∧ i ≤ xs.length ∧ Pv H1 i H', ⟨xs.length, by simp, Nat.zero_le _, h0 H1 e1⟩, ?_⟩
  rintro i m H2 ⟨rfl, hi, p⟩
  have q := (hst i H1 H2 p).sqT ht
  by_cases hlt : i < xs.length
  · refine .inr ⟨⟨xs, xs[i], q, by simp [hlt]⟩, Pv H1 (i + 1), fun H' p' => ⟨xs.length - (i + 1), by omega, rfl, hlt, p'⟩, fun x H' y => ?_⟩
    obtain ⟨e, y⟩ := y
    subst e
    exact ⟨hj x, hs i x H1 _ e1 (y xs q) p⟩
  · obtain rfl : i = xs.length := by omega
    exact .inl ⟨⟨xs, q, Nat.le_refl _⟩, hd H1 H2 e1 p⟩
/-- the first clause over a tuple that stands -/
theorem lcN_tup {Q : VK} {a : Addr} {tbD : Addr → TB} (Pv : Addr → Nat → Hp → Prop) (hl : ∀ R : VK, R (.ref a) H → tl σ H R) (ht : SqT K H a xs) (hj : ∀ x, wipe ((wipe σ vs).set j (some x)) vs = wipe σ vs)
    (h0 : ∀ D, H D = none → Pv D 0 (upd H D (.lst []))) (hst : ∀ D i H2, Pv D i H2 → Fx H H2) (hs : ∀ D i x H1, xs[i]? = some x → Pv D i H1 → tbD D ((wipe σ vs).set j (some x)) H1 (Pv D (i + 1)))
    (hd : ∀ D H1, Pv D xs.length H1 → Q (.ref D) H1) : tLcN (iTup K tl) (gName j) tYes tbD vs σ H Q := by
  refine hl _ ⟨a, rfl, ⟨xs, ht⟩, fun D hD => ⟨fun i m H' => m = xs.length - i ∧ i ≤ xs.length ∧ Pv D i H', ⟨xs.length, by simp, Nat.zero_le _, h0 D hD⟩, ?_⟩⟩
  rintro i m H2 ⟨rfl, hi, p⟩
  have q := (hst D i H2 p).sqT ht
  by_cases hlt : i < xs.length
  · refine .inr ⟨⟨xs, xs[i], q, by simp [hlt]⟩, Pv D (i + 1), fun H' p' => ⟨xs.length - (i + 1), by omega, rfl, hlt, p'⟩, fun x H' y => ?_⟩
    obtain ⟨e, y⟩ := y
    subst e
    exact ⟨hj x, hs D i x _ (y xs q) p⟩
  · obtain rfl : i = xs.length := by omega
    exact .inl ⟨⟨xs, q, Nat.le_refl _⟩, hd D H2 p⟩
end
end Cb
namespace Cb
open PySem PySem.Spec PyProof.Rows L2 PySem.W
section
variable {K : Frag} {tl : TE} {j : Nat} {vs : List Nat} {σ : Stt} {H : Hp} {tt : TT} {g : TG} {tb : TS} {D : Ends} {Q : VK}
/-- for x in [s for s in t if ..], t a set of people -/
theorem for_names {ns : List Str} (p : Str → Bool) (hl : ∀ R : VK, (∀ a H1, Same H H1 → SqT K H1 a (ns.map V.str) → R (.ref a) H1) → tl σ H R) (hn : ns.length ≤ 1000) (hj : ∀ x, wipe ((wipe σ vs).set j (some x)) vs = wipe σ vs)
    (hv : ∀ x, ((wipe σ vs).set j (some x))[j]? = some (some x)) (ht : ∀ s ∈ ns, ∀ H1, Same H H1 → ∀ R : Bool → Hp → Prop, R (p s) H1 → tt ((wipe σ vs).set j (some (.str s))) H1 R)
    (lp : ∀ L H', H L = none → Same H H' → H' L = some (.lst ((ns.filter p).map V.str)) → ∃ Pv : Nat → Stt → Hp → Prop, Pv 0 σ H' ∧ (∀ i σ' H2, Pv i σ' H2 → H2 L = some (.lst ((ns.filter p).map V.str))) ∧
      (∀ i s σ' H2, (ns.filter p)[i]? = some s → Pv i σ' H2 → g (.str s) σ' H2 fun σ2 H3 => tb { D with nx := Pv (i + 1), ct := Pv (i + 1), bk := D.nx } σ2 H3) ∧ ∀ σ' H2, Pv (ns.filter p).length σ' H2 → D.nx σ' H2) :
    tFor (iList K (tLc (iTup K tl) (gName j) tt (tVar j) vs)) g tb D σ H := by
  unfold tFor iList
  refine lcT_filter (xs := ns.map V.str) (fun v => match v with | .str s => p s | _ => false) id hl (by rw [List.length_map]; omega) hj (fun v m H1 e1 R hR => ?_) (fun v m _ H1 e1 R hR => ⟨v, hv v, hR H1 (Same.refl H1)⟩) fun L H' nL e hL => ?_
  · obtain ⟨s, hs, rfl⟩ := List.mem_map.mp m
    exact ht s hs H1 e1 R hR
  · have e2 : ((ns.map V.str).filter (fun v => match v with | .str s => p s | _ => false)).map id = (ns.filter p).map V.str := by
      rw [List.map_id, List.filter_map]
      rfl
    rw [e2] at hL
    obtain ⟨Pv, h0, hst, hs, hd⟩ := lp L H' nL e hL
    refine ⟨L, rfl, ⟨_, sl_ hL⟩, for_list (xs := (ns.filter p).map V.str) Pv h0 (fun i σ' H2 _ z => sl_ (hst i σ' H2 z)) (fun i x σ' H2 hi z => ?_) fun σ' H2 z => ?_⟩
    · rw [List.getElem?_map] at hi
      obtain ⟨s, h1, rfl⟩ := Option.map_eq_some_iff.mp hi
      exact hs i s σ' H2 h1 z
    · rw [List.length_map] at z
      exact hd σ' H2 z
/-- t + u, sets of people -/
theorem cat_names {a b : Addr} {xs ys : List Str} (h1 : SqT K H a (xs.map V.str)) (h2 : SqT K H b (ys.map V.str)) (hn : xs.length + ys.length ≤ 100000) (q : ∀ z H', Same H H' → SqT K H' z ((xs ++ ys).map V.str) → Q (.ref z) H') : rCatA K (.ref a) (.ref b) H Q := by
  refine ⟨a, b, xs.map V.str, ys.map V.str, rfl, rfl, h1, h2, by rw [List.length_map, List.length_map]; exact Nat.le_of_lt (big hn), fun e => ?_, fun _ e => ?_, fun _ _ z nz => ?_⟩
  · have e' : xs = [] := List.map_eq_nil_iff.mp e
    subst e'
    exact q b H (Same.refl H) h2
  · have e' : ys = [] := List.map_eq_nil_iff.mp e
    subst e'
    refine q a H (Same.refl H) ?_
    rw [List.append_nil]
    exact h1
  · refine q z _ (same_upd nz) (st_ ?_)
    rw [upd_same, List.map_append]
end
end Cb
namespace Cb
open PySem PySem.Spec PyProof.Rows L2 PySem.W
/-- x = [], then the rest -/
theorem sq_lst {i : Nat} {rest : TS} {D : Ends} {σ : Stt} {H : Hp} (h : ∀ p, H p = none → rest D (σ.set i (some (.ref p))) (upd H p (.lst []))) : tSeq (tAsg (tLst tNil) (gName i)) rest D σ H := ⟨Nat.zero_le _, fun p hp => h p hp⟩
theorem sq_for {wi : TI} {g : TG} {tb u : TS} {D : Ends} {σ : Stt} {H : Hp} (h : tFor wi g tb { D with nx := u D } σ H) : tSeq (tFor wi g tb) u D σ H := h
theorem sq_while {tc : TT} {tb u : TS} {D : Ends} {σ : Stt} {H : Hp} (h : tWhile tc tb { D with nx := u D } σ H) : tSeq (tWhile tc tb) u D σ H := h
end Cb
namespace Cb
open PySem PySem.Spec PyProof.Rows L2 PySem.W
/-- sorted(xs, key=len), xs a list of sets of people -/
def tSrtLen (K : Frag) (ta : TE) : TE := fun σ H Q => ta σ H fun x H1 => ∃ (a : Addr) (bs : List (V × List Str)), x = .ref a ∧ SqL K H1 a (bs.map (·.1)) ∧ (∀ b ∈ bs, S1 K H1 b.1 b.2) ∧
  ∀ p, H1 p = none → Q (.ref p) (upd H1 p (.lst ((bs.mergeSort (dataLe false fun b : V × List Str => PyData.int b.2.length)).map (·.1))))
theorem pe_srtLen {X : Cx} {p q pos kpos : Pos} {e : Expr} {ta : TE} (hu : X.A.units + 64 < cLine) (ms : X.mg "sorted" = none) (ml : X.mg "len" = none) (gs : Gl X "sorted") (gl : Gl X "len") (ha : PE X e ta)
    (he : backTo pos (starEach [e] X.env) = (false, eval e X.env) :: backTo pos (starEach [] X.env) := by rfl) (hpl : (backTo pos (starEach [e] X.env)).any (·.1) = false := by rfl)
    (hall : (backToKw pos (keywordEach [⟨some "key", .Name "len" q, kpos⟩] X.env)).all (·.1.isSome) = true := by rfl) (hnone : (backToKw pos (keywordEach [⟨some "key", .Name "len" q, kpos⟩] X.env)).any (·.1.isNone) = false := by rfl)
    (hks : (backToKw pos (keywordEach [⟨some "key", .Name "len" q, kpos⟩] X.env)).filterMap (·.1) = [Str.ofString "key"] := by rfl)
    (hst : starEach [e] X.env = (false, eval e X.env) :: starEach [] X.env := by rfl) : PE X (.Call (.Name "sorted" p) [e] [⟨some "key", .Name "len" q, kpos⟩] pos) (tSrtLen X.K ta) := by
  refine ⟨fun pins s σ H Q I h => wpAny_Call_Name_kw (ld_blt I gs ms (u := .builtin "sorted") (by decide +kernel) ?_)⟩
  refine PyProof.Rows.callWith_kw (thn ((pa_cons ha pa_nil hst).run pos pins s σ H (fun vs H1 => ∃ x, vs = [x] ∧ ∃ (a : Addr) (bs : List (V × List Str)), x = .ref a ∧ SqL X.K H1 a (bs.map (·.1)) ∧ (∀ b ∈ bs, S1 X.K H1 b.1 b.2) ∧
    ∀ p, H1 p = none → Q (.ref p) (upd H1 p (.lst ((bs.mergeSort (dataLe false fun b : V × List Str => PyData.int b.2.length)).map (·.1))))) I ?_) fun us s1 hz => ?_) he hpl hall hnone
  · unfold tSrtLen at h
    exact (show ta σ H (fun x H1 => ∃ y, [x] = [y] ∧ _) from by
      have h2 : ta σ H (fun x H1 => ∃ (a : Addr) (bs : List (V × List Str)), x = .ref a ∧ SqL X.K H1 a (bs.map (·.1)) ∧ (∀ b ∈ bs, S1 X.K H1 b.1 b.2) ∧
        ∀ p, H1 p = none → Q (.ref p) (upd H1 p (.lst ((bs.mergeSort (dataLe false fun b : V × List Str => PyData.int b.2.length)).map (·.1))))) := h
      have e : (fun (x : V) (H1 : Hp) => ∃ y, [x] = [y] ∧ ∃ (a : Addr) (bs : List (V × List Str)), y = .ref a ∧ SqL X.K H1 a (bs.map (·.1)) ∧ (∀ b ∈ bs, S1 X.K H1 b.1 b.2) ∧
        ∀ p, H1 p = none → Q (.ref p) (upd H1 p (.lst ((bs.mergeSort (dataLe false fun b : V × List Str => PyData.int b.2.length)).map (·.1))))) =
          fun x H1 => ∃ (a : Addr) (bs : List (V × List Str)), x = .ref a ∧ SqL X.K H1 a (bs.map (·.1)) ∧ (∀ b ∈ bs, S1 X.K H1 b.1 b.2) ∧
        ∀ p, H1 p = none → Q (.ref p) (upd H1 p (.lst ((bs.mergeSort (dataLe false fun b : V × List Str => PyData.int b.2.length)).map (·.1)))) := by
        funext x H1
        apply propext
        constructor
        · rintro ⟨y, e, z⟩
          cases e
          exact z
        · exact fun z => ⟨x, rfl, z⟩
      rw [e]
      exact h2)
  · obtain ⟨vs, H1, I1, r1, x, rfl, a, bs, rfl, hs, hb, q1⟩ := hz
    rw [Vals.ref1 r1]
    show wpAny _ _ (evalAll [(do let v ← eval (.Name "len" q) X.env; standAt pos; pure v)]) _ _ s1
    refine wpAny_evalAll_cons (wpAny_bind (ld_blt I1 gl ml (u := .builtin "len") (by decide +kernel) (wpAny_bind (wpAny_standAt (wpAny_pure (wpAny_evalAll_nil ?_))))))
    rw [hks]
    obtain ⟨its, rv, hl, hz⟩ := I1.list hs
    have e0 := each_in (fun b : V × List Str => b.1) rv
    have hn := line63
    refine sorted_key_data (R := fun u b => RelV b.1 u) (b := false) (f := .builtin "len") (kw := [("key", .builtin "len")]) (fun b : V × List Str => PyData.int b.2.length) hl.isList e0 (fun d hd d' hd' => ?_) (.inr fun d hd => ?_) (by rw [List.length_map] at hz; exact hz) (fun b _ => ?_) (ksk_s1 _ _) (fun x => ksk_l1 _ _) (fun x => ksk_t4 "len" x) (fun v b hr hbm h tk keep => ?_) fun out c h' tk keep _ hat h1 h2 => ?_
    · obtain ⟨b, _, rfl⟩ := List.mem_map.mp hd
      obtain ⟨b', _, rfl⟩ := List.mem_map.mp hd'
      simp [alike]
    · obtain ⟨b, _, rfl⟩ := List.mem_map.mp hd
      exact ⟨fun z => (nomatch z), fun _ z => (nomatch z)⟩
    · simp [PyData.depth]
      omega
    · obtain ⟨t, e, ht⟩ := hb b hbm
      rw [e] at hr
      cases hr
      obtain ⟨ws, r', ⟨o, ho, hc, n, hd⟩, hz'⟩ := I1.tuple ht
      have hlen := r'.length
      rw [List.length_map] at hlen hz'
      exact len_tuple (items := ws.toArray) ⟨o, keep _ _ ho, hc, n, hd⟩ (by simp only [List.size_toArray]; omega) ⟨h, tk + 1 + 1, rfl, fun _ _ e => e, by rw [List.size_toArray, ← hlen]; exact .int _ _⟩
    · have ro := each_out (fun b : V × List Str => b.1) h2
      have hl2 : ((bs.mergeSort (dataLe false fun b : V × List Str => PyData.int b.2.length)).map (·.1)).length ≤ sizeLine := by
        rw [List.length_map, List.length_mergeSort, ← List.length_map (f := (·.1))]
        exact hz
      exact ⟨.ref _, upd H1 (s1.heap.objs.size + 1) (.lst ((bs.mergeSort (dataLe false fun b : V × List Str => PyData.int b.2.length)).map (·.1))), I1.laid (t' := tk) keep (Nat.le_succ _) ⟨hl2, out, c, ro, hat⟩, rfl, q1 _ (I1.hok.fresh (Nat.le_succ _))⟩
end Cb

/-! A def called by its one parameter's name; slices and sums of lists of crews. -/
namespace Cb
open PySem PySem.Spec PyProof.Rows L2 PySem.W
theorem sq_set {i : Nat} {te : TE} {rest : TS} {D : Ends} {σ : Stt} {H : Hp} (h : te σ H fun x H1 => rest D (σ.set i (some x)) H1) : tSeq (tAsg te (gName i)) rest D σ H := h
section
variable {X : Cx} {k : Nat} {f : Addr} {fd : FuncData} {CX : CXT} {ps : List Str} {sp : Sp} {x y : Str} {p pos : Pos} {kws : List Keyword} {tk : TA} {E : XK}
/-- f(y = e) -/
theorem pe_callK1 (F : FnOk X.prog X.w X.K X.mg X.base CX k f fd [y] sp) (hr : Room k X.A) (hg : Gl X x) (hm : X.mg x = some (.ref f)) (hk : keepIn X.K (.ref f) = true) (hb : ∀ (s : Shared) (u : Value), BindsTo s fd ⟨[], [(y, u)]⟩ [(y, u)]) (hx : Passes CX X E) (hkw : PK X kws tk)
    (hall : (backToKw pos (keywordEach kws X.env)).all (·.1.isSome) = true := by rfl) (hks : (backToKw pos (keywordEach kws X.env)).filterMap (·.1) = [y] := by rfl) (hdb : (x == ("__debug__" : Str)) = false := by decide)
    (hpl : ((backTo pos (starEach [] X.env)).any (·.1) || (backToKw pos (keywordEach kws X.env)).any (·.1.isNone)) = false := by rfl) :
    PE X (.Call (.Name x p) [] kws pos) (tCall sp [] E tk) := by
  refine ⟨fun pins s σ H Q I h => ?_⟩
  refine wpAny_Call_Name_kw (ld_glob I hg hm ?_ hdb)
  refine PySem.W.callWith_KW0 (h₀ := X.base) I.ok.mod.kin hk hall ?_ hpl
  refine thn (hkw.run pos pins s σ H _ I h) fun ws s2 ⟨zs, H2, I2, rz, q2⟩ => ⟨I2.kIn, ?_⟩
  rw [hks]
  have q3 : sp (zs ++ []) H2 Q E := q2
  rw [List.append_nil] at q3
  have hl := F.len _ _ _ _ q3
  have hl2 := rz.length
  obtain ⟨u, rfl⟩ : ∃ u, ws = [u] := by
    match ws, hl2 with
    | [], e => rw [hl] at e; simp at e
    | [u], _ => exact ⟨u, rfl⟩
    | _ :: _ :: _, e => rw [hl] at e; simp at e
  refine wpAny_call (codeAny_mono (F.run X.A X.stack s2 H2 ⟨[], [(y, u)]⟩ [u] zs Q E hr I2.env0 (hb s2 u) rz q3) fun r s' hq => ?_)
  cases r with
  | error e => exact hx pins σ _ _ e s' I2 hq
  | ok fl =>
    cases fl with
    | ret u => exact I2.after hq
    | next => exact False.elim hq
    | brk => exact False.elim hq
    | cont => exact False.elim hq
end
section
variable {K : Frag} {H : Hp} {Q : VK}
theorem slA_teams {x : V} {ts : List (List Str)} {lo hi : Option Int} (h : S2 K H x ts) (q : ∀ v H' ts', Same H H' → S2 K H' v ts' → ts'.length ≤ HT.sIx ts.length ts.length hi - HT.sIx ts.length 0 lo → (∀ t ∈ ts', t ∈ ts) → Q v H') : rSlA K x lo hi H Q := by
  obtain ⟨a, xs, rfl, ha, hp⟩ := h
  have hl := prd_len hp
  refine ⟨a, xs, rfl, ha, fun hw => q _ H ts (Same.refl _) ⟨a, xs, rfl, ha, hp⟩ (by rw [← hl, hw.1, hw.2]; omega) (fun _ z => z), fun _ p np => ?_⟩
  have s := same_upd (o := .tup (cutV xs lo hi)) np
  refine q (.ref p) _ ((ts.drop (HT.sIx xs.length 0 lo)).take (HT.sIx xs.length xs.length hi - HT.sIx xs.length 0 lo)) s ⟨p, _, rfl, st_ upd_same, prd_mono (fun _ _ z => z.same s) (prd_take _ (prd_drop _ hp))⟩ ?_ fun t ht => List.mem_of_mem_drop (List.mem_of_mem_take ht)
  rw [List.length_take, ← hl]
  omega
theorem cat_teams {x y : V} {ts us : List (List Str)} (h1 : S2 K H x ts) (h2 : S2 K H y us) (hn : ts.length + us.length ≤ 100000) (q : ∀ v H', Same H H' → S2 K H' v (ts ++ us) → Q v H') : rCatA K x y H Q := by
  have g1 := h1
  have g2 := h2
  obtain ⟨a, xs, rfl, ha, hp⟩ := h1
  obtain ⟨b, ys, rfl, hb, hq⟩ := h2
  have l1 := prd_len hp
  have l2 := prd_len hq
  refine ⟨a, b, xs, ys, rfl, rfl, ha, hb, Nat.le_of_lt (big (by omega)), fun e => ?_, fun _ e => ?_, fun _ _ p np => ?_⟩
  · subst e
    have : ts = [] := List.eq_nil_of_length_eq_zero (by simpa using l1.symm)
    subst this
    exact q _ H (Same.refl _) g2
  · subst e
    have : us = [] := List.eq_nil_of_length_eq_zero (by simpa using l2.symm)
    subst this
    refine q _ H (Same.refl _) ?_
    rw [List.append_nil]
    exact g1
  · have s := same_upd (o := .tup (xs ++ ys)) np
    exact q _ _ s ⟨p, _, rfl, st_ upd_same, prd_mono (fun _ _ z => z.same s) (prd_app hp hq)⟩
theorem shaped_nilT : SeqAt.shaped (.tuple []) = true := by
  unfold SeqAt.shaped
  simp [PyData.canLay0, PyData.canLayAll0, PyData.depth, PyData.depthAll]
end
end Cb

/-! Sets of texts: made, added to, sorted. -/
namespace Cb
open PySem PySem.Spec PyProof.Rows L2 PySem.W
section
variable (P : Program) (w : World)
/-- the set at a holds just the texts of l -/
structure TxS (h : Heap) (a : Addr) (l : List Str) (D : Froz.SD) : Prop where
  ob : h.get? a = some (Froz.sObj "set" D)
  ok : Froz.TxOk P w D l
  nd : l.Nodup
  few : l.length < scanBound
  up : Ris D.2.2.place.toList
  led : w.params.followText "set-order" = true ∨ D.2.2.led = true
def SetS (h : Heap) (a : Addr) (l : List Str) : Prop := ∃ D, TxS P w h a l D
/-- as a thing of the heap -/
def SetSO (a : Addr) (l : List Str) : HO := .ext fun h => SetS P w h a l
end
section
variable {P : Program} {w : World} {A : Around} {E : Value → Shared → Prop} {s : Shared} {a : Addr} {l : List Str} {D : Froz.SD}
theorem ris_tail {ep : Nat} {es : Array (Int × Value)} {t : SetTable} (b : Bool) (h : Ris t.place.toList) : Ris (Froz.tailTx ep es t b).2.2.place.toList := by
  unfold Froz.tailTx
  by_cases c : (!b && t.tooFull) = true
  · rw [if_pos c]
    exact relayAll_ris t es _
  · rw [if_neg c]
    exact h
theorem led_tail {ep : Nat} {es : Array (Int × Value)} {t : SetTable} (b : Bool) : (Froz.tailTx ep es t b).2.2.led = t.led := by
  unfold Froz.tailTx
  by_cases c : (!b && t.tooFull) = true
  · rw [if_pos c]
    exact relayAll_led t es _
  · rw [if_neg c]
theorem ris_add {h : Int} {v : Value} (r : Ris D.2.2.place.toList) : Ris (Froz.addTx h v D).2.2.place.toList := by
  have r1 := layNew_ris D.2.2 D.1 h v r
  unfold Froz.addTx
  refine ris_tail _ ?_
  by_cases c : (layNew D.2.2 D.1 h v).2.1.plain = true
  · rw [if_pos c]
    exact r1
  · rw [if_neg c]
    exact r1
theorem led_add {h : Int} {v : Value} : (Froz.addTx h v D).2.2.led = D.2.2.led := by
  have r1 := layNew_led D.2.2 D.1 h v
  unfold Froz.addTx
  rw [led_tail]
  by_cases c : (layNew D.2.2 D.1 h v).2.1.plain = true
  · rw [if_pos c]
    exact r1
  · rw [if_neg c]
    exact r1
theorem SetS.at {h h' : Heap} (x : SetS P w h a l) (k : ∀ o, h.get? a = some o → h'.get? a = some o) : SetS P w h' a l := by
  obtain ⟨D, t⟩ := x
  exact ⟨D, k _ t.ob, t.ok, t.nd, t.few, t.up, t.led⟩
theorem setSO_ok {H : Hp} {h : Heap} (x : SetS P w h a l) : ObjOk P w H h a (SetSO P w a l) := by
  obtain ⟨D, t⟩ := x
  exact ⟨⟨D, t⟩, ⟨_, t.ob⟩, fun h1 h2 y k => y.at k⟩
theorem setSO_get {X : Cx} {pins : List (Addr × Obj)} {σ : Stt} {H : Hp} {s : Shared} (I : Inv X pins σ H s) (e : H a = some (SetSO X.prog X.w a l)) : SetS X.prog X.w s.heap a l := (I.hok a _ e).1
/-- a new set -/
theorem setS_new (P : Program) (w : World) (h : Heap) : SetS P w (h.push { cls := .type "set", dict := none, data := .set #[] 0 (.fresh 0 0 (!w.params.followText "set-order")) }) h.objs.size [] := by
  refine ⟨(#[], 0, .fresh 0 0 (!w.params.followText "set-order")), Heap.get?_push_size _ rfl, .nil (by rfl), .nil, by decide, .nil, ?_⟩
  show _ ∨ (!w.params.followText "set-order") = true
  cases w.params.followText "set-order" with
  | true => exact .inl rfl
  | false => exact .inr rfl
/-- l with k -/
def put1 (l : List Str) (k : Str) : List Str := if k ∈ l then l else k :: l
theorem put1_nd {l : List Str} (h : l.Nodup) (k : Str) : (put1 l k).Nodup := by
  unfold put1
  by_cases c : k ∈ l
  · rw [if_pos c]
    exact h
  · rw [if_neg c]
    exact List.nodup_cons.mpr ⟨c, h⟩
theorem put1_mem {l : List Str} {k x : Str} : x ∈ put1 l k ↔ x ∈ l ∨ x = k := by
  unfold put1
  by_cases c : k ∈ l
  · rw [if_pos c]
    exact ⟨.inl, fun z => z.elim id fun e => e ▸ c⟩
  · rw [if_neg c, List.mem_cons]
    exact Or.comm
theorem put1_len (l : List Str) (k : Str) : (put1 l k).length ≤ l.length + 1 := by
  unfold put1
  split
  · omega
  · simp
theorem addS_hashed {k : Str} {u : Tok} {Q : Bool → Shared → Prop} (T : TxS P w s.heap a l D) (room : l.length + 1 < scanBound) (q : ∀ h' b, Heap.SameBut a s.heap h' → SetS P w h' a (put1 l k) → Q b { s with heap := h' }) :
    wpAny (model P w) A (setAddHashed a (.str k u) (hashStr w k)) Q E s := by
  by_cases c : k ∈ l
  · obtain ⟨es, ep, t⟩ := D
    have key : (strKind P w).is k (.str k u) = true := Froz.is_str k u
    have few : es.size < scanBound := by rw [show es.size = l.length from T.ok.sz]; exact T.few
    have el : ElemsOf (strKind P w) es.toList := T.ok.el
    have dt : (Froz.sObj "set" (es, ep, t)).data = .set es ep t := rfl
    have ft : t.fits es.size = true := T.ok.fit
    unfold setAddHashed setAddHashedIn
    refine wpAny_holding (wpAny_bind (wpAny_setState_of T.ob dt ft ?_))
    dsimp only
    rw [byScan_of rfl few el]
    simp only [↓reduceIte]
    unfold setAddByScan
    refine wpAny_bind (wpAny_bind (wpAny_rule (wpAny_bind (wpAny_setScan_of (knd := strKind P w) (k := k) key T.ob dt ft el ?_))))
    cases hf : List.findIdx? (fun e => (strKind P w).is k e.2) es.toList with
    | none =>
      obtain ⟨e, he, z⟩ := (T.ok.mem k).mp c
      have z2 := List.findIdx?_eq_none_iff.mp hf e he
      rw [z] at z2
      cases z2
    | some j =>
      dsimp only
      refine wpAny_pure (wpAny_pure (q s.heap false (.refl a s.heap) ?_))
      unfold put1
      rw [if_pos c]
      exact ⟨(es, ep, t), T⟩
  · refine Froz.add_x T.ob T.ok c room (q _ true (.update s.heap a _) ?_)
    unfold put1
    rw [if_neg c]
    refine ⟨_, Froz.get_upd _ T.ob rfl, Froz.add_ok u T.ok, List.nodup_cons.mpr ⟨c, T.nd⟩, room, ris_add T.up, ?_⟩
    rw [led_add]
    exact T.led
/-- set.add of a text -/
theorem addS_call {k : Str} {u : Tok} {Q : Value → Shared → Prop} (T : TxS P w s.heap a l D) (room : l.length + 1 < scanBound) (q : ∀ h', Heap.SameBut a s.heap h' → SetS P w h' a (put1 l k) → Q .none { s with heap := h', toks := s.toks + 1 }) :
    wpAny (model P w) A (call (.builtin "set.add") [.ref a, .str k u]) Q E s := by
  refine wpAny_call_entry F.slot_set_add (show s.TypeIs (.ref a) "set" from ⟨_, T.ob, rfl⟩) F.entry_set_add ?_ (F.args_set_add_2 _ _)
  unfold Builtin.«set.add» Builtin.Frozenset.oneOther
  simp only [List.isEmpty_nil, bind_assoc]
  unfold Builtin.Frozenset.addrOf setAdd
  refine wpAny_bind (wpAny_pure ?_)
  try dsimp only
  refine wpAny_bind (wpAny_pure ?_)
  try dsimp only
  refine wpAny_bind (wpAny_holding (wpAny_bind ((strKind P w).pyHash (Froz.is_str k u) ?_)))
  refine addS_hashed (s := { s with toks := s.toks + 1 }) ⟨T.ob, T.ok, T.nd, T.few, T.up, T.led⟩ room fun h' b sb x => ?_
  show wpAny _ _ (ret Value.none) _ _ _
  exact wpAny_pure ⟨_, rfl, q h' sb x⟩
end
section
variable {X : Cx} {pins : List (Addr × Obj)} {σ : Stt} {H : Hp} {s : Shared} {E : Value → Shared → Prop} {D : Addr} {l : List Str}
theorem addS_ok {k : Str} {u : Tok} {Q : Value → Shared → Prop} (I : Inv X pins σ H s) (hD : H D = some (SetSO X.prog X.w D l)) (room : l.length + 1 < scanBound)
    (q : ∀ s', Inv X pins σ (upd H D (SetSO X.prog X.w D (put1 l k))) s' → Q .none s') : wpAny (model X.prog X.w) X.A (call (.builtin "set.add") [.ref D, .str k u]) Q E s := by
  obtain ⟨T0, T⟩ := setSO_get I hD
  refine addS_call T room fun h' sb x => ?_
  obtain ⟨T1, t1⟩ := id x
  exact q _ (I.write (e := D) (t' := s.toks + 1) (by rw [hD]; trivial) (.inl rfl) (fun b u hb hu => (sb.2 b hb).trans hu) ⟨_, t1.ob⟩ (setSO_ok x))
/-! ### sorted of a set of texts -/
def rSrtS (P : Program) (w : World) : List V → Hp → VK → Prop := fun vs H Q => ∃ (a : Addr) (l : List Str), vs = [.ref a] ∧ H a = some (SetSO P w a l) ∧ ∀ p ks, H p = none → ks.Perm l → Q (.ref p) (upd H p (.lst ((srt ks).map V.str)))
theorem perm_of_sub : ∀ {l L : List Str}, l.Nodup → (∀ x ∈ l, x ∈ L) → L.length ≤ l.length → L.Perm l
  | [], L, _, _, h => by
    have : L = [] := List.eq_nil_of_length_eq_zero (Nat.le_zero.mp h)
    rw [this]
  | x :: l, L, nd, sub, h => by
    obtain ⟨n1, n2⟩ := List.nodup_cons.mp nd
    have hx := sub x List.mem_cons_self
    have p := List.perm_cons_erase hx
    refine p.trans ((perm_of_sub n2 (fun y hy => ?_) ?_).cons x)
    · exact (List.mem_erase_of_ne fun e => n1 (by rw [← e]; exact hy)).mpr (sub y (List.mem_cons_of_mem _ hy))
    · rw [List.length_erase_of_mem hx]
      simp at h
      omega
/-- the text of a value -/
def txt : Value → Str
  | .str k _ => k
  | _ => ""
theorem txt_each : ∀ vs : List Value, (∀ v ∈ vs, ∃ k tk, v = Value.str k tk) → EachIs (fun v k => ∃ tk, v = Value.str k tk) vs (vs.map txt)
  | [], _ => .nil
  | v :: vs, h => by
    obtain ⟨k, tk, rfl⟩ := h v List.mem_cons_self
    exact .cons ⟨tk, rfl⟩ (txt_each vs fun u hu => h u (List.mem_cons_of_mem _ hu))
theorem cr_srtS (hc : X.calm = true) (hu : X.A.units + 64 < cLine) : CallR X (.builtin "sorted") (rSrtS X.prog X.w) := by
  intro pins s σ H vs us Q I r h
  obtain ⟨a, l, rfl, hD, q⟩ := h
  rw [Vals.ref1 r]
  obtain ⟨⟨es, ep, t⟩, T⟩ := setSO_get I hD
  refine call_function_entry_kw kind_sorted plain_sorted entry_sorted (args_sorted1 _) ?_
  unfold Builtin.«sorted»
  refine wpAny_bind (m := checkCount "sorted" 1 1 _) (wpAny_pure (wpAny_bind ?_))
  have few : es.size < scanBound := by rw [show es.size = l.length from T.ok.sz]; exact T.few
  refine collect_set (a := a) (es := es) (ep := ep) (t := t) (I.ok.hd hc) ⟨_, T.ob, rfl, rfl⟩ T.ok.fit few T.up T.led fun s1 vs k1 z1 g1 o1 pm => ?_
  have each : ∀ v ∈ vs, ∃ k tk, v = Value.str k tk := fun v hv => by
    obtain ⟨e, he, z⟩ := List.mem_map.mp (pm.mem_iff.mp hv)
    obtain ⟨⟨k, hk, _⟩, _⟩ := T.ok.el e he
    obtain ⟨tk, e2⟩ := Value.isStrOf_shape hk
    exact ⟨k, tk, by rw [← z]; exact e2⟩
  have few2 : vs.length ≤ sizeLine := by
    rw [pm.length_eq, List.length_map, Array.length_toList]
    exact fits_of_scanBound few
  have ke : EachIs (fun v k => ∃ tk, v = Value.str k tk) vs (vs.map txt) := txt_each vs each
  have pk : (vs.map txt).Perm l := by
    refine perm_of_sub T.nd (fun k hk => ?_) ?_
    · obtain ⟨e, he, z⟩ := (T.ok.mem k).mp hk
      obtain ⟨tk, e2⟩ := Value.isStrOf_shape z
      refine List.mem_map.mpr ⟨e.2, pm.mem_iff.mpr (List.mem_map.mpr ⟨e, he, rfl⟩), ?_⟩
      rw [e2]
      rfl
    · rw [List.length_map, pm.length_eq, List.length_map, Array.length_toList]
      exact Nat.le_of_eq T.ok.sz
  have at1 : (s1.heap.push (seqObj "list" vs.toArray 0)).get? s1.heap.objs.size = some (seqObj "list" vs.toArray 0) := Heap.get?_push_size _ rfl
  refine wpAny_bind (wpAny_newList ?_ few2)
  refine wpAny_bind (wpAny_holding (wpAny_call_entry_kw slot_list_sort ⟨_, at1, rfl⟩ entry_list_sort ?_ (args_list_sort _)))
  have er : EachIs (fun v k => ∃ as, Reads (sortingHeap (s1.heap.push (seqObj "list" vs.toArray 0)) s1.heap.objs.size vs) v (PyData.str k) as) vs (vs.map txt) := ke.mono fun v k ⟨tk, e⟩ => ⟨[], by rw [e]; exact .str _ _⟩
  have hal : AllAlike ((vs.map txt).map PyData.str) := fun d hd d' hd' => by
    obtain ⟨k, _, rfl⟩ := List.mem_map.mp hd
    obtain ⟨k', _, rfl⟩ := List.mem_map.mp hd'
    simp [alike]
  have hso : Sortable ((vs.map txt).map PyData.str) := .inr fun d hd => by
    obtain ⟨k, _, rfl⟩ := List.mem_map.mp hd
    exact ⟨fun z => (nomatch z), fun _ z => (nomatch z)⟩
  refine list_sort_vals (s := { s1 with heap := s1.heap.push (seqObj "list" vs.toArray 0) }) at1
    (SortsAt.data (s := { s1 with heap := sortingHeap (s1.heap.push (seqObj "list" vs.toArray 0)) s1.heap.objs.size vs }) (each_map (R := fun v d => ∃ as, Reads (sortingHeap (s1.heap.push (seqObj "list" vs.toArray 0)) s1.heap.objs.size vs) v d as) PyData.str er) hal hso (bound_map (A := X.A.in1.in1) (enc := PyData.str) (bs := vs.map txt) fun k _ => by simp only [PyData.depth]; show X.A.units + 1 + 1 + 0 < cLine; omega)) few2 ?_
  have outs : EachIs (fun v k => ∃ tk, v = Value.str k tk) (sortVals (dataKind (sortingHeap (s1.heap.push (seqObj "list" vs.toArray 0)) s1.heap.objs.size vs) ((vs.map txt).map PyData.str)) false vs vs) (srt (vs.map txt)) := sortVals_data false ke er hal
  generalize sortVals (dataKind (sortingHeap (s1.heap.push (seqObj "list" vs.toArray 0)) s1.heap.objs.size vs) ((vs.map txt).map PyData.str)) false vs vs = out at outs
  refine ⟨_, rfl, wpAny_pure ⟨_, rfl, ?_⟩⟩
  obtain ⟨c, hc2⟩ := sortedHeap_at (out := out.toArray) at1
  have keep : ∀ b o, s.heap.get? b = some o → (sortedHeap (s1.heap.push (seqObj "list" vs.toArray 0)) s1.heap.objs.size vs out.toArray).get? b = some o := fun b o e => by
    have e1 := k1 b o e
    have lt := Heap.lt_size e1
    rw [sortedHeap_old (Nat.ne_of_lt lt) (by rw [size_push']; exact Nat.lt_succ_of_lt lt)]
    exact Heap.get?_push_of_some _ e1
  have hn := I.hok.fresh z1
  have ro : Vals ((srt (vs.map txt)).map V.str) out := each_out (fun k => V.str k) outs
  have small : ((srt (vs.map txt)).map V.str).length ≤ sizeLine := by
    rw [List.length_map, srt_len, List.length_map]
    exact few2
  exact ⟨.ref _, upd H s1.heap.objs.size (.lst ((srt (vs.map txt)).map V.str)), I.call' (ch := []) o1 (Un.laid keep z1 hn) (I.hok.laid keep z1 ⟨small, out, c, ro, hc2⟩) (by rw [g1]; exact I.bare) (fun _ z => nomatch z), rfl, q _ _ hn pk⟩
end
end Cb

/-! Set comprehensions with several for: sets of texts. -/
namespace Cb
open PySem PySem.Spec PyProof.Rows L2 PySem.W
section turns
variable {prog : Program} {w : World} {A : Around} {R : Result → Shared → Prop} {elt tg i1 : Expr} {gs : List Comprehension} {sc : Scope} {pos : Pos} {k : Nat} {fs : List Expr} {p : Pos} {it acc : Value} {env : Env} {bd : Sem PySem.Fin → Sem PySem.Fin} {s : Shared}
theorem loopC (ht : TurnIs (.SetComp elt gs sc pos) tg k fs p it acc env bd) (I : Nat → Shared → Prop)
    (turn : ∀ n s, I n s → wpAny (model prog w) A (pyNext it) (fun r s1 => match r with
      | none => R (.ok .next) s1
      | some v => wpAny (model prog w) A (letOwnedTupleGo tg it v) (fun _ s2 => wpAny (model prog w) A (assign tg env v) (fun _ s3 =>
          wpAny (model prog w) A (forIn fs true fun f r => if r = true then do let ok ← isTrue f env (eval f env); pure (ForInStep.yield ok) else pure (ForInStep.yield r)) (fun ok s4 =>
            if ok = true then Ends3 prog w A bd (fun s5 => ∃ m, m < n ∧ I m s5) s4 else ∃ m, m < n ∧ I m s4) (fun _ _ => False) s3) (fun _ _ => False) s2) (fun _ _ => False) s1) (fun _ _ => False) s)
    (n : Nat) (s : Shared) (h : I n s) : codeAny (model prog w) A (.compLoop (.SetComp elt gs sc pos) k it acc env) R s := by
  refine codeAny_loop rfl I (fun n s hI => ?_) n h
  show wpAny _ A ((compTurn (.SetComp elt gs sc pos) k it acc env).onRaise (fun x => do noteFrame x env; theTreesLotGoes x)) _ _ s
  refine wpAny_noted ?_
  rw [show compTurn (.SetComp elt gs sc pos) k it acc env = _ from ht]
  refine wpAny_bind (wpAny_standAt (wpAny_bind (thnF (turn n s hI) fun r s1 h1 => ?_)))
  match r, h1 with
  | none, h1 => exact wpAny_pure h1
  | some v, h1 =>
    refine wpAny_bind (thnF h1 fun _ s2 h2 => wpAny_bind (thnF h2 fun _ s3 h3 => wpAny_bind (thnF h3 fun ok s4 h4 => ?_)))
    cases ok with
    | false => exact wpAny_pure ⟨rfl, h4⟩
    | true => exact h4 _ _ _ fun s5 h5 => wpAny_pure ⟨rfl, h5⟩
def LastS (elt : Expr) (acc : Value) (env : Env) (n : Sem PySem.Fin) : Sem PySem.Fin := do
  (do let v ← eval elt env; standAt elt.pos; let _ ← call (.builtin "set.add") [acc, v])
  n
theorem lastS_ok {Z : Shared → Prop} (h : wpAny (model prog w) A (eval elt env) (fun x s1 => wpAny (model prog w) A (call (.builtin "set.add") [acc, x]) (fun _ s2 => Z s2) (fun _ _ => False) s1) (fun _ _ => False) s) : Ends3 prog w A (LastS elt acc env) Z s := by
  intro n Q E hn
  unfold LastS
  exact wpAny_bind (wpAny_bind (thnF h fun x s1 h1 => wpAny_bind (wpAny_standAt (wpAny_bind (thnF h1 fun _ s2 h2 => wpAny_pure (hn s2 h2))))))
/-- a later clause's iterator gives itself -/
theorem startC_ok (hc : ((gs)[k]?).elim false (fun g => g.is_async != 0) = false) (h0 : codeAny (model prog w) A (.compLoop (.SetComp elt gs sc pos) k it acc env) R s)
    (h : wpAny (model prog w) A (pyIter it) (fun it' s' => codeAny (model prog w) A (.compLoop (.SetComp elt gs sc pos) k it' acc env) R s') (fun _ _ => False) s) :
    codeAny (model prog w) A (.compStart (.SetComp elt gs sc pos) k it acc env) R s := by
  refine codeAny_of_tree ?_
  show wpAny _ _ ((compStart (.SetComp elt gs sc pos) k it acc env).onRaise (fun x => do noteFrame x env; standAt theWindowsPlace)) _ _ s
  refine wpAny_notedAt ?_
  unfold compStart
  rw [show ((clausesOf (.SetComp elt gs sc pos))[k]?).elim false (fun g => g.is_async != 0) = false from hc]
  show wpAny _ _ (ask >>= _) _ _ s
  refine wpAny_bind (wpAny_askSetting (wpAny_ite ?_))
  split
  · exact wpAny_pure (And.intro rfl h0)
  · refine wpAny_bind (wpAny_rule ?_)
    have jp : wpAny (model prog w) A (pyIter it >>= fun l => again (.compLoop (.SetComp elt gs sc pos) k l acc env)) (fun f s' => match f with
        | .done f => R (.ok f) s'
        | .again c' => c'.quiet = true ∧ codeAny (model prog w) A c' R s') (fun _ _ => False) s := wpAny_bind (thnF h fun it' s' h' => wpAny_pure ⟨rfl, h'⟩)
    show wpAny _ _ (match (clausesOf (.SetComp elt gs sc pos))[k]? with
      | some g => standAt g.iter.pos >>= fun _ => (pyIter it >>= fun l => again (.compLoop (.SetComp elt gs sc pos) k l acc env))
      | _ => (pyIter it >>= fun l => again (.compLoop (.SetComp elt gs sc pos) k l acc env))) _ _ s
    split
    · exact wpAny_bind (wpAny_standAt (thnF jp fun _ _ z => z))
    · exact thnF jp fun _ _ z => z
end turns
section forms
variable (elt t0 i0 t1 i1 : Expr) (f0 f1 : List Expr) (sc : Scope) (pos : Pos) (it acc : Value) (env : Env)
abbrev s1c : Expr := .SetComp elt [⟨t0, i0, f0, 0⟩] sc pos
theorem turnS1 : TurnIs (s1c elt t0 i0 f0 sc pos) t0 0 f0 i0.pos it acc env (LastS elt acc env) := by
  unfold TurnIs LastS
  rfl
abbrev s2c : Expr := .SetComp elt [⟨t0, i0, f0, 0⟩, ⟨t1, i1, f1, 0⟩] sc pos
theorem turnS2_0 : TurnIs (s2c elt t0 i0 t1 i1 f0 f1 sc pos) t0 0 f0 i0.pos it acc env (NextIs (s2c elt t0 i0 t1 i1 f0 f1 sc pos) i1 1 acc env) := by
  unfold TurnIs NextIs
  rfl
theorem turnS2_1 : TurnIs (s2c elt t0 i0 t1 i1 f0 f1 sc pos) t1 1 f1 i1.pos it acc env (LastS elt acc env) := by
  unfold TurnIs LastS
  rfl
end forms
/-- the element, put into the set at D -/
def tEndS (P : Program) (w : World) (te : TE) (D : Addr) : TB := fun σ H N => te σ H fun y H1 => ∃ (x : Str) (l : List Str), y = .str x ∧ H1 D = some (SetSO P w D l) ∧ l.length + 1 < scanBound ∧ N (upd H1 D (SetSO P w D (put1 l x)))
section
variable {Y : Cx} {elt tg i1 : Expr} {gs : List Comprehension} {sc : Scope} {pos p : Pos} {k : Nat} {fs : List Expr} {D : Addr} {bd : Sem PySem.Fin → Sem PySem.Fin} {wi : TI} {g : TG} {tt : TT} {te : TE} {tb : TB} {vI vs : List Nat}
theorem bd_lastS (P : Program) (w : World) (hx : Y.xe = fun _ _ => False) (he : PE Y elt te) (eP : Y.prog = P := by rfl) (ew : Y.w = w := by rfl) : Bd Y (LastS elt (.ref D) Y.env) (tEndS P w te D) [] := by
  subst eP ew
  intro pins σ H s N I h
  have q := he.run pins s σ H _ I h
  rw [hx] at q
  refine lastS_ok (thnF q fun x s1 hz => ?_)
  obtain ⟨yv, H1, I1, r1, x, l, rfl, hD, hl, nx⟩ := hz
  obtain ⟨tk, rfl⟩ := r1
  exact addS_ok I1 hD hl fun s2 I2 => ⟨_, I2, nx⟩
theorem bdC_clause (hx : Y.xe = fun _ _ => False) (hc : Y.calm = true) (tu : ∀ it, TurnIs (.SetComp elt gs sc pos) tg k fs p it (.ref D) Y.env bd) (hgs : ((gs)[k]?).elim false (fun g => g.is_async != 0) = false)
    (hs : ∀ x, foldedSetIterable i1 Y.env x = pure x) (hi : PI Y tg i1 wi) (hg : PG Y tg g) (ht : PTs Y fs tt) (hb : Bd Y bd tb vI) (hv : ∀ i ∈ vI, i ∈ vs) :
    Bd Y (NextIs (.SetComp elt gs sc pos) i1 k (.ref D) Y.env) (tCl wi g tt tb vs) vs := by
  intro pins σ H s N I h
  have q := hi.run pins s σ H _ I h
  rw [hx] at q
  refine next_ok hs (thnF q fun xv s1 hz => thnF hz fun itv s2 h2 => ?_)
  obtain ⟨it, fp, tn, J, H2, rfl, I2, T, st2, f2, W, ⟨m0, w0⟩, tr⟩ := h2
  have fpk : ∀ {H' : Hp}, (∀ b ∈ fp, H' b = none) → ∀ b ∈ fp, FpOk Y pins H' b := fun n b hb => ⟨n b hb, (f2 b hb).2⟩
  have lp : codeAny (model Y.prog Y.w) Y.A (.compLoop (.SetComp elt gs sc pos) k (.ref it) (.ref D) Y.env) (fun r s3 => match r with
      | .ok _ => ∃ H', Inv Y pins (wipe σ vs) H' s3 ∧ N H'
      | .error _ => False) s2 := by
    refine loopC (tu _) (fun n s' => ∃ j H', Inv Y pins (wipe σ vs) H' s' ∧ tn j s'.heap ∧ (∀ b ∈ fp, H' b = none) ∧ W j n H') (fun n s3 h3 => ?_) m0 s2 ⟨0, H2, I2.weak (wipe_length _ _) (fun _ _ e => (wipe_some e).1), st2, fun b hb => (f2 b hb).1, w0⟩
    obtain ⟨j, H3, I3, st3, n3, w3⟩ := h3
    rcases tr j n H3 w3 with ⟨stop, nx⟩ | ⟨go, N1, hN, step⟩
    · refine thnF (T.done Y rfl rfl rfl hc j pins s3 _ H3 (fun _ _ => False) I3 (fpk n3) st3 stop) fun r s4 hr => ?_
      obtain ⟨rfl, I4⟩ := hr
      exact ⟨H3, I4, nx⟩
    · refine thnF (T.item Y rfl rfl rfl hc j pins s3 _ H3 (fun _ _ => False) I3 (fpk n3) st3 go) fun r s4 hr => ?_
      obtain ⟨u, rfl, h4⟩ := hr
      refine thnF h4 fun _ s5 h5 => ?_
      obtain ⟨x, H5, I5, r5, y5, st5, n5⟩ := h5
      have a1 := hg.run _ s5 _ H5 x u _ (I5.pinned (fpk n5) (T.obj _ _ st5)) r5 (step x H5 y5)
      rw [hx] at a1
      refine thnF a1 fun _ s6 h6 => ?_
      obtain ⟨σ6, H6, I6, e6, q6⟩ := h6
      have a2 := ht.run _ s6 σ6 H6 _ I6 q6
      rw [hx] at a2
      refine thnF a2 fun b s7 h7 => ?_
      obtain ⟨H7, I7, q7⟩ := h7
      have back : ∀ {σ8 : Stt} {s' : Shared} {H' : Hp}, Inv Y (pins ++ pinsAt fp s5.heap) σ8 H' s' → σ8.length = σ6.length → (∀ (i : Nat) v, (wipe σ vs)[i]? = some (some v) → σ8[i]? = some (some v)) → N1 H' →
          ∃ m, m < n ∧ ∃ j H', Inv Y pins (wipe σ vs) H' s' ∧ tn j s'.heap ∧ (∀ b ∈ fp, H' b = none) ∧ W j m H' := fun {σ8 s' H'} I' hl hk nx => by
        obtain ⟨m', hm, w'⟩ := hN H' nx
        have at_ : ∀ b ∈ fp, ∀ o, s5.heap.get? b = some o → s'.heap.get? b = some o ∧ H' b = none := fun b hb o e =>
          ⟨(I'.pin (b, o) (List.mem_append_right _ (List.mem_append_right _ (mem_pinsAt hb e)))).1, (I'.pin (b, o) (List.mem_append_right _ (List.mem_append_right _ (mem_pinsAt hb e)))).2.1⟩
        refine ⟨m', hm, j + 1, H', I'.unpinned.weak (by rw [hl, ← wipe_length σ6 vs, e6]) hk, T.keep _ _ _ st5 fun b hb o e => (at_ b hb o e).1, fun b hb => ?_, w'⟩
        obtain ⟨o, e, _⟩ := T.obj _ _ st5 b hb
        exact (at_ b hb o e).2
      have k6 : ∀ (i : Nat) v, (wipe σ vs)[i]? = some (some v) → σ6[i]? = some (some v) ∧ i ∉ vs := fun i v e => by
        rw [← e6] at e
        exact wipe_some e
      cases b with
      | false => exact back I7 rfl (fun i v e => (k6 i v e).1) q7
      | true =>
        intro nn QQ EE hn
        refine hb _ σ6 H7 s7 N1 I7 q7 nn QQ EE fun s8 h8 => hn s8 ?_
        obtain ⟨H8, I8, nx⟩ := h8
        refine back I8 (wipe_length _ _) (fun i v e => ?_) nx
        rw [wipe_out fun z => (k6 i v e).2 (hv i z)]
        exact (k6 i v e).1
  exact startC_ok hgs lp (T.self Y.A 0 _ _ _ st2 lp)
end
section
variable {X : Cx}
/-- {elt for t0 in i0 for t1 in i1 ..}: D the new set -/
def tScN (P : Program) (w : World) (wi : TI) (g : TG) (tt : TT) (tb : Addr → TB) (vs : List Nat) : TE := fun σ H Q => wi σ H fun J H1 => ∀ D, H1 D = none → ∃ W : Nat → Nat → Hp → Prop, (∃ m, W 0 m (upd H1 D (SetSO P w D []))) ∧ ∀ i m H, W i m H →
  (J.stop i H ∧ Q (.ref D) H) ∨ (J.go i H ∧ ∃ N : Hp → Prop, (∀ H', N H' → ∃ m', m' < m ∧ W (i + 1) m' H') ∧ ∀ x H', J.yld i H x H' → g x (wipe σ vs) H' fun σ2 H2 => wipe σ2 vs = wipe σ vs ∧ tt σ2 H2 fun b H3 => if b = true then tb D σ2 H3 N else N H3)
theorem scN_ok {elt tg iter : Expr} {ifs : List Expr} {rest : List Comprehension} {scope : Scope} {own : List (Str × Nat)} {pos : Pos} {wi : TI} {g : TG} {tt : TT} {tb : Addr → TB} {vI : List Nat} {bd : Addr → Env → Sem PySem.Fin → Sem PySem.Fin}
    (hc : X.calm = true) (hN : X.N.Nodup) (hi : PI X tg iter wi) (ok : BlkOk X.N X.env.scope scope own) (hs : ∀ x, foldedSetIterable iter X.env x = pure x)
    (tu : ∀ (it D : Addr) (env : Env), TurnIs (.SetComp elt (⟨tg, iter, ifs, 0⟩ :: rest) scope pos) tg 0 ifs iter.pos (.ref it) (.ref D) env (bd D env))
    (hg : ∀ (s : Shared) (H : Hp) (C : Addr) (cl : List (Str × Addr)) (fp : List Addr), PG (X.blk s H scope (compEnvC scope cl C X.env) fp) tg g) (ht : ∀ (s : Shared) (H : Hp) (C : Addr) (cl : List (Str × Addr)) (fp : List Addr), PTs (X.blk s H scope (compEnvC scope cl C X.env) fp) ifs tt)
    (hb : ∀ (s : Shared) (H : Hp) (C : Addr) (cl : List (Str × Addr)) (fp : List Addr) (D : Addr), Bd (X.blk s H scope (compEnvC scope cl C X.env) fp) (bd D (compEnvC scope cl C X.env)) (tb D) vI) (hv : ∀ i ∈ vI, i ∈ own.map (·.2)) :
    PE X (.SetComp elt (⟨tg, iter, ifs, 0⟩ :: rest) scope pos) (tScN X.prog X.w wi g tt tb (own.map (·.2))) := by
  refine ⟨fun pins s σ H Q I h => ?_⟩
  rw [PpSet.eval_SetComp]
  have free_ : ∀ y ∈ scope.names, y.2 = .free → ∃ c, X.env.cells.lookup y.1 = some c := fun y hy e => I.ok.has _ (ok.free y hy e)
  refine wpAny_comprehension_free (use := none) rfl hs (closure_ok free_) ok.kind (fun y hy e => by rw [ok.uniq y hy, e]) (thn (hi.run pins s σ H _ I h) fun xv s1 hz => thn hz fun itv s2 h2 => ?_)
  obtain ⟨it, fp, tn, J, H2, rfl, I2, T, st2, f2, q⟩ := h2
  refine PpSet.newSet_ok (newEnv_comp ?_)
  generalize hD : s2.heap.objs.size = D
  obtain ⟨W, ⟨m0, w0⟩, tr⟩ := q D (I2.hok.fresh (Nat.le_of_eq hD))
  generalize es : ({ s2 with heap := s2.heap.push { cls := .type "set", dict := none, data := .set #[] 0 (.fresh 0 0 (!X.w.params.followText "set-order")) } } : Shared) = s3
  have h3 : s3.heap = s2.heap.push { cls := .type "set", dict := none, data := .set #[] 0 (.fresh 0 0 (!X.w.params.followText "set-order")) } := by rw [← es]
  have I3 : Inv X pins σ (upd H2 D (SetSO X.prog X.w D [])) s3 := by
    rw [← es]
    refine I2.laid (t' := s2.toks) (fun b o e => Heap.get?_push_of_some _ e) (Nat.le_of_eq hD) ?_
    rw [← hD]
    exact setSO_ok (setS_new X.prog X.w s2.heap)
  have f3 : ∀ b ∈ fp, FpOk X pins (upd H2 D (SetSO X.prog X.w D [])) b ∧ b < s3.heap.objs.size := fun b hb => by
    obtain ⟨o, e, _⟩ := T.obj _ _ st2 b hb
    have lt_ := Heap.lt_size e
    refine ⟨⟨?_, (f2 b hb).2⟩, by rw [h3, Heap.size_push]; exact Nat.lt_succ_of_lt lt_⟩
    rw [upd_ne (by rw [← hD]; exact Nat.ne_of_lt lt_)]
    exact (f2 b hb).1
  have st3 : tn 0 s3.heap := T.keep _ _ _ st2 fun b _ o e => by rw [h3]; exact Heap.get?_push_of_some _ e
  have I4 := block_start I3 ok hN f3
  have pg := hg s3 (upd H2 D (SetSO X.prog X.w D [])) s3.heap.objs.size (cellsFrom (s3.heap.objs.size + 1) scope.names (cloFrom X.env.cells scope.names [])) fp
  have pt := ht s3 (upd H2 D (SetSO X.prog X.w D [])) s3.heap.objs.size (cellsFrom (s3.heap.objs.size + 1) scope.names (cloFrom X.env.cells scope.names [])) fp
  have pb := hb s3 (upd H2 D (SetSO X.prog X.w D [])) s3.heap.objs.size (cellsFrom (s3.heap.objs.size + 1) scope.names (cloFrom X.env.cells scope.names [])) fp D
  show codeAny _ _ (.compStart (.SetComp elt (⟨tg, iter, ifs, 0⟩ :: rest) scope pos) 0 (.ref it) (.ref D) (compEnvC scope (cellsFrom (s3.heap.objs.size + 1) scope.names (cloFrom X.env.cells scope.names [])) s3.heap.objs.size X.env)) (compPost (model X.prog X.w) X.A X.xe none _ (.ref D) s3.heap.objs.size) { s3 with heap := pushCells (s3.heap.push { cls := .type "dict", data := .dict #[] }) scope.names }
  have nfp : ∀ b ∈ fp, (upd H2 D (SetSO X.prog X.w D [])) b = none := fun b hb => (f3 b hb).1.1
  have tu0 := tu it D (compEnvC scope (cellsFrom (s3.heap.objs.size + 1) scope.names (cloFrom X.env.cells scope.names [])) s3.heap.objs.size X.env)
  generalize ec : compEnvC scope (cellsFrom (s3.heap.objs.size + 1) scope.names (cloFrom X.env.cells scope.names [])) s3.heap.objs.size X.env = ce at I4 pg pt pb tu0 ⊢
  have cL : ce.locals = s3.heap.objs.size := by subst ec; rfl
  generalize eH : upd H2 D (SetSO X.prog X.w D []) = H3 at I3 I4 pg pt pb w0 nfp f3
  generalize e4 : ({ s3 with heap := pushCells (s3.heap.push { cls := .type "dict", data := .dict #[] }) scope.names } : Shared) = s4 at I4 ⊢
  have st4 : tn 0 s4.heap := T.keep _ _ _ st3 fun b _ o e => by rw [← e4]; exact pushCells_keeps _ _ _ _ (Heap.get?_push_of_some _ e)
  have fpk : ∀ {σ' : Stt} {H' : Hp} {s' : Shared}, Inv (X.blk s3 H3 scope ce fp) [] σ' H' s' → (∀ b ∈ fp, H' b = none) → ∀ b ∈ fp, FpOk (X.blk s3 H3 scope ce fp) [] H' b := fun {σ' H' s'} I' hn b hb =>
    ⟨hn b hb, (I'.ok.exf b hb).1, I'.ok.exfs b hb, .inl hb, fun x c e => (I'.ok.exf b hb).2 x c e, fun p hp => absurd (show p ∈ ([] : List (Addr × Obj)) ++ [] from hp) (by simp)⟩
  have lp : codeAny (model X.prog X.w) X.A (.compLoop (.SetComp elt (⟨tg, iter, ifs, 0⟩ :: rest) scope pos) 0 (.ref it) (.ref D) ce)
      (compPost (model X.prog X.w) X.A X.xe none (EP X pins σ Q) (.ref D) s3.heap.objs.size) s4 := by
    refine loopC tu0 (fun n s' => ∃ i H', Inv (X.blk s3 H3 scope ce fp) [] (wipe σ (own.map (·.2))) H' s' ∧ tn i s'.heap ∧ (∀ b ∈ fp, H' b = none) ∧ W i n H') (fun n s5 h5 => ?_) m0 s4 ⟨0, H3, I4, st4, nfp, w0⟩
    obtain ⟨i, H5, I5, st5, n5, w5⟩ := h5
    rcases tr i n H5 w5 with ⟨stop, qq⟩ | ⟨go, N1, hN1, step⟩
    · refine thnF (T.done (X.blk s3 H3 scope ce fp) rfl rfl rfl hc i [] s5 _ H5 (fun _ _ => False) I5 (fpk I5 n5) st5 stop) fun r s6 hr => ?_
      obtain ⟨rfl, I6⟩ := hr
      have I7 : Inv X pins σ H5 s6 := I3.call' (ch := fp) I6.os I6.base I6.hok I6.bare fun b hb => ⟨(f3 b hb).1.2.2.2.1, (f3 b hb).1.2.1, (f3 b hb).1.2.2.2.2.1, (f3 b hb).1.2.2.2.2.2⟩
      have nC : H5 s3.heap.objs.size = none := by
        rw [← cL]
        exact I6.free
      obtain ⟨m, hn, _⟩ := I6.loc
      have hn : s6.heap.Ns ce.locals m := hn
      rw [cL] at hn
      obtain ⟨g0, g1, _, g3, g4, g5⟩ := I3.fpOk (H' := H5) (Nat.le_refl _) nC
      exact ⟨m, hn, fun h'' sb => ⟨.ref D, H5, I7.turned (t' := s6.toks) (fun b o hb e => (sb.2 b hb).trans e) g0 g1 (by assumption) (by assumption) (by assumption), rfl, qq⟩⟩
    · refine thnF (T.item (X.blk s3 H3 scope ce fp) rfl rfl rfl hc i [] s5 _ H5 (fun _ _ => False) I5 (fpk I5 n5) st5 go) fun r s6 hr => ?_
      obtain ⟨u, rfl, h6⟩ := hr
      refine thnF h6 fun _ s7 h7 => ?_
      obtain ⟨x, H7, I7, r7, y7, st7, n7⟩ := h7
      refine thnF (pg.run _ s7 _ H7 x u _ (I7.pinned (fpk I7 n7) (T.obj _ _ st7)) r7 (step x H7 y7)) fun _ s8 h8 => ?_
      obtain ⟨σ8, H8, I8, e8, q8⟩ := h8
      refine thnF (pt.run _ s8 σ8 H8 _ I8 q8) fun b s9 h9 => ?_
      obtain ⟨H9, I9, q9⟩ := h9
      have back : ∀ {σ9 : Stt} {s' : Shared} {H' : Hp}, Inv (X.blk s3 H3 scope ce fp) ([] ++ pinsAt fp s7.heap) σ9 H' s' → σ9.length = σ8.length → (∀ (j : Nat) v, (wipe σ (own.map (·.2)))[j]? = some (some v) → σ9[j]? = some (some v)) → N1 H' →
          ∃ m, m < n ∧ ∃ i H', Inv (X.blk s3 H3 scope ce fp) [] (wipe σ (own.map (·.2))) H' s' ∧ tn i s'.heap ∧ (∀ b ∈ fp, H' b = none) ∧ W i m H' := fun {σ9 s' H'} I' hl hk nx => by
        obtain ⟨m', hm, w'⟩ := hN1 H' nx
        have at_ : ∀ b ∈ fp, ∀ o, s7.heap.get? b = some o → s'.heap.get? b = some o ∧ H' b = none := fun b hb o e =>
          ⟨(I'.pin (b, o) (List.mem_append_right _ (List.mem_append_right _ (mem_pinsAt hb e)))).1, (I'.pin (b, o) (List.mem_append_right _ (List.mem_append_right _ (mem_pinsAt hb e)))).2.1⟩
        refine ⟨m', hm, i + 1, H', (I'.unpinned (pins := [])).weak (by rw [hl, ← wipe_length σ8 (own.map (·.2)), e8]) hk, T.keep _ _ _ st7 fun b hb o e => (at_ b hb o e).1, fun b hb => ?_, w'⟩
        obtain ⟨o, e, _⟩ := T.obj _ _ st7 b hb
        exact (at_ b hb o e).2
      have k8 : ∀ (j : Nat) v, (wipe σ (own.map (·.2)))[j]? = some (some v) → σ8[j]? = some (some v) ∧ j ∉ own.map (·.2) := fun j v e => by
        rw [← e8] at e
        exact wipe_some e
      cases b with
      | false => exact back I9 rfl (fun j v e => (k8 j v e).1) q9
      | true =>
        intro nn QQ EE hn
        refine pb _ σ8 H9 s9 N1 I9 q9 nn QQ EE fun s10 h10 => hn s10 ?_
        obtain ⟨H10, I10, nx⟩ := h10
        refine back I10 (wipe_length _ _) (fun j v e => ?_) nx
        rw [wipe_out fun z => (k8 j v e).2 (hv j z)]
        exact (k8 j v e).1
  exact PpSet.codeAny_compStart_set lp (T.self X.A 0 _ _ _ st4 lp)
end
end Cb

/-! The people of crews: a set of texts out of a list of sets, in order. -/
namespace Cb
open PySem PySem.Spec PyProof.Rows L2 PySem.W
/-! ### texts in order are told by who is among them -/
theorem nodup_le : ∀ {l L : List Str}, l.Nodup → (∀ x ∈ l, x ∈ L) → l.length ≤ L.length
  | [], _, _, _ => Nat.zero_le _
  | x :: l, L, nd, sub => by
    obtain ⟨n1, n2⟩ := List.nodup_cons.mp nd
    have hx := sub x List.mem_cons_self
    have h := nodup_le (l := l) (L := L.erase x) n2 fun y hy => (List.mem_erase_of_ne fun e => n1 (by rw [← e]; exact hy)).mpr (sub y (List.mem_cons_of_mem _ hy))
    rw [List.length_erase_of_mem hx] at h
    have := List.length_pos_of_mem hx
    simp
    omega
theorem same_perm {l L : List Str} (h1 : l.Nodup) (h2 : L.Nodup) (h : ∀ x, x ∈ L ↔ x ∈ l) : L.Perm l := perm_of_sub h1 (fun x hx => (h x).mpr hx) (nodup_le h2 fun x hx => (h x).mp hx)
theorem cps_inj {x y : Str} (h : x.cps.toList = y.cps.toList) : x = y := by
  obtain ⟨a⟩ := x
  obtain ⟨b⟩ := y
  have e : a = b := Array.toList_inj.mp h
  rw [e]
theorem srt_le (l : List Str) : (srt l).Pairwise fun a b => a.cps.toList ≤ b.cps.toList := by
  have h := List.pairwise_mergeSort (le := dataLe false PyData.str) (fun a b c h1 h2 => by
    rw [dataLe_str (fun b : Str => b)] at *
    simp only [decide_eq_true_eq] at *
    exact List.le_trans h1 h2) (fun a b => by
    rw [dataLe_str (fun b : Str => b)]
    simp only [Bool.or_eq_true, decide_eq_true_eq]
    exact List.le_total _ _) l
  refine h.imp fun {a b} z => ?_
  rw [dataLe_str (fun b : Str => b)] at z
  exact of_decide_eq_true z
theorem pair_eq : ∀ {a b : List Str}, a.Perm b → a.Pairwise (fun x y => x.cps.toList ≤ y.cps.toList) → b.Pairwise (fun x y => x.cps.toList ≤ y.cps.toList) → a = b
  | [], b, p, _, _ => p.nil_eq
  | x :: a, [], p, _, _ => absurd p.symm.nil_eq (by simp)
  | x :: a, y :: b, p, h1, h2 => by
    obtain ⟨a1, a2⟩ := List.pairwise_cons.mp h1
    obtain ⟨b1, b2⟩ := List.pairwise_cons.mp h2
    have e : x = y := by
      have hx : x ∈ y :: b := p.mem_iff.mp List.mem_cons_self
      have hy : y ∈ x :: a := p.mem_iff.mpr List.mem_cons_self
      rcases List.mem_cons.mp hx with e | hx
      · exact e
      · rcases List.mem_cons.mp hy with e | hy
        · exact e.symm
        · exact cps_inj (List.le_antisymm (a1 y hy) (b1 x hx))
    subst e
    rw [pair_eq ((List.perm_cons x).mp p) a2 b2]
theorem srt_eq {a b : List Str} (p : a.Perm b) : srt a = srt b := pair_eq (((srt_perm a).trans p).trans (srt_perm b).symm) (srt_le a) (srt_le b)
/-- each once -/
def dd : List Str → List Str
  | [] => []
  | x :: l => put1 (dd l) x
theorem dd_nd : ∀ l : List Str, (dd l).Nodup
  | [] => .nil
  | x :: l => put1_nd (dd_nd l) x
theorem dd_mem {x : Str} : ∀ {l : List Str}, x ∈ dd l ↔ x ∈ l
  | [] => by simp [dd]
  | y :: l => by
    show x ∈ put1 (dd l) y ↔ _
    rw [put1_mem, dd_mem (l := l), List.mem_cons]
    exact Or.comm
/-- each once, in order -/
def once (l : List Str) : List Str := srt (dd l)
theorem once_eq {l ks : List Str} (nd : ks.Nodup) (h : ∀ x, x ∈ ks ↔ x ∈ l) : srt ks = once l := srt_eq (same_perm (dd_nd l) nd fun x => by rw [h, dd_mem])
theorem once_mem {l : List Str} {x : Str} : x ∈ once l ↔ x ∈ l := by
  unfold once
  rw [(srt_perm _).mem_iff, dd_mem]
theorem once_nd (l : List Str) : (once l).Nodup := (srt_perm _).nodup_iff.mpr (dd_nd l)
theorem once_len (l : List Str) : (once l).length ≤ l.length := nodup_le (once_nd l) fun x hx => once_mem.mp hx
/-! ### {x for t in ts for x in t} -/
/-- what tuples do -/
def Tk (K : Frag) (H H' : Hp) : Prop := ∀ a xs, SqT K H a xs → SqT K H' a xs
theorem Tk.of {K : Frag} {H H' : Hp} (e : Same H H') : Tk K H H' := fun _ _ h => sameT e h
theorem Tk.s1 {K : Frag} {H H' : Hp} (e : Tk K H H') {v : V} {t : List Str} (h : S1 K H v t) : S1 K H' v t := by
  obtain ⟨a, rfl, h⟩ := h
  exact ⟨a, rfl, e _ _ h⟩
theorem Tk.upd {P : Program} {w : World} {K : Frag} {H0 H : Hp} {D : Addr} {l : List Str} {o : HO} (h : Tk K H0 H) (e : H D = some (SetSO P w D l)) : Tk K H0 (L2.upd H D o) := fun a xs z => by
  rcases h a xs z with (q | ⟨o2, q⟩) | q
  · have n : a ≠ D := fun c => by
      rw [c, e] at q
      cases q
    exact .inl (.inl (by rw [upd_ne n]; exact q))
  · have n : a ≠ D := fun c => by
      rw [c, e] at q
      cases q
    exact .inl (.inr ⟨o2, by rw [upd_ne n]; exact q⟩)
  · exact .inr q
section
variable {K : Frag} {xs : List V} {tl : TE} {j : Nat} {vs : List Nat} {σ : Stt} {H : Hp} {tb : TB} {N : Hp → Prop} {P : Program} {w : World}
theorem cl_tupT (Pv : Nat → Hp → Prop) {a : Addr} (hl : ∀ R : VK, R (.ref a) H → tl σ H R) (ht : SqT K H a xs) (hj : ∀ x, wipe ((wipe σ vs).set j (some x)) vs = wipe σ vs) (h0 : Pv 0 H)
    (hst : ∀ i H2, Pv i H2 → Tk K H H2) (hs : ∀ i x H1, xs[i]? = some x → Pv i H1 → tb ((wipe σ vs).set j (some x)) H1 (Pv (i + 1))) (hd : ∀ H1, Pv xs.length H1 → N H1) : tCl (iTup K tl) (gName j) tYes tb vs σ H N := by
  refine hl _ ⟨a, rfl, ⟨xs, ht⟩, fun i m H' => m = xs.length - i ∧ i ≤ xs.length ∧ Pv i H', ⟨xs.length, by simp, Nat.zero_le _, h0⟩, ?_⟩
  rintro i m H2 ⟨rfl, hi, p⟩
  have q := hst i H2 p a xs ht
  by_cases hlt : i < xs.length
  · refine .inr ⟨⟨xs, xs[i], q, by simp [hlt]⟩, Pv (i + 1), fun H' p' => ⟨xs.length - (i + 1), by omega, rfl, hlt, p'⟩, fun x H' y => ?_⟩
    obtain ⟨e, y⟩ := y
    subst e
    exact ⟨hj x, hs i x _ (y xs q) p⟩
  · obtain rfl : i = xs.length := by omega
    exact .inl ⟨⟨xs, q, Nat.le_refl _⟩, hd H2 p⟩
theorem scN_tup {Q : VK} {a : Addr} {tbD : Addr → TB} (Pv : Addr → Nat → Hp → Prop) (hl : ∀ R : VK, R (.ref a) H → tl σ H R) (ht : SqT K H a xs) (hj : ∀ x, wipe ((wipe σ vs).set j (some x)) vs = wipe σ vs)
    (h0 : ∀ D, H D = none → Pv D 0 (upd H D (SetSO P w D []))) (hst : ∀ D i H2, Pv D i H2 → Tk K H H2) (hs : ∀ D i x H1, xs[i]? = some x → Pv D i H1 → tbD D ((wipe σ vs).set j (some x)) H1 (Pv D (i + 1)))
    (hd : ∀ D H1, Pv D xs.length H1 → Q (.ref D) H1) : tScN P w (iTup K tl) (gName j) tYes tbD vs σ H Q := by
  refine hl _ ⟨a, rfl, ⟨xs, ht⟩, fun D hD => ⟨fun i m H' => m = xs.length - i ∧ i ≤ xs.length ∧ Pv D i H', ⟨xs.length, by simp, Nat.zero_le _, h0 D hD⟩, ?_⟩⟩
  rintro i m H2 ⟨rfl, hi, p⟩
  have q := hst D i H2 p a xs ht
  by_cases hlt : i < xs.length
  · refine .inr ⟨⟨xs, xs[i], q, by simp [hlt]⟩, Pv D (i + 1), fun H' p' => ⟨xs.length - (i + 1), by omega, rfl, hlt, p'⟩, fun x H' y => ?_⟩
    obtain ⟨e, y⟩ := y
    subst e
    exact ⟨hj x, hs D i x _ (y xs q) p⟩
  · obtain rfl : i = xs.length := by omega
    exact .inl ⟨⟨xs, q, Nat.le_refl _⟩, hd D H2 p⟩
/-- the people of the crews -/
theorem set_flat {x0 : V} {ts : List (List Str)} {Q : VK} (hS : S2 K H x0 ts) (h8 : ∀ t ∈ ts, t.length ≤ 8) (h64 : ts.length ≤ 64)
    (q : ∀ D l H', H D = none → Same H H' → H' D = some (SetSO P w D l) → l.Nodup → (∀ x, x ∈ l ↔ x ∈ ts.flatten) → Q (.ref D) H') :
    tScN P w (iTup K (tVar 0)) (gName 1) tYes (fun D => tCl (iTup K (tVar 1)) (gName 2) tYes (tEndS P w (tVar 2) D) [2]) [1, 2] [some x0, none, none] H Q := by
  obtain ⟨a, xs, rfl, ha, hp⟩ := hS
  have hxl := prd_len hp
  refine scN_tup (xs := xs) (fun D i H' => H D = none ∧ Same H H' ∧ ∃ l, H' D = some (SetSO P w D l) ∧ l.Nodup ∧ (∀ x, x ∈ l ↔ x ∈ (ts.take i).flatten) ∧ l.length ≤ 8 * i) (fun R hR => ⟨_, rfl, hR⟩) ha (fun _ => rfl)
    (fun D nD => ⟨nD, same_upd nD, [], upd_same, .nil, fun x => by simp, Nat.zero_le _⟩) (fun D i H2 z => .of z.2.1) (fun D i x H1 hi z => ?_) fun D H1 z => ?_
  · obtain ⟨nD, e1, l, hl, nd, hm, hz⟩ := z
    obtain ⟨t, ht, hx⟩ := prd_getL hp hi
    obtain ⟨b, rfl, hb⟩ := hx
    have t8 := h8 t (List.mem_of_getElem? ht)
    have i64 := (List.getElem?_eq_some_iff.mp ht).1
    have hb1 := sameT e1 hb
    refine cl_tupT (a := b) (xs := t.map V.str) (fun k H' => Tk K H1 H' ∧ Same H H' ∧ ∃ l, H' D = some (SetSO P w D l) ∧ l.Nodup ∧ (∀ x, x ∈ l ↔ x ∈ (ts.take i).flatten ∨ x ∈ t.take k) ∧ l.length ≤ 8 * i + k) (fun R hR => ⟨_, rfl, hR⟩) hb1 (fun _ => rfl)
      ⟨fun _ _ z => z, e1, l, hl, nd, fun x => by rw [hm]; simp, hz⟩ (fun k H2 z => z.1) (fun k y H2 hk z => ?_) fun H2 z => ?_
    · obtain ⟨tk, e2, l2, hl2, nd2, hm2, hz2⟩ := z
      have kl := (List.getElem?_eq_some_iff.mp hk).1
      rw [List.length_map] at kl
      rw [List.getElem?_map] at hk
      obtain ⟨n, hn, rfl⟩ := Option.map_eq_some_iff.mp hk
      refine ⟨_, rfl, n, l2, rfl, hl2, by show l2.length + 1 < 4096; omega, tk.upd hl2, same_mut e2 nD, put1 l2 n, upd_same, put1_nd nd2 n, fun x => ?_, ?_⟩
      · rw [put1_mem, hm2, take_snoc hn, List.mem_append, List.mem_singleton]
        exact or_assoc
      · have := put1_len l2 n
        omega
    · obtain ⟨_, e2, l2, hl2, nd2, hm2, hz2⟩ := z
      rw [List.length_map] at hm2 hz2
      rw [List.take_length] at hm2
      refine ⟨nD, e2, l2, hl2, nd2, fun x => ?_, by omega⟩
      rw [hm2, take_snoc ht]
      simp
  · obtain ⟨nD, e1, l, hl, nd, hm, hz⟩ := z
    rw [hxl, List.take_length] at hm
    exact q D l H1 nD e1 hl nd hm
end
end Cb

/-! Sets of sets of people (tuples of texts): fewer than 64. -/
namespace Cb
open PySem PySem.Spec PyProof.Rows L2 PySem.W
/-- at b: a tuple of these texts -/
abbrev Tx (P : Program) (w : World) (h : Heap) (k : List Str) (b : Addr) : Prop := IsTupleKey (strKind P w) h k b
/-- its hash -/
abbrev tg (P : Program) (w : World) (k : List Str) : Int := tupleKeyHash (strKind P w) k
section
variable {P : Program} {w : World} {A : Around} {E : Value → Shared → Prop} {s : Shared}
theorem txs_of {k : List Str} {vs : List Value} (h : ItemsAre (strKind P w) k vs) : ∀ v ∈ vs, ∃ x t, v = Value.str x t := by
  induction h with
  | nil => exact fun v hv => absurd hv (by simp)
  | cons one _ ih =>
    intro v hv
    rcases List.mem_cons.mp hv with rfl | hv
    · obtain ⟨t, e⟩ := Value.isStrOf_shape one
      exact ⟨_, t, e⟩
    · exact ih v hv
theorem aClass_txt (n : Nat) (x : Str) (t : Tok) : ofAClassStatement n (.str x t) = pure false := by cases n <;> rfl
theorem hashBy_txt (n : Nat) (x : Str) (t : Tok) : hashByValue n (.str x t) = pure false := by cases n <;> rfl
theorem Tx.aClass {k : List Str} {b : Addr} {Q : Bool → Shared → Prop} (T : Tx P w s.heap k b) (q : Q false s) : wpAny (model P w) A (ofAClassStatement 8 (.ref b)) Q E s := by
  have ty := T.typeIs
  obtain ⟨o, its, n, ho, _, dt, al⟩ := T
  unfold ofAClassStatement
  refine wpAny_bind (wpAny_typeOf ty ?_)
  dsimp only
  simp only [show (("tuple" : String) == "tuple") = true from by decide, if_true, Bool.not_true, Bool.false_eq_true, if_false]
  try refine wpAny_bind (wpAny_pure ?_)
  try simp only [Bool.not_true, Bool.false_eq_true, if_false]
  show wpAny _ _ (seqItems? (.ref b) >>= _) _ _ s
  refine wpAny_bind (wpAny_seqItems ho dt ?_)
  dsimp only
  refine wpAny_bind ?_
  show wpAny _ _ (forIn its _ _) _ _ s
  rw [← Array.forIn_toList]
  refine wpAny_forIn_list _ (fun more acc st => acc.1 = none ∧ st = s ∧ ∀ v ∈ more, ∃ x t, v = Value.str x t) _ (fun v more acc st hz => ?_) (fun acc st hz => ?_) _ _ ⟨rfl, rfl, txs_of al⟩
  · obtain ⟨z, rfl, each⟩ := hz
    obtain ⟨x, t, rfl⟩ := each v List.mem_cons_self
    rw [aClass_txt]
    refine wpAny_bind (wpAny_pure ?_)
    simp only [Bool.false_eq_true, if_false]
    exact wpAny_pure ⟨rfl, rfl, fun u hu => each u (List.mem_cons_of_mem _ hu)⟩
  · obtain ⟨a1, a2⟩ := acc
    obtain ⟨z, rfl, _⟩ := hz
    simp only at z
    subst z
    exact wpAny_pure q
theorem Tx.hashBy {k : List Str} {b : Addr} {Q : Bool → Shared → Prop} (T : Tx P w s.heap k b) (q : ∀ c, Q c s) : wpAny (model P w) A (hashByValue 8 (.ref b)) Q E s := by
  have ty := T.typeIs
  obtain ⟨o, its, n, ho, _, dt, al⟩ := T
  unfold hashByValue
  refine wpAny_bind (wpAny_specialOf ty PySem.F.slot_tuple_hash.lookup ?_)
  show wpAny _ _ (seqItems? (.ref b) >>= _) _ _ s
  refine wpAny_bind (wpAny_seqItems ho dt (wpAny_bind ?_))
  show wpAny _ _ (forIn its _ _) _ _ s
  rw [← Array.forIn_toList]
  refine wpAny_forIn_list _ (fun more acc st => acc.1 = none ∧ st = s ∧ ∀ v ∈ more, ∃ x t, v = Value.str x t) _ (fun v more acc st hz => ?_) (fun acc st hz => ?_) _ _ ⟨rfl, rfl, txs_of al⟩
  · obtain ⟨z, rfl, each⟩ := hz
    obtain ⟨x, t, rfl⟩ := each v List.mem_cons_self
    rw [hashBy_txt]
    refine wpAny_bind (wpAny_pure ?_)
    simp only [Bool.not_false, if_true]
    exact wpAny_pure (wpAny_pure (q false))
  · obtain ⟨a1, a2⟩ := acc
    obtain ⟨z, rfl, _⟩ := hz
    simp only at z
    subst z
    exact wpAny_pure (q true)
/-- nothing of a search among such is seen -/
theorem unseen {k : List Str} {b : Addr} {Q : Bool → Shared → Prop} (T : Tx P w s.heap k b) {ys : List Value} (all : ∀ y ∈ ys, ∃ l c, y = Value.ref c ∧ Tx P w s.heap l c) (q : Q false s) : wpAny (model P w) A (searchCouldBeSeen (.ref b) ys) Q E s := by
  unfold searchCouldBeSeen
  refine wpAny_bind ?_
  refine wpAny_forIn_list _ (fun more acc st => acc.1 = none ∧ st = s ∧ ∀ y ∈ more, ∃ l c, y = Value.ref c ∧ Tx P w s.heap l c) _ (fun v more acc st hz => ?_) (fun acc st hz => ?_) _ _ ⟨rfl, rfl, all⟩
  · obtain ⟨z, rfl, each⟩ := hz
    obtain ⟨l, c, rfl, U⟩ := each v List.mem_cons_self
    have later : ∀ y ∈ more, ∃ l c, y = Value.ref c ∧ Tx P w st.heap l c := fun u hu => each u (List.mem_cons_of_mem _ hu)
    dsimp only
    by_cases same : (b == c || (carriedByValue (.ref b) && carriedByValue (.ref c))) = true
    · exact wp_if_pos same (wpAny_pure ⟨rfl, rfl, later⟩)
    · refine wp_if_neg same (wpAny_bind (wpAny_eqIsQuiet_tuple T ?_))
      simp only [Bool.not_true, Bool.false_eq_true, if_false]
      refine wpAny_bind (wpAny_eqIsQuiet_tuple U ?_)
      simp only [Bool.not_true, Bool.false_eq_true, if_false]
      refine wpAny_bind (T.aClass ?_)
      simp only [Bool.false_eq_true, if_false]
      refine wpAny_bind (U.aClass ?_)
      simp only [Bool.false_eq_true, if_false]
      exact wpAny_pure ⟨rfl, rfl, later⟩
  · obtain ⟨a1, a2⟩ := acc
    obtain ⟨z, rfl, _⟩ := hz
    simp only at z
    subst z
    exact wpAny_pure q
end
/-! ### the set -/
abbrev AK := Addr × List Str
def rowT (P : Program) (w : World) (p : AK) : Int × Value := (tg P w p.2, Value.ref p.1)
/-- the set at a as it stands: its members in the table's order -/
structure TsR (P : Program) (w : World) (h : Heap) (a : Addr) (L : List AK) (es : Array (Int × Value)) (ep : Nat) (t : SetTable) : Prop where
  ob : ∃ o, h.get? a = some o ∧ o.ExactSet ∧ o.data = .set es ep t
  rw_ : es.toList = L.map (rowT P w)
  tab : TabOk t (L.map fun p => tg P w p.2)
  nd : (L.map (·.2)).Nodup
  tx : ∀ p ∈ L, Tx P w h p.2 p.1
  led : w.params.followText "set-order" = true ∨ t.led = true
  room : L.length * 5 < t.mask * 3
  few : L.length < 64
section
variable {P : Program} {w : World} {A : Around} {E : Value → Shared → Prop} {s : Shared} {a : Addr} {L : List AK} {es : Array (Int × Value)} {ep : Nat} {t : SetTable}
theorem TsR.size {h : Heap} (R : TsR P w h a L es ep t) : es.size = L.length := by rw [← Array.length_toList, R.rw_, List.length_map]
theorem TsR.places {h : Heap} (R : TsR P w h a L es ep t) : t.place.size = L.length := by
  have := R.tab.sz
  rwa [List.length_map] at this
theorem TsR.fits {h : Heap} (R : TsR P w h a L es ep t) : t.fits es.size = true := by
  have h1 := R.places
  have h2 := R.size
  have h3 := R.room
  unfold SetTable.fits SetTable.fill
  rw [R.tab.dm, Bool.and_eq_true, beq_iff_eq, decide_eq_true_eq]
  refine ⟨by omega, ?_⟩
  show t.place.size + 0 ≤ t.mask
  omega
theorem TsR.row {h : Heap} (R : TsR P w h a L es ep t) {i : Nat} {p : AK} (e : L[i]? = some p) : es[i]? = some (tg P w p.2, Value.ref p.1) := by
  rw [← Array.getElem?_toList, R.rw_, List.getElem?_map, e]
  rfl
theorem TsR.stands {h : Heap} (R : TsR P w h a L es ep t) : ¬ t.gaveWay = true := by
  unfold SetTable.gaveWay
  rw [mask_odd R.tab.mok]
  decide
/-- where the c-th step of a hash's way stands -/
abbrev stp (t : SetTable) (g : Int) (c : Nat) : SetTable.Probe := nth t.mask (runAt t.mask (SetTable.bits g % (t.mask + 1)) (SetTable.bits g)) c
theorem stp_more (t : SetTable) (g : Int) (c d : Nat) : nth t.mask (stp t g c) d = stp t g (c + d) := (nth_add t.mask c _ d).symm
theorem stp_way (t : SetTable) (g : Int) (c : Nat) : (stp t g c).j = way t.mask g c := rfl
theorem nth_dummy (m : Nat) : ∀ (n : Nat) (p : SetTable.Probe), p.dummy = none → (nth m p n).dummy = none
  | 0, _, h => h
  | n + 1, p, h => nth_dummy m n (adv m p) (by
    unfold adv
    split
    · exact h
    · exact h)
/-- the search of a set of people, from the c-th step on -/
theorem TsR.seek (R : TsR P w s.heap a L es ep t) {x : Addr} {k : List Str} (T : Tx P w s.heap k x) (hu : A.units < cLine) {N : Nat} (hN : N < 10 * SetTable.turns t.mask) (free : way t.mask (tg P w k) N ∉ t.place.toList)
    (full : ∀ c, c < N → way t.mask (tg P w k) c ∈ t.place.toList) {Q : SetFound → Shared → Prop} (yes : k ∈ L.map (·.2) → Q (.there none) s) (no : k ∉ L.map (·.2) → Q (.free (way t.mask (tg P w k) N) false) s) :
    ∀ (f c : Nat) (st : Option SetTable.Probe), st.getD (t.probeStart (tg P w k)) = stp t (tg P w k) c → c ≤ N → N - c < f →
      (∀ (i : Nat) (p : AK), L[i]? = some p → p.2 = k → ∃ d, c ≤ d ∧ d < N ∧ t.place.toList[i]? = some (way t.mask (tg P w k) d)) → wpAny (model P w) A (setSearchFrom a (.ref x) (tg P w k) true f st) Q E s
  | 0, _, _, _, _, hf, _ => absurd hf (Nat.not_lt_zero _)
  | f + 1, c, st, at0, cN, hf, ahead => by
    obtain ⟨o, ho, ex, dt⟩ := R.ob
    generalize hg : tg P w k = g at *
    have wy : ∀ d, (nth t.mask (stp t g c) d).j = way t.mask g (c + d) := fun d => congrArg SetTable.Probe.j (stp_more t g c d)
    have hs : ∀ (i : Nat) (p : AK), L[i]? = some p → ((es[i]?.map (·.1)).getD 0) = tg P w p.2 := fun i p e => by rw [R.row e]; rfl
    rw [setSearchFrom_succ]
    refine wpAny_bind (wpAny_setState_of ho dt R.fits ?_)
    dsimp only
    refine wp_if_neg R.stands ?_
    try refine wpAny_bind (wpAny_pure ?_)
    rcases go_spec t R.tab.ris R.tab.dm (fun i => (es[i]?.map (·.1)).getD 0) g (10 * SetTable.turns t.mask) (N - c) (stp t g c) (nth_dummy _ _ _ rfl) (by omega) (fun d hd => by rw [wy]; exact full (c + d) (by omega)) (by rw [wy, Nat.add_sub_cancel' cN]; exact free) with ⟨d, i, dN, li, hh, before, found⟩ | ⟨before, found⟩
    · -- a row with this hash
      rw [wy] at li
      have pr : t.probe (fun i => (es[i]?.map (·.1)).getD 0) g (st.getD (t.probeStart g)) = some (.candidate (way t.mask g (c + d)) i (stp t g (c + (d + 1)))) := by
        rw [at0, ← wy, ← stp_more]
        exact found
      rw [pr]
      dsimp only
      have iL : i < L.length := by
        have h1 := (List.getElem?_eq_some_iff.mp li).1
        rw [Array.length_toList] at h1
        have h2 := R.places
        omega
      obtain ⟨p, hp⟩ : ∃ p, L[i]? = some p := ⟨L[i], List.getElem?_eq_getElem iL⟩
      have pL := List.mem_of_getElem? hp
      have tail : wpAny (model P w) A (searchRest a (.ref x) g true f es t (way t.mask g (c + d)) i (stp t g (c + (d + 1)))) Q E s := by
        unfold searchRest
        rw [R.row hp]
        dsimp only
        refine wpAny_bind (wpAny_holding (wpAny_eqBool_tuple hu (R.tx p pL) T (wpAny_bind (wpAny_setState_of ho dt R.fits ?_))))
        dsimp only
        by_cases same : p.2 = k
        · exact wp_if_pos (by simp [same]) (wpAny_pure (yes (List.mem_map.mpr ⟨p, pL, same⟩)))
        · refine wp_if_neg (by simp [same]) ?_
          try refine wpAny_bind (wpAny_pure ?_)
          rw [sameMem]
          dsimp only
          have lv : t.slot (way t.mask g (c + d)) = .live i := slot_live R.tab.ris li
          simp only [if_true, lv, R.row hp]
          refine wpAny_bind (wpAny_isSame_ref_self (wpAny_bind (wpAny_pure ?_)))
          simp only [if_true]
          refine wp_if_neg (by simp [same]) ?_
          subst hg
          refine R.seek T hu hN free full yes no f (c + (d + 1)) _ rfl (by omega) (by omega) fun i0 p0 h0 k0 => ?_
          obtain ⟨d0, b1, b2, b3⟩ := ahead i0 p0 h0 k0
          have far : c + d < d0 := by
            rcases Nat.lt_trichotomy d0 (c + d) with z | z | z
            · exact absurd ((hs i0 p0 h0).trans (congrArg (tg P w) k0)) (before (d0 - c) i0 (by omega) (by rw [wy, Nat.add_sub_cancel' b1]; exact b3))
            · rw [z] at b3
              have lv2 := slot_live R.tab.ris b3
              rw [lv] at lv2
              injection lv2 with e
              rw [← e, hp] at h0
              exact absurd ((congrArg Prod.snd (Option.some.inj h0)).trans k0) same
            · exact z
          exact ⟨d0, by omega, b2, b3⟩
      by_cases led : t.led = true
      · refine wp_if_neg (by simp [led]) ?_
        try refine wpAny_bind (wpAny_pure ?_)
        exact tail
      · refine wp_if_pos (by simp [led]) (wpAny_bind (unseen T (fun y hy => ?_) ?_))
        · obtain ⟨e, he, rfl⟩ := List.mem_map.mp hy
          have he2 : e ∈ es.toList := by
            have : e ∈ es ∧ e.1 = g := by simpa using he
            simpa using this.1
          rw [R.rw_] at he2
          obtain ⟨p2, m2, rfl⟩ := List.mem_map.mp he2
          exact ⟨p2.2, p2.1, rfl, R.tx p2 m2⟩
        · refine wp_if_neg (by decide) ?_
          try refine wpAny_bind (wpAny_pure ?_)
          exact tail
    · -- the free place
      have pr : t.probe (fun i => (es[i]?.map (·.1)).getD 0) g (st.getD (t.probeStart g)) = some (.empty (way t.mask g N) none) := by
        have e2 : way t.mask g N = (nth t.mask (stp t g c) (N - c)).j := by rw [wy, Nat.add_sub_cancel' cN]
        rw [at0, e2]
        exact found
      rw [pr]
      dsimp only
      refine wpAny_pure (no fun m => ?_)
      obtain ⟨p0, m0, k0⟩ := List.mem_map.mp m
      obtain ⟨i0, l0, e0⟩ := List.getElem_of_mem m0
      have h0 : L[i0]? = some p0 := by rw [List.getElem?_eq_getElem l0, e0]
      obtain ⟨d0, b1, b2, b3⟩ := ahead i0 p0 h0 k0
      subst hg
      exact before (d0 - c) i0 (by omega) (by rw [wy, Nat.add_sub_cancel' b1]; exact b3) ((hs i0 p0 h0).trans (congrArg (tg P w) k0))
/-- as adding asks -/
theorem TsR.search (R : TsR P w s.heap a L es ep t) {x : Addr} {k : List Str} (T : Tx P w s.heap k x) (hu : A.units < cLine) {Q : SetFound → Shared → Prop} (yes : k ∈ L.map (·.2) → Q (.there none) s)
    (no : ∀ N, k ∉ L.map (·.2) → way t.mask (tg P w k) N ∉ t.place.toList → (∀ c, c < N → way t.mask (tg P w k) c ∈ t.place.toList) → Q (.free (way t.mask (tg P w k) N) false) s) : wpAny (model P w) A (setSearch a (.ref x) (tg P w k) true) Q E s := by
  have rm := R.room
  obtain ⟨N, hN, free, full⟩ := R.tab.first (by rw [List.length_map]; omega) (tg P w k)
  have small : N < 100000 := by
    have : 10 * SetTable.turns t.mask ≤ 1420 := by
      unfold SetTable.turns
      rcases R.tab.mok with e | e | e <;> omega
    omega
  unfold setSearch
  refine R.seek T hu hN free full yes (fun m => no N m free full) 100000 0 none rfl (Nat.zero_le _) (by omega) fun i p e pk => ?_
  have lp := R.places
  have iL := (List.getElem?_eq_some_iff.mp e).1
  have li : t.place.toList[i]? = some (t.place.toList[i]'(by rw [Array.length_toList]; omega)) := List.getElem?_eq_getElem _
  obtain ⟨c, cN, z⟩ := R.tab.before (h := tg P w k) free (i := i) (by rw [List.getElem?_map, e, ← pk]; rfl) li
  exact ⟨c, Nat.zero_le _, cN, by rw [li, z]⟩
end
end Cb

namespace Cb
open PySem PySem.Spec PyProof.Rows L2 PySem.W
theorem picked : ∀ {α : Type} (L : List α) (n : Nat), n ≤ L.length → (List.range n).filterMap (fun i => L[i]?) = L.take n
  | _, _, 0, _ => rfl
  | _, L, n + 1, h => by
    have lt : n < L.length := h
    rw [List.range_succ, List.filterMap_append, picked L n (Nat.le_of_lt lt), List.take_add_one, List.filterMap_cons_some (List.getElem?_eq_getElem lt), List.getElem?_eq_getElem lt]
    rfl
section
variable {P : Program} {w : World} {A : Around} {E : Value → Shared → Prop} {s : Shared} {a : Addr} {L : List AK} {es : Array (Int × Value)} {ep : Nat} {t : SetTable}
theorem tab_off {hs : List Int} (T : TabOk t hs) (b : Bool) : TabOk (if b = true then t else { t with plain := false }) hs := by
  cases b with
  | true => exact T
  | false => exact ⟨T.ris, T.dm, T.sz, T.mok, T.bd, T.reach⟩
/-- the rows in another order -/
theorem rows_by (ord : Array Nat) (hr : es.toList = L.map (rowT P w)) (hp : ord.toList.Perm (List.range L.length)) :
    ∃ L2 : List AK, (ord.filterMap (es[·]?)).toList = L2.map (rowT P w) ∧ L2.Perm L ∧ (L2.map fun p => tg P w p.2) = ord.toList.map fun i => (es.map (·.1)).getD i 0 := by
  have one : ∀ i, es[i]? = (L[i]?).map (rowT P w) := fun i => by rw [← Array.getElem?_toList, hr, List.getElem?_map]
  have third : ∀ l : List Nat, (∀ i ∈ l, i < L.length) → ((l.filterMap fun i => L[i]?).map fun p => tg P w p.2) = l.map fun i => (es.map (·.1)).getD i 0 := by
    intro l
    induction l with
    | nil => exact fun _ => rfl
    | cons i l ih =>
      intro h
      have hi := h i List.mem_cons_self
      rw [List.filterMap_cons_some (List.getElem?_eq_getElem hi), List.map_cons, List.map_cons, ih fun j hj => h j (List.mem_cons_of_mem _ hj)]
      congr 1
      have e : (es.map (·.1))[i]? = some (tg P w (L[i]).2) := by
        rw [Array.getElem?_map, one, List.getElem?_eq_getElem hi]
        rfl
      simp [Array.getD_eq_getD_getElem?, e]
  refine ⟨ord.toList.filterMap fun i => L[i]?, ?_, ?_, third _ fun i hi => List.mem_range.mp (hp.mem_iff.mp hi)⟩
  · have e : (fun i => es[i]?) = fun i => (L[i]?).map (rowT P w) := funext one
    rw [List.map_filterMap, ← e]
    simp
  · refine (hp.filterMap _).trans ?_
    rw [picked L L.length (Nat.le_refl _), List.take_length]
theorem Tx.same {h h' : Heap} {k : List Str} {b : Addr} {o : Obj} (T : Tx P w h k b) (ho : h.get? a = some o) (dt : o.data = .set es ep t) (sb : Heap.SameBut a h h') : Tx P w h' k b := by
  obtain ⟨o2, its, n, h2, c2, d2, al⟩ := T
  have ne : b ≠ a := fun e => by
    rw [e, ho] at h2
    cases h2
    rw [dt] at d2
    cases d2
  exact ⟨o2, its, n, (sb.2 b ne).trans h2, c2, d2, al⟩
theorem Tx.keep {h h' : Heap} {k : List Str} {b : Addr} (T : Tx P w h k b) (kp : ∀ c o, h.get? c = some o → h'.get? c = some o) : Tx P w h' k b := by
  obtain ⟨o, its, n, ho, z⟩ := T
  exact ⟨o, its, n, kp b o ho, z⟩
/-- the table laid again, larger -/
theorem relay_T {o : Obj} (ho : s.heap.get? a = some o) (ex : o.ExactSet) (dt : o.data = .set es ep t) (hr : es.toList = L.map (rowT P w)) (pz : t.place.size = es.size) (dm : t.dummies = #[]) (fl : es.size ≤ t.mask) (nd : (L.map (·.2)).Nodup)
    (tx : ∀ p ∈ L, Tx P w s.heap p.2 p.1) (ld : w.params.followText "set-order" = true ∨ t.led = true) (few : L.length < 64) {want M : Nat} (hw : SetTable.sizeAbove want - 1 = M) (hM : MaskOk M) (h128 : SetTable.sizeAbove want ≤ 128) (room : L.length * 5 < M * 3)
    {Q : Unit → Shared → Prop} (q : ∀ h' L' es' ep' t', Heap.SameBut a s.heap h' → TsR P w h' a L' es' ep' t' → L'.Perm L → Q () { s with heap := h' }) : wpAny (model P w) A (setRelay a want) Q E s := by
  have eL : es.size = L.length := by rw [← Array.length_toList, hr, List.length_map]
  have ft : t.fits es.size = true := by
    unfold SetTable.fits SetTable.fill
    rw [dm, Bool.and_eq_true, beq_iff_eq, decide_eq_true_eq]
    refine ⟨pz, ?_⟩
    show t.place.size + 0 ≤ t.mask
    omega
  obtain ⟨t2, ord, e, perm, T2, m2, l2, p2, d2⟩ := relaid_ok t (hs := es.map (·.1)) (wanted := want) hw hM (by rw [Array.size_map, eL]; omega)
  rw [Array.size_map, eL] at perm
  obtain ⟨L2, r1, r2, r3⟩ := rows_by (P := P) (w := w) ord hr perm
  rw [← r3] at T2
  have z2 : (ord.filterMap (es[·]?)).size = es.size := by rw [← Array.length_toList, r1, List.length_map, r2.length_eq, eL]
  rw [setRelay_eq]
  refine wpAny_bind (wpAny_setState_of ho dt ft ?_)
  dsimp only
  refine wp_if_neg (by rw [sizeLine_eq]; omega) ?_
  try refine wpAny_bind (wpAny_pure ?_)
  rw [e]
  dsimp only
  refine wpAny_bind (wp_if_neg (by rw [z2]; simp) ?_)
  try refine wpAny_bind (wpAny_pure ?_)
  refine wpAny_pure ?_
  dsimp only
  have sb : Heap.SameBut a s.heap (s.heap.update a (Obj.putSet (ord.filterMap (es[·]?)) t2)) := .update ..
  refine wpAny_storeSet_of ho dt (q _ L2 _ (ep + 1) t2 sb ⟨⟨_, store_at ho dt, ⟨ex.1, ex.2.1, ex.2.2⟩, rfl⟩, r1, T2, (r2.map (·.2)).nodup_iff.mpr nd, fun p hp => (tx p (r2.mem_iff.mp hp)).same ho dt sb, by rw [l2]; exact ld, by rw [r2.length_eq, m2]; exact room, by rw [r2.length_eq]; exact few⟩ r2) (by rw [z2, eL, sizeLine_eq]; omega)
theorem off_mask (b : Bool) : (if b = true then t else { t with plain := false }).mask = t.mask := by cases b <;> rfl
theorem off_led (b : Bool) : (if b = true then t else { t with plain := false }).led = t.led := by cases b <;> rfl
theorem off_place (b : Bool) : (if b = true then t else { t with plain := false }).place = t.place := by cases b <;> rfl
theorem off_full (b : Bool) : (if b = true then t else { t with plain := false }).tooFull = t.tooFull := by cases b <;> rfl
theorem put_any {α : Type} (L : List α) (p : Nat) (x : α) : (L.take p ++ x :: L.drop p).Perm (x :: L) := by
  have h : (L.take p ++ x :: L.drop p).Perm (x :: (L.take p ++ L.drop p)) := List.perm_middle
  rwa [List.take_append_drop] at h
theorem by_val {k : List Str} {b : Addr} (T : Tx P w s.heap k b) {α : Type} {c : Prop} [Decidable c] {K : Bool → Sem α} {Q : α → Shared → Prop} (h : ∀ bv, wpAny (model P w) A (K bv) Q E s) :
    wpAny (model P w) A (if c then (hashByValue 8 (.ref b) >>= K) else (pure true >>= K)) Q E s := by
  by_cases z : c
  · exact wp_if_pos z (wpAny_bind (T.hashBy h))
  · exact wp_if_neg z (wpAny_bind (wpAny_pure (h true)))
/-- one more -/
theorem add_T (R : TsR P w s.heap a L es ep t) {x : Addr} {k : List Str} (T : Tx P w s.heap k x) (hu : A.units < cLine) (few2 : L.length + 1 < 64) {Q : Bool → Shared → Prop}
    (q : ∀ b h' L' es' ep' t', Heap.SameBut a s.heap h' → TsR P w h' a L' es' ep' t' → (k ∈ L.map (·.2) → L' = L) → (k ∉ L.map (·.2) → L'.Perm ((x, k) :: L)) → Q b { s with heap := h' }) : wpAny (model P w) A (setAddHashed a (.ref x) (tg P w k)) Q E s := by
  obtain ⟨o, ho, ex, dt⟩ := R.ob
  have eL := R.size
  have rm := R.room
  unfold setAddHashed
  refine wpAny_holding ?_
  rw [show (100000 : Nat) = 99999 + 1 from rfl, setAddHashedIn_succ]
  refine wpAny_bind (wpAny_setState_of ho dt R.fits ?_)
  dsimp only
  refine wp_if_neg (by simp [byScan, Value.scannable]) ?_
  try refine wpAny_bind (wpAny_pure ?_)
  refine wpAny_bind (R.search T hu (fun m => ?_) fun N nm free full => ?_)
  · dsimp only
    exact wpAny_pure (q false s.heap L es ep t (.refl a s.heap) R (fun _ => rfl) fun z => absurd m z)
  · dsimp only
    refine wpAny_bind (wpAny_setState_of ho dt R.fits ?_)
    dsimp only
    obtain ⟨q1, q2, q3, q4, q5, q6, q7, q8, q9⟩ := R.tab.put free full
    generalize hpt : t.put (way t.mask (tg P w k) N) = pt at q1 q3 q4 q5 q9 ⊢
    obtain ⟨t1, at1⟩ := pt
    dsimp only at q1 q3 q4 q5 q9 ⊢
    subst q1
    refine by_val T fun bv => ?_
    have inn : (SetTable.insertAt es (SetTable.below t.place (way t.mask (tg P w k) N)) (tg P w k, Value.ref x)).toList = (L.take (SetTable.below t.place (way t.mask (tg P w k) N)) ++ (x, k) :: L.drop (SetTable.below t.place (way t.mask (tg P w k) N))).map (rowT P w) := by
      rw [SetTable.toList_insertAt, R.rw_, List.map_append, List.map_cons, List.map_take, List.map_drop]
      rfl
    generalize SetTable.below t.place (way t.mask (tg P w k) N) = p at q2 q3 inn ⊢
    have pm := put_any L p (x, k)
    have hlen : (L.take p ++ (x, k) :: L.drop p).length = L.length + 1 := pm.length_eq
    have hh : (L.take p ++ (x, k) :: L.drop p).map (fun p => tg P w p.2) = (L.map fun p => tg P w p.2).take p ++ tg P w k :: (L.map fun p => tg P w p.2).drop p := by rw [List.map_append, List.map_cons, List.map_take, List.map_drop]
    rw [← hh] at q3
    have nd1 : ((L.take p ++ (x, k) :: L.drop p).map (·.2)).Nodup := (pm.map (·.2)).nodup_iff.mpr (by
      rw [List.map_cons]
      exact List.nodup_cons.mpr ⟨nm, R.nd⟩)
    have es1z : (SetTable.insertAt es p (tg P w k, Value.ref x)).size = L.length + 1 := by rw [← Array.length_toList, inn, List.length_map, hlen]
    generalize SetTable.insertAt es p (tg P w k, Value.ref x) = es1 at inn es1z ⊢
    generalize L.take p ++ (x, k) :: L.drop p = L1 at pm hlen q3 nd1 inn
    -- the table as it is stored
    have T1 := tab_off q3 bv
    have em := off_mask (t := t1) bv
    have el := off_led (t := t1) bv
    have ep1 := off_place (t := t1) bv
    have ef := off_full (t := t1) bv
    generalize (if bv = true then t1 else { t1 with plain := false }) = t2 at T1 em el ep1 ef ⊢
    refine wpAny_bind (wpAny_storeSet_of ho dt ?_ (by rw [es1z, sizeLine_eq]; omega))
    have sb : Heap.SameBut a s.heap (s.heap.update a (Obj.putSet es1 t2)) := .update ..
    have ho1 := store_at (es' := es1) (t' := t2) ho dt
    generalize s.heap.update a (Obj.putSet es1 t2) = h1 at sb ho1 ⊢
    have tx1 : ∀ p ∈ L1, Tx P w h1 p.2 p.1 := fun p hp => by
      rcases List.mem_cons.mp (pm.mem_iff.mp hp) with e | hp
      · rw [e]
        exact T.same ho dt sb
      · exact (R.tx p hp).same ho dt sb
    have ld1 : w.params.followText "set-order" = true ∨ t2.led = true := by
      rw [el, q5]
      exact R.led
    have ex1 : ({ o with data := .set es1 (ep + 1) t2 } : Obj).ExactSet := ⟨ex.1, ex.2.1, ex.2.2⟩
    have fullIs : t1.tooFull = decide ((L.length + 1) * 5 ≥ t1.mask * 3) := by
      unfold SetTable.tooFull
      rw [q9, List.length_map]
    by_cases hf : t2.tooFull = true
    · have hf1 := hf
      rw [ef, fullIs, decide_eq_true_eq, q4] at hf1
      have two : (t.mask = 7 ∧ L.length = 4) ∨ (t.mask = 31 ∧ L.length = 18) := by
        rcases R.tab.mok with e | e | e
        · exact .inl ⟨e, by rw [e] at hf1 rm; omega⟩
        · exact .inr ⟨e, by rw [e] at hf1 rm; omega⟩
        · exfalso
          rw [e] at hf1
          omega
      have go : ∀ M, SetTable.sizeAbove (SetTable.grown (L.length + 1)) - 1 = M → MaskOk M → SetTable.sizeAbove (SetTable.grown (L.length + 1)) ≤ 128 → (L.length + 1) * 5 < M * 3 →
          wpAny (model P w) A (setRelay a (SetTable.grown (L.length + 1))) (fun _ s2 => wpAny (model P w) A (pure true) Q E s2) E { s with heap := h1 } := fun M h1' h2' h3' h4' => by
        refine relay_T (s := { s with heap := h1 }) ho1 ex1 rfl inn ?_ T1.dm ?_ nd1 tx1 ld1 (by rw [hlen]; exact few2) h1' h2' h3' (by rw [hlen]; exact h4') fun h2 L2 es2 e2 t3 sb2 R2 pm2 => ?_
        · have := T1.sz
          rw [List.length_map, hlen] at this
          rw [this, es1z]
        · rw [es1z, em, q4]
          rcases two with ⟨z1, z2⟩ | ⟨z1, z2⟩ <;> omega
        · exact wpAny_pure (q true h2 L2 es2 e2 t3 (sb.trans sb2) R2 (fun z => absurd z nm) fun _ => pm2.trans pm)
      have fin : wpAny (model P w) A (setRelay a (SetTable.grown (L.length + 1))) (fun _ s2 => wpAny (model P w) A (pure true) Q E s2) E { s with heap := h1 } := by
        rcases two with ⟨_, e2⟩ | ⟨_, e2⟩
        · exact go 31 (by rw [e2, size_20]) (.inr (.inl rfl)) (by rw [e2, size_20]; decide) (by omega)
        · exact go 127 (by rw [e2, size_76]) (.inr (.inr rfl)) (by rw [e2, size_76]; decide) (by omega)
      rw [eL]
      first
        | (refine wpAny_bind ?_; exact wp_if_pos (by simp [hf]) fin)
        | (refine wp_if_pos (by simp [hf]) ?_; exact wpAny_bind fin)
    · have hf1 := hf
      rw [ef, fullIs, decide_eq_true_eq, q4] at hf1
      have R1 : TsR P w h1 a L1 es1 (ep + 1) t2 := ⟨⟨_, ho1, ex1, rfl⟩, inn, T1, nd1, tx1, ld1, by rw [hlen, em, q4]; omega, by rw [hlen]; exact few2⟩
      have fin : wpAny (model P w) A (pure true) Q E { s with heap := h1 } := wpAny_pure (q true h1 L1 es1 (ep + 1) t2 sb R1 (fun z => absurd z nm) fun _ => pm)
      first
        | (refine wp_if_neg (by simp [hf]) ?_; exact fin)
        | (refine wpAny_bind ?_; refine wp_if_neg (by simp [hf]) ?_; exact wpAny_pure fin)
end
end Cb

/-! set(xs), whatever the items are: told by what is known turn by turn. -/
namespace Cb
open PySem PySem.Spec PyProof.Rows L2 PySem.W
section
variable {P : Program} {w : World} {A : Around} {E : Value → Shared → Prop} {s : Shared}
/-- a set that is new -/
abbrev set0 (w : World) : Obj := { cls := .type "set", dict := none, data := .set #[] 0 (.fresh 0 0 (!w.params.followText "set-order")) }
theorem set_loop {I S : Addr} {fp wr : List Addr} {G : Array GenState → Array GenState → Prop} {n : Nat} {Pv : Nat → Value → Prop} {St : Nat → Shared → Prop} {R : Result → Shared → Prop} (W : WalksS P w A.in1 I fp wr G n Pv St) (out : S ∉ fp) (J : Nat → Heap → Prop)
    (keep : ∀ i h h', J i h → (∀ b o, b ∉ wr → h.get? b = some o → h'.get? b = some o) → J i h')
    (add : ∀ i v (st : Shared) (Q : Bool → Shared → Prop) (E : Value → Shared → Prop), Pv i v → i < n → J i st.heap → (∀ b h' tk, st.toks ≤ tk → Heap.SameBut S st.heap h' → J (i + 1) h' → Q b { st with heap := h', toks := tk }) → wpAny (model P w) A.in1 (setAdd S v) Q E st) :
    ∀ (m i : Nat) (s : Shared), n - i = m → i ≤ n → St i s → J i s.heap → (∀ s', Moved (S :: wr) G s s' → J n s'.heap → R (.ok (.ret .none)) s') → codeAny (model P w) A (.builtin "set.update.loop" ⟨[.ref S, .ref I], []⟩) R s := by
  have sub : ∀ b ∈ wr, b ∈ S :: wr := fun b hb => List.mem_cons_of_mem _ hb
  intro m
  induction m with
  | zero =>
    intro i s hm hi st j r
    obtain rfl : i = n := by omega
    refine codeAny_builtin F.entry_set_update_loop ?_
    rw [Around.under_plainId F.plain_set_update_loop _]
    show wpAny _ A.in1 (pyNext (.ref I) >>= _) _ _ s
    refine wpAny_bind (W.done s _ _ st fun s1 mv => ?_)
    show wpAny _ A.in1 (ret Value.none) _ _ s1
    exact wpAny_pure (r s1 (mv.mono sub) (keep _ _ _ j fun b o nb e => mv.heap b o nb e))
  | succ m ih =>
    intro i s hm hi st j r
    have lt : i < n := by omega
    refine codeAny_builtin F.entry_set_update_loop ?_
    rw [Around.under_plainId F.plain_set_update_loop _]
    show wpAny _ A.in1 (pyNext (.ref I) >>= _) _ _ s
    refine wpAny_bind (W.item i s _ _ lt st fun v s1 pv st1 mv => ?_)
    show wpAny _ A.in1 (holding [v] (setAdd S v) >>= _) _ _ s1
    refine wpAny_bind (wpAny_holding (add i v s1 _ _ pv lt (keep _ _ _ j fun b o nb e => mv.heap b o nb e) fun b h2 tk le sb j2 => ?_))
    refine wpAny_pure ⟨plainId_quiet F.plain_set_update_loop _, ih (i + 1) _ (by omega) lt (W.frame _ s1 _ _ st1 le fun c hc o e => ?_) j2 fun s3 mv3 j3 => ?_⟩
    · exact (sb.2 c fun z => out (by rw [← z]; exact hc)).trans e
    · refine r s3 (Moved.trans W.gtrans ((mv.mono sub).then_heap le fun c o hc e => ?_) mv3) j3
      exact (sb.2 c fun z => hc (by rw [z]; exact List.mem_cons_self)).trans e
set_option maxHeartbeats 8000000 in
theorem call_set_of {l : Addr} {items : Array Value} (hh : A.handled = none) (hl : s.heap.IsList l items) (J : Nat → Heap → Prop)
    (j0 : ∀ h, (∀ b o, s.heap.get? b = some o → h.get? b = some o) → h.get? s.heap.objs.size = some (set0 w) → J 0 h) (keep : ∀ i h h', J i h → (∀ b o, b ≠ s.heap.objs.size + 1 → h.get? b = some o → h'.get? b = some o) → J i h')
    (add : ∀ (B : Around) i v (st : Shared) (Q : Bool → Shared → Prop) (E : Value → Shared → Prop), B.units ≤ A.units + 3 → items[i]? = some v → J i st.heap → (∀ b h' tk, st.toks ≤ tk → Heap.SameBut s.heap.objs.size st.heap h' → J (i + 1) h' → Q b { st with heap := h', toks := tk }) → wpAny (model P w) B (setAdd s.heap.objs.size v) Q E st)
    {Q : Value → Shared → Prop} (q : ∀ (h' : Heap) (tk : Nat), J items.size h' → (∀ b o, s.heap.get? b = some o → h'.get? b = some o) → Q (.ref s.heap.objs.size) { s with heap := h', toks := tk }) : wpAny (model P w) A (call (.type "set") [.ref l]) Q E s := by
  obtain ⟨c, tl, hmro⟩ := PySem.F.called_set.mro
  have hmade := PySem.F.called_set.made
  have hsub := PySem.F.called_set.sub
  refine wpAny_call (codeAny_of_tree ?_)
  show wpAny _ _ (callAny (.type "set") _) _ _ _
  refine wpAny_pure ⟨Code.quiet_builtin _ (by decide +kernel), codeAny_builtin PySem.F.entry_type_call ?_⟩
  rw [Around.under_plain (weight_type_call_type "set" [.ref l] []) rfl]
  have h1 := PySem.F.called_set.notType
  have h2 := PySem.F.called_set.canCreate
  have hct := PySem.F.typeCall_set_1 (.ref l)
  repeat any_goals first | assumption | wp_step
  refine codeAny_mono (code_set_led1 (.ref l) (E := E) (Q₁ := fun ob s1 => ob = .ref s.heap.objs.size ∧ s1 = { s with heap := s.heap.push (set0 w) }) ⟨rfl, rfl⟩) fun r s1 hr => ?_
  cases r with
  | error e => exact hr
  | ok fl =>
    cases fl with
    | ret ob =>
      obtain ⟨rfl, rfl⟩ := hr
      have hS : (s.heap.push (set0 w)).get? s.heap.objs.size = some (set0 w) := Heap.get?_push_size _ rfl
      have hT : Shared.TypeIs { s with heap := s.heap.push (set0 w) } (.ref s.heap.objs.size) "set" := ⟨_, hS, rfl⟩
      have hli := PySem.F.called_set.init.lookup
      have hbi := PySem.F.called_set.init.bind (.ref s.heap.objs.size)
      repeat any_goals first | assumption | wp_step
      refine codeAny_mono (codeAny_call_builtin (R := wants (fun r s2 => r = .none ∧ ∃ h' tk, s2 = { s with heap := h', toks := tk } ∧ J items.size h' ∧ ∀ b o, s.heap.get? b = some o → h'.get? b = some o) E) PySem.F.called_set.init.plain PySem.F.entry_set_init (check_set_init_1 hT ?_)) fun r2 s2 hr2 => ?_
      · obtain ⟨ol, hol, hcl, nl, hdl⟩ := hl
        obtain ⟨kcls, kdict, kdata, kslots⟩ := ol
        simp only at hcl hdl
        subst hcl hdl
        have hol2 : (s.heap.push (set0 w)).get? l = some { cls := .type "list", dict := kdict, data := .seq items nl, slots := kslots } := Heap.get?_push_of_some _ hol
        have n1 := PySem.F.sub_list_set
        have n2 := PySem.F.sub_list_frozenset
        have n3 : (Value.type "list" == Value.type "dict") = false := by decide
        have hl2 : (s.heap.push (set0 w)).IsList l items := ⟨_, hol2, rfl, nl, rfl⟩
        unfold Builtin.«set.__init__» noKeywords Builtin.Frozenset.updateFrom
        generalize hPI : pyIter = PI
        wp_walk
        subst hPI
        refine wpAny_pyIter_list hl2 ?_
        refine wpAny_bind (wpAny_runValue ?_)
        have lS : l < s.heap.objs.size := Heap.lt_size hol
        have z1 : (s.heap.push (set0 w)).objs.size = s.heap.objs.size + 1 := Heap.size_push ..
        have nI : l ≠ (s.heap.push (set0 w)).objs.size := by
          rw [z1]
          exact Nat.ne_of_lt (Nat.lt_succ_of_lt lS)
        have calm : A.in1.in1.in1.handled = none := by simp [hh]
        have outS : s.heap.objs.size ∉ [(s.heap.push (set0 w)).objs.size, l] := by
          rw [z1]
          intro z
          rcases List.mem_cons.mp z with e | z
          · exact absurd e (Nat.ne_of_lt (Nat.lt_succ_self _))
          · exact absurd (List.mem_singleton.mp z) (Nat.ne_of_gt lS)
        refine set_loop (A := A.in1.in1) ((Walks.list calm _ l nI items).toS) outS J (fun i h h' j kp => keep i h h' j fun b o nb e => kp b o (fun z => nb ((List.mem_singleton.mp z).trans z1)) e) (fun i v st Q E pv _ j k => add _ i v st Q E (Nat.le_refl _) pv j k) (items.size - 0) 0 _ rfl (Nat.zero_le _)
          ⟨⟨_, Heap.get?_push_size _ rfl, rfl, rfl⟩, hl2.push _⟩ (j0 _ (fun b o e => Heap.get?_push_of_some _ (Heap.get?_push_of_some _ e)) (Heap.get?_push_of_some _ hS)) fun s' mv j => ?_
        obtain ⟨h', g2, d2, tk2, os2⟩ := s'
        have eg : g2 = s.gens := mv.gens
        have ed : d2 = s.drawn := mv.drawn
        have eo : os2 = s.os := mv.os
        subst eg ed eo
        show wpAny _ _ _ _ _ _
        refine wpAny_pure ?_
        show wpAny _ _ (ret Value.none) _ _ _
        refine wpAny_pure ⟨rfl, h', tk2, rfl, j, fun b o e => ?_⟩
        have lt := Heap.lt_size e
        refine mv.heap b o (fun z => ?_) (Heap.get?_push_of_some _ (Heap.get?_push_of_some _ e))
        rcases List.mem_cons.mp z with z | z
        · exact absurd z (Nat.ne_of_lt lt)
        · rw [List.mem_singleton.mp z, z1] at lt
          exact absurd (Nat.lt_of_succ_lt lt) (Nat.lt_irrefl _)
      · cases r2 with
        | error e => exact hr2
        | ok fl2 =>
          cases fl2 with
          | ret r =>
            obtain ⟨rfl, h', tk, rfl, j, kp⟩ := hr2
            repeat any_goals first | assumption | wp_step
            exact q _ _ j kp
          | _ => exact hr2.elim
    | _ => exact hr.elim
end
end Cb

/-! set(crews) and sorted(set(crews)). -/
namespace Cb
open PySem PySem.Spec PyProof.Rows L2 PySem.W
section
variable {P : Program} {w : World}
/-- the set at a, its members told elsewhere -/
structure Ts0 (P : Program) (w : World) (h : Heap) (a : Addr) (L : List AK) (es : Array (Int × Value)) (ep : Nat) (t : SetTable) : Prop where
  ob : ∃ o, h.get? a = some o ∧ o.ExactSet ∧ o.data = .set es ep t
  rw_ : es.toList = L.map (rowT P w)
  tab : TabOk t (L.map fun p => tg P w p.2)
  nd : (L.map (·.2)).Nodup
  led : w.params.followText "set-order" = true ∨ t.led = true
  room : L.length * 5 < t.mask * 3
  few : L.length < 64
theorem TsR.bare {h : Heap} {a : Addr} {L : List AK} {es : Array (Int × Value)} {ep : Nat} {t : SetTable} (R : TsR P w h a L es ep t) : Ts0 P w h a L es ep t := ⟨R.ob, R.rw_, R.tab, R.nd, R.led, R.room, R.few⟩
theorem Ts0.full {h : Heap} {a : Addr} {L : List AK} {es : Array (Int × Value)} {ep : Nat} {t : SetTable} (R : Ts0 P w h a L es ep t) (tx : ∀ p ∈ L, Tx P w h p.2 p.1) : TsR P w h a L es ep t := ⟨R.ob, R.rw_, R.tab, R.nd, tx, R.led, R.room, R.few⟩
def TsO (P : Program) (w : World) (a : Addr) (L : List AK) : HO := .ext fun h => ∃ es ep t, Ts0 P w h a L es ep t
theorem tsO_ok {H : Hp} {h : Heap} {a : Addr} {L : List AK} {es : Array (Int × Value)} {ep : Nat} {t : SetTable} (R : Ts0 P w h a L es ep t) : ObjOk P w H h a (TsO P w a L) := by
  obtain ⟨o, ho, z⟩ := id R.ob
  refine ⟨⟨es, ep, t, R⟩, ⟨o, ho⟩, fun h1 h2 x k => ?_⟩
  obtain ⟨es2, e2, t2, R2⟩ := x
  obtain ⟨o2, ho2, z2⟩ := id R2.ob
  exact ⟨es2, e2, t2, ⟨⟨o2, k o2 ho2, z2⟩, R2.rw_, R2.tab, R2.nd, R2.led, R2.room, R2.few⟩⟩
theorem ts_new {h : Heap} {a : Addr} (e : h.get? a = some (set0 w)) : TsR P w h a [] #[] 0 (.fresh 0 0 (!w.params.followText "set-order")) where
  ob := ⟨_, e, ⟨rfl, rfl, rfl⟩, rfl⟩
  rw_ := rfl
  tab := ⟨.nil, rfl, rfl, .inl rfl, fun x hx => absurd hx (by simp [SetTable.fresh]), fun i h j hi => absurd hi (by simp)⟩
  nd := .nil
  tx := fun p hp => absurd hp (by simp)
  led := by
    show _ ∨ (!w.params.followText "set-order") = true
    cases w.params.followText "set-order" with
    | true => exact .inl rfl
    | false => exact .inr rfl
  room := by
    show 0 * 5 < 7 * 3
    decide
  few := by decide
theorem items_txt : ∀ {k : List Str} {us : List Value}, Vals (k.map V.str) us → ItemsAre (strKind P w) k us
  | [], _, .nil => .nil
  | x :: k, _, .cons r t => by
    obtain ⟨tk, rfl⟩ := r
    exact .cons (Froz.is_str x tk) (items_txt t)
end
section
variable {X : Cx} {pins : List (Addr × Obj)} {σ : Stt} {H : Hp} {s : Shared}
theorem tx_of (I : Inv X pins σ H s) {b : Addr} {k : List Str} (h : SqT X.K H b (k.map V.str)) : Tx X.prog X.w s.heap k b := by
  obtain ⟨its, r, ⟨o, ho, hc, n, hd⟩, _⟩ := I.tuple h
  exact ⟨o, its.toArray, n, ho, hc, hd, by simpa using items_txt r⟩
theorem refs_ak : ∀ {ks : List AK} {us : List Value}, Vals (ks.map fun p => V.ref p.1) us → us = ks.map fun p => Value.ref p.1
  | [], _, .nil => rfl
  | p :: ks, _, .cons r t => by
    cases r
    rw [refs_ak t, List.map_cons]
theorem ak_refs : ∀ ks : List AK, Vals (ks.map fun p => V.ref p.1) (ks.map fun p => Value.ref p.1)
  | [] => .nil
  | p :: ks => .cons rfl (ak_refs ks)
/-- crews with where they stand -/
theorem ak_of {K : Frag} {H : Hp} : ∀ {xs : List V} {ts : List (List Str)}, Paired (S1 K H) xs ts → ∃ ks : List AK, xs = ks.map (fun p => V.ref p.1) ∧ ts = ks.map (·.2) ∧ ∀ p ∈ ks, SqT K H p.1 (p.2.map V.str)
  | _, _, .nil => ⟨[], rfl, rfl, fun p h => absurd h (by simp)⟩
  | _, _, .cons (b := t) r z => by
    obtain ⟨ks, e1, e2, e3⟩ := ak_of z
    obtain ⟨a, rfl, h⟩ := r
    refine ⟨(a, t) :: ks, by rw [e1]; rfl, by rw [e2]; rfl, fun p hp => ?_⟩
    rcases List.mem_cons.mp hp with rfl | hp
    · exact h
    · exact e3 p hp
/-- set(crews) -/
def rSetTs (K : Frag) (P : Program) (w : World) : List V → Hp → VK → Prop := fun vs H Q => ∃ (l : Addr) (xs : List V) (ts : List (List Str)), vs = [.ref l] ∧ SqL K H l xs ∧ Paired (S1 K H) xs ts ∧ ts.length < 64 ∧
  ∀ a (L : List AK), H a = none → (∀ p ∈ L, SqT K H p.1 (p.2.map V.str)) → (L.map (·.2)).Nodup → (∀ t, t ∈ L.map (·.2) ↔ t ∈ ts) → L.length ≤ ts.length → Q (.ref a) (upd H a (TsO P w a L))
theorem cr_setTs (hc : X.calm = true) (hu : X.A.units + 64 < cLine) : CallR X (.type "set") (rSetTs X.K X.prog X.w) := by
  intro pins s σ H vs us Q I r h
  obtain ⟨l, xs, ts, rfl, hl, hp, few, q⟩ := h
  obtain ⟨ks, rfl, rfl, sq⟩ := ak_of hp
  rw [Vals.ref1 r]
  rw [List.length_map] at few
  obtain ⟨its, rv, pl, hz⟩ := I.list hl
  have hits := refs_ak rv
  have hn : H s.heap.objs.size = none := I.hok.fresh (Nat.le_refl _)
  have tx0 : ∀ p ∈ ks, Tx X.prog X.w s.heap p.2 p.1 := fun p hp => tx_of I (sq p hp)
  have small : ∀ {b : Addr} {o : Obj}, s.heap.get? b = some o → b ≠ s.heap.objs.size ∧ b ≠ s.heap.objs.size + 1 := fun {b o} e => ⟨Nat.ne_of_lt (Heap.lt_size e), Nat.ne_of_lt (Nat.lt_succ_of_lt (Heap.lt_size e))⟩
  refine call_set_of (P := X.prog) (w := X.w) (items := its.toArray) (I.ok.hd hc) pl.isList
    (fun i h => (∀ b o, s.heap.get? b = some o → h.get? b = some o) ∧ ∃ L es ep t, TsR X.prog X.w h s.heap.objs.size L es ep t ∧ (∀ p ∈ L, p ∈ ks.take i) ∧ (∀ p ∈ ks.take i, p.2 ∈ L.map (·.2)) ∧ L.length ≤ i)
    (fun h kp e => ⟨kp, [], _, _, _, ts_new e, fun p hp => absurd hp (by simp), fun p hp => absurd hp (by simp), Nat.le_refl _⟩) (fun i h h' z kp => ?_) (fun B i v st Q E bu hv z k => ?_) fun h' tk z kp => ?_
  · obtain ⟨z1, L, es, ep, t, R, z2, z3, z4⟩ := z
    have up : ∀ b o, s.heap.get? b = some o → h'.get? b = some o := fun b o e => kp b o (small e).2 (z1 b o e)
    obtain ⟨o, ho, zo⟩ := R.ob
    exact ⟨up, L, es, ep, t, ⟨⟨o, kp _ o (Nat.ne_of_lt (Nat.lt_succ_self _)) ho, zo⟩, R.rw_, R.tab, R.nd, fun p hp => (tx0 p (List.mem_of_mem_take (z2 p hp))).keep up, R.led, R.room, R.few⟩, z2, z3, z4⟩
  · obtain ⟨z1, L, es, ep, t, R, z2, z3, z4⟩ := z
    rw [← Array.getElem?_toList, hits] at hv
    simp only [List.getElem?_map] at hv
    obtain ⟨p, hp, rfl⟩ := Option.map_eq_some_iff.mp hv
    have il := (List.getElem?_eq_some_iff.mp hp).1
    have T := (tx0 p (List.mem_of_getElem? hp)).keep z1
    have ub : B.units < cLine := by omega
    unfold setAdd
    refine wpAny_holding (wpAny_bind (wpAny_pyHash_tuple ub T ?_))
    refine add_T (s := { st with toks := st.toks + (p.2.length + 1) }) ⟨R.ob, R.rw_, R.tab, R.nd, R.tx, R.led, R.room, R.few⟩ T ub (by omega) fun b h' L' es' ep' t' sb R' c1 c2 => ?_
    refine k b h' _ (Nat.le_add_right _ _) sb ⟨fun c o e => (sb.2 c (small e).1).trans (z1 c o e), L', es', ep', t', R', ?_⟩
    rw [take_snoc hp]
    by_cases m : p.2 ∈ L.map (·.2)
    · rw [c1 m]
      refine ⟨fun x hx => List.mem_append_left _ (z2 x hx), fun x hx => ?_, by omega⟩
      rcases List.mem_append.mp hx with hx | hx
      · exact z3 x hx
      · rw [List.mem_singleton.mp hx]
        exact m
    · have pm := c2 m
      refine ⟨fun x hx => ?_, fun x hx => ?_, by rw [pm.length_eq]; simp; omega⟩
      · rcases List.mem_cons.mp (pm.mem_iff.mp hx) with rfl | hx
        · exact List.mem_append_right _ (List.mem_singleton.mpr rfl)
        · exact List.mem_append_left _ (z2 x hx)
      · rw [(pm.map (·.2)).mem_iff, List.map_cons]
        rcases List.mem_append.mp hx with hx | hx
        · exact List.mem_cons_of_mem _ (z3 x hx)
        · rw [List.mem_singleton.mp hx]
          exact List.mem_cons_self
  · obtain ⟨_, L, es, ep, t, R, z2, z3, z4⟩ := z
    have ei : its.toArray.size = ks.length := by
      rw [List.size_toArray, hits, List.length_map]
    rw [ei, List.take_length] at z2 z3
    refine ⟨.ref s.heap.objs.size, upd H s.heap.objs.size (TsO X.prog X.w s.heap.objs.size L), I.laid (t' := tk) kp (Nat.le_refl _) (tsO_ok R.bare), rfl, q _ L hn (fun p hp => sq p (z2 p hp)) R.nd (fun t => ?_) (by rw [List.length_map]; omega)⟩
    constructor
    · intro m
      obtain ⟨p, hp, rfl⟩ := List.mem_map.mp m
      exact List.mem_map.mpr ⟨p, z2 p hp, rfl⟩
    · intro m
      obtain ⟨p, hp, rfl⟩ := List.mem_map.mp m
      exact z3 p hp
end
end Cb

namespace Cb
open PySem PySem.Spec PyProof.Rows L2 PySem.W
theorem unmap {α β : Type} (f : α → β) : ∀ (L : List α) (vs : List β), vs.Perm (L.map f) → ∃ L1 : List α, L1.Perm L ∧ vs = L1.map f
  | [], vs, h => ⟨[], .refl _, h.eq_nil⟩
  | p :: L, vs, h => by
    obtain ⟨u, v, rfl⟩ := List.append_of_mem (h.mem_iff.mpr (List.mem_cons_self (a := f p) (l := L.map f)))
    have h2 : (u ++ v).Perm (L.map f) := (List.perm_cons (f p)).mp (List.perm_middle.symm.trans h)
    obtain ⟨L1, p1, e1⟩ := unmap f L (u ++ v) h2
    have eu : u = (L1.take u.length).map f := by
      have := congrArg (List.take u.length) e1
      rwa [List.take_left, ← List.map_take] at this
    have ev : v = (L1.drop u.length).map f := by
      have := congrArg (List.drop u.length) e1
      rwa [List.drop_left, ← List.map_drop] at this
    refine ⟨L1.take u.length ++ p :: L1.drop u.length, (put_any L1 u.length p).trans (p1.cons p), ?_⟩
    rw [List.map_append, List.map_cons, ← eu, ← ev]
theorem prd_maps {α β γ : Type} {F : β → γ → Prop} (f : α → β) (g : α → γ) : ∀ l : List α, (∀ p ∈ l, F (f p) (g p)) → Paired F (l.map f) (l.map g)
  | [], _ => .nil
  | p :: l, h => .cons (h p List.mem_cons_self) (prd_maps f g l fun q hq => h q (List.mem_cons_of_mem _ hq))
theorem each_maps {α : Type} {R : Value → α → Prop} (f : α → Value) : ∀ l : List α, (∀ p ∈ l, R (f p) p) → EachIs R (l.map f) l
  | [], _ => .nil
  | p :: l, h => .cons (h p List.mem_cons_self) (each_maps f l fun q hq => h q (List.mem_cons_of_mem _ hq))
section
variable {X : Cx}
/-- sorted(a set of crews) -/
def rSrtTs (K : Frag) (P : Program) (w : World) : List V → Hp → VK → Prop := fun vs H Q => ∃ (a : Addr) (L : List AK), vs = [.ref a] ∧ H a = some (TsO P w a L) ∧ (∀ p ∈ L, SqT K H p.1 (p.2.map V.str)) ∧ (∀ p ∈ L, p.2 ≠ []) ∧
  ∀ p ys us, H p = none → us.Perm (L.map (·.2)) → Paired (S1 K H) ys (srtT us) → Q (.ref p) (upd H p (.lst ys))
theorem cr_srtTs (hc : X.calm = true) (hu : X.A.units + 64 < cLine) : CallR X (.builtin "sorted") (rSrtTs X.K X.prog X.w) := by
  intro pins s σ H vs us Q I r h
  obtain ⟨a, L, rfl, hD, sq, ne, q⟩ := h
  rw [Vals.ref1 r]
  obtain ⟨es, ep, t, R0⟩ : ∃ es ep t, Ts0 X.prog X.w s.heap a L es ep t := (I.hok a _ hD).1
  have R := R0.full fun p hp => tx_of I (sq p hp)
  obtain ⟨o, ho, ex, dt⟩ := R.ob
  refine call_function_entry_kw kind_sorted plain_sorted entry_sorted (args_sorted1 _) ?_
  unfold Builtin.«sorted»
  refine wpAny_bind (m := checkCount "sorted" 1 1 _) (wpAny_pure (wpAny_bind ?_))
  have few0 := R.few
  have few : es.size < scanBound := by
    rw [R.size]
    show L.length < 4096
    omega
  refine collect_set (a := a) (es := es) (ep := ep) (t := t) (I.ok.hd hc) ⟨o, ho, ex.1, dt⟩ R.fits few R.tab.ris R.led fun s1 vs k1 z1 g1 o1 pm => ?_
  have er0 : es.toList.map (·.2) = L.map fun p => Value.ref p.1 := by
    rw [R.rw_, List.map_map]
    rfl
  rw [er0] at pm
  obtain ⟨L1, p1, rfl⟩ := unmap (fun p : AK => Value.ref p.1) L vs pm
  have vl : (L1.map fun p : AK => Value.ref p.1).length ≤ sizeLine := by
    rw [List.length_map, p1.length_eq]
    exact Nat.le_of_lt (big (by omega))
  generalize hvs : (L1.map fun p : AK => Value.ref p.1) = vs at vl
  have at1 : (s1.heap.push (seqObj "list" vs.toArray 0)).get? s1.heap.objs.size = some (seqObj "list" vs.toArray 0) := Heap.get?_push_size _ rfl
  refine wpAny_bind (wpAny_newList ?_ vl)
  refine wpAny_bind (wpAny_holding (wpAny_call_entry_kw slot_list_sort ⟨_, at1, rfl⟩ entry_list_sort ?_ (args_list_sort _)))
  have up : ∀ b o, s.heap.get? b = some o → (sortingHeap (s1.heap.push (seqObj "list" vs.toArray 0)) s1.heap.objs.size vs).get? b = some o := fun b o e => by
    have e1 := k1 b o e
    exact sortingHeap_old (Nat.ne_of_lt (Heap.lt_size e1)) (Heap.get?_push_of_some _ e1)
  have ke : EachIs (fun v (p : AK) => v = Value.ref p.1) vs L1 := by
    rw [← hvs]
    exact each_maps _ L1 fun p _ => rfl
  have er : EachIs (fun v (p : AK) => ∃ as, Reads (sortingHeap (s1.heap.push (seqObj "list" vs.toArray 0)) s1.heap.objs.size vs) v (sD p.2) as) vs L1 := by
    rw [← hvs]
    refine each_maps _ L1 fun p hp => ?_
    obtain ⟨as, rd⟩ := Dp.reads I (sD p.2) (.ref p.1) (.ref p.1) (S1.dp ⟨p.1, rfl, sq p (p1.mem_iff.mp hp)⟩) rfl
    rw [hvs]
    exact ⟨as, PyProof.Rows.Reads.keeps up rd⟩
  have hal : AllAlike (L1.map fun p : AK => sD p.2) := fun d hd d' hd' => by
    obtain ⟨k, _, rfl⟩ := List.mem_map.mp hd
    obtain ⟨k', _, rfl⟩ := List.mem_map.mp hd'
    show alike (sD k.2) (sD k'.2) = true
    unfold sD
    rw [alike]
    exact alike_strs _ _
  have hso : Sortable (L1.map fun p : AK => sD p.2) := .inl fun d hd => by
    obtain ⟨p, hp, rfl⟩ := List.mem_map.mp hd
    have n := ne p (p1.mem_iff.mp hp)
    show ∃ x r, sD p.2 = .tuple (x :: r)
    match e : p.2 with
    | [] => exact absurd e n
    | x :: r => exact ⟨PyData.str x, r.map PyData.str, rfl⟩
  refine list_sort_vals (s := { s1 with heap := s1.heap.push (seqObj "list" vs.toArray 0) }) at1
    (SortsAt.data (s := { s1 with heap := sortingHeap (s1.heap.push (seqObj "list" vs.toArray 0)) s1.heap.objs.size vs }) (each_map (R := fun v d => ∃ as, Reads (sortingHeap (s1.heap.push (seqObj "list" vs.toArray 0)) s1.heap.objs.size vs) v d as) (fun p : AK => sD p.2) er) hal hso (bound_map (A := X.A.in1.in1) (enc := fun p : AK => sD p.2) (bs := L1) fun p _ => by
      show X.A.units + 1 + 1 + (sD p.2).depth < cLine
      rw [depth_sD]
      omega)) vl ?_
  have outs : EachIs (fun v (p : AK) => v = Value.ref p.1) (sortVals (dataKind (sortingHeap (s1.heap.push (seqObj "list" vs.toArray 0)) s1.heap.objs.size vs) (L1.map fun p : AK => sD p.2)) false vs vs) (L1.mergeSort (dataLe false fun p : AK => sD p.2)) := sortVals_data false ke er hal
  generalize sortVals (dataKind (sortingHeap (s1.heap.push (seqObj "list" vs.toArray 0)) s1.heap.objs.size vs) (L1.map fun p : AK => sD p.2)) false vs vs = out at outs
  refine ⟨_, rfl, wpAny_pure ⟨_, rfl, ?_⟩⟩
  obtain ⟨c, hc2⟩ := sortedHeap_at (out := out.toArray) at1
  have keep : ∀ b o, s.heap.get? b = some o → (sortedHeap (s1.heap.push (seqObj "list" vs.toArray 0)) s1.heap.objs.size vs out.toArray).get? b = some o := fun b o e => by
    have e1 := k1 b o e
    have lt := Heap.lt_size e1
    rw [sortedHeap_old (Nat.ne_of_lt lt) (by rw [size_push']; exact Nat.lt_succ_of_lt lt)]
    exact Heap.get?_push_of_some _ e1
  have hn := I.hok.fresh z1
  have ro : Vals ((L1.mergeSort (dataLe false fun p : AK => sD p.2)).map fun p => V.ref p.1) out := each_out (fun p : AK => V.ref p.1) outs
  have small : ((L1.mergeSort (dataLe false fun p : AK => sD p.2)).map fun p => V.ref p.1).length ≤ sizeLine := by
    rw [List.length_map, List.length_mergeSort, p1.length_eq]
    exact Nat.le_of_lt (big (by omega))
  have e2 : (L1.mergeSort (dataLe false fun p : AK => sD p.2)).map (·.2) = srtT (L1.map (·.2)) := sort_maps (fun p : AK => p.2) (r := dataLe false fun p : AK => sD p.2) (s := dataLe false sD) fun _ _ _ _ => rfl
  refine ⟨.ref _, upd H s1.heap.objs.size (.lst ((L1.mergeSort (dataLe false fun p : AK => sD p.2)).map fun p => V.ref p.1)), I.call' (ch := []) o1 (Un.laid keep z1 hn) (I.hok.laid keep z1 ⟨small, out, c, ro, hc2⟩) (by rw [g1]; exact I.bare) (fun _ z => nomatch z), rfl, q _ _ (L1.map (·.2)) hn (p1.map _) ?_⟩
  rw [← e2]
  exact prd_maps _ _ _ fun p hp => ⟨p.1, rfl, sq p (p1.mem_iff.mp (List.mem_mergeSort.mp hp))⟩
theorem c_setTs (K : Frag) (P : Program) (w : World) (hc : X.calm = true) (hu : X.A.units + 64 < cLine) (eK : X.K = K := by rfl) (eP : X.prog = P := by rfl) (ew : X.w = w := by rfl) : CallR X (.type "set") (rSetTs K P w) := by
  subst eK eP ew
  exact cr_setTs hc hu
theorem c_srtTs (K : Frag) (P : Program) (w : World) (hc : X.calm = true) (hu : X.A.units + 64 < cLine) (eK : X.K = K := by rfl) (eP : X.prog = P := by rfl) (ew : X.w = w := by rfl) : CallR X (.builtin "sorted") (rSrtTs K P w) := by
  subst eK eP ew
  exact cr_srtTs hc hu
end
end Cb

/-! What a repr of nested data comes to: bounds, data by data. -/
namespace Cb
open PySem PySem.Spec PyProof.Rows L2 PySem.W
theorem textFrom_le : ∀ (ts : List Str) (k : Nat) (acc : Str), (textFrom k acc ts).length ≤ acc.length + piled ts
  | [], k, acc => by show acc.length ≤ acc.length + _; omega
  | t :: r, k, acc => by
    have h := textFrom_le r (k + 1) (acc ++ (if k > 0 then ", " else "" : String) ++ t)
    have e : (acc ++ (if k > 0 then ", " else "" : String) ++ t).length = acc.length + (if k > 0 then 2 else 0) + t.length := by
      rw [strLen_append, strLen_append]
      split <;> rfl
    have e2 : (if k > 0 then 2 else 0 : Nat) ≤ 2 := by split <;> omega
    rw [piled_cons]
    show (textFrom (k + 1) _ r).length ≤ _
    omega
theorem list_text (ts : List Str) : (listText ts).length ≤ piled ts + 2 := by
  unfold listText
  rw [strLen_append]
  have h := textFrom_le ts 0 "["
  have e1 : ((("[" : String) : Str)).length = 1 := rfl
  have e2 : ((("]" : String) : Str)).length = 1 := rfl
  omega
/-- data whose repr is told: its depth, its length -/
structure Nice (m L : Nat) (d : PD) : Prop where
  sh : d.showable = true
  nd : d.hasDict = false
  dp : d.depth ≤ m
  len : d.shown.length ≤ L
theorem Nice.mono {m L m' L' : Nat} {d : PD} (n : Nice m L d) (h : m ≤ m') (h2 : L ≤ L') : Nice m' L' d := ⟨n.sh, n.nd, Nat.le_trans n.dp h, Nat.le_trans n.len h2⟩
theorem nice_depth {m : Nat} : ∀ {ds : List PD}, (∀ d ∈ ds, d.depth ≤ m) → PyData.depthAll ds ≤ m
  | [], _ => by simp [PyData.depthAll]
  | d :: ds, h => by
    rw [PyData.depthAll]
    exact Nat.max_le.mpr ⟨h d List.mem_cons_self, nice_depth fun e he => h e (List.mem_cons_of_mem _ he)⟩
theorem nice_dict : ∀ {ds : List PD}, (∀ d ∈ ds, d.hasDict = false) → PyData.hasDictAll ds = false
  | [], _ => by simp [PyData.hasDictAll]
  | d :: ds, h => by
    rw [PyData.hasDictAll, h d List.mem_cons_self, nice_dict fun e he => h e (List.mem_cons_of_mem _ he)]
    rfl
theorem nice_piled {L : Nat} {ds : List PD} (h : ∀ d ∈ ds, d.shown.length ≤ L) : piled (ds.map PyData.shown) ≤ ds.length * (L + 2) := by
  have := piled_le L (ts := ds.map PyData.shown) fun t ht => by
    obtain ⟨d, hd, rfl⟩ := List.mem_map.mp ht
    exact h d hd
  rwa [List.length_map] at this
theorem nice_tup {m L : Nat} {ds : List PD} (h : ∀ d ∈ ds, Nice m L d) : Nice (m + 1) (ds.length * (L + 2) + 2) (.tuple ds) := by
  refine ⟨?_, ?_, ?_, ?_⟩
  · rw [PyData.showable]
    exact PySem.Spec.showableAll_of fun d hd => (h d hd).sh
  · rw [PyData.hasDict]
    exact nice_dict fun d hd => (h d hd).nd
  · rw [PyData.depth]
    have := nice_depth (ds := ds) fun d hd => (h d hd).dp
    omega
  · rw [PyData.shown, shown_all]
    have h1 := fmt_text (ds.map PyData.shown)
    have h2 := nice_piled (ds := ds) fun d hd => (h d hd).len
    omega
theorem nice_lst {m L : Nat} {ds : List PD} (h : ∀ d ∈ ds, Nice m L d) : Nice (m + 1) (ds.length * (L + 2) + 2) (.list ds) := by
  refine ⟨?_, ?_, ?_, ?_⟩
  · rw [PyData.showable]
    exact PySem.Spec.showableAll_of fun d hd => (h d hd).sh
  · rw [PyData.hasDict]
    exact nice_dict fun d hd => (h d hd).nd
  · rw [PyData.depth]
    have := nice_depth (ds := ds) fun d hd => (h d hd).dp
    omega
  · rw [PyData.shown, shown_all]
    have h1 := list_text (ds.map PyData.shown)
    have h2 := nice_piled (ds := ds) fun d hd => (h d hd).len
    omega
theorem nice_str {s : Str} (h : (reprText s).length ≤ 20) : Nice 0 20 (.str s) := ⟨by rw [PyData.showable], by rw [PyData.hasDict], by rw [PyData.depth]; exact Nat.le_refl _, by rw [PyData.shown]; exact h⟩
theorem nice_bool (b : Bool) : Nice 0 20 (.bool b) := ⟨by rw [PyData.showable], by rw [PyData.hasDict], by rw [PyData.depth]; exact Nat.le_refl _, by rw [PyData.shown]; cases b <;> decide +kernel⟩
theorem nice_none : Nice 0 20 .none := ⟨by rw [PyData.showable], by rw [PyData.hasDict], by rw [PyData.depth]; exact Nat.le_refl _, by rw [PyData.shown]; decide +kernel⟩
theorem nice_sD {ns : List Str} (h : ∀ n ∈ ns, okS n) : Nice 1 (ns.length * 22 + 2) (sD ns) := by
  have := nice_tup (m := 0) (L := 20) (ds := ns.map PyData.str) fun d hd => by
    obtain ⟨n, hn, rfl⟩ := List.mem_map.mp hd
    exact nice_str (h n hn).2
  rw [List.length_map] at this
  exact this
theorem nice_sD8 {ns : List Str} (h : ∀ n ∈ ns, okS n) (hl : ns.length ≤ 8) : Nice 1 200 (sD ns) := (nice_sD h).mono (Nat.le_refl _) (by omega)
theorem nice_tD {ts : List (List Str)} (h : ∀ t ∈ ts, t.length ≤ 8 ∧ ∀ n ∈ t, okS n) (hl : ts.length ≤ 64) : Nice 2 20000 (tD ts) := by
  have := nice_tup (m := 1) (L := 200) (ds := ts.map sD) fun d hd => by
    obtain ⟨t, ht, rfl⟩ := List.mem_map.mp hd
    exact nice_sD8 (h t ht).2 (h t ht).1
  rw [List.length_map] at this
  exact this.mono (Nat.le_refl _) (by omega)
theorem repr_nice {K : Frag} {H : Hp} {Q : VK} {a : Addr} {m L : Nat} {d : PD} (n : Nice m L d) (hd : Dp K H (.ref a) d) (q : Q (.str d.shown) H) (hm : m ≤ 50 := by omega) (hL : L ≤ 1000000 := by omega) : rRepr K [.ref a] H Q :=
  ⟨a, d, rfl, hd, n.sh, n.nd, Nat.le_trans n.dp hm, Nat.le_trans n.len (Nat.le_trans hL (by decide)), q⟩
theorem prd_empty {α β : Type} {F : α → β → Prop} {xs : List α} {ys : List β} (h : Paired F xs ys) : xs.isEmpty = ys.isEmpty := by
  cases h <;> rfl
theorem eqv_tup_nil (xs : List PD) : PyData.eqv (.tuple xs) (.tuple []) = xs.isEmpty := by
  cases xs <;> simp [PyData.eqv, PyData.eqvAll]
end Cb

/-! The program's own defs. -/
namespace K18
open PySem PySem.Spec PyProof.Rows L2 PySem.W Cb
def top (i : Nat) : Stmt := PySem.Challenge.pw_crewbook_k18_losses_told.main.body.getD i (.Pass ⟨0, 0, 0, 0⟩)
/-- the built-in names that nobody hides -/
structure Blt (mg : Str → Option Value) : Prop where
  len : mg "len" = none
  list : mg "list" = none
  tuple : mg "tuple" = none
  range : mg "range" = none
  sorted : mg "sorted" = none
  any : mg "any" = none
  all : mg "all" = none
  min : mg "min" = none
  max : mg "max" = none
  repr : mg "repr" = none
/-- a def of the text that stands where its name says, with its promise -/
structure Own (P : Program) (w : World) (K : Frag) (mg : Str → Option Value) (base : Heap) (k : Nat) (x : Str) (ps : List Str) (sp : Sp) where
  f : Addr
  fd : FuncData
  G : FnOk P w K mg base CX0 k f fd ps sp
  m : mg x = some (.ref f)
  kp : keepIn K (.ref f) = true
  b : Binds K fd ps []

end K18
namespace K18
open PySem PySem.Spec PyProof.Rows L2 PySem.W Cb
theorem flat_le {α β : Type} (m : Nat) (f : α → List β) : ∀ l : List α, (∀ x ∈ l, (f x).length ≤ m) → (l.flatMap f).length ≤ l.length * m
  | [], _ => by simp
  | x :: l, h => by
    have h1 := flat_le m f l fun y hy => h y (List.mem_cons_of_mem _ hy)
    have h2 := h x List.mem_cons_self
    rw [List.flatMap_cons, List.length_append, List.length_cons, Nat.succ_mul]
    omega
/-- lists of crews as the law makes them -/
structure Gt (ts : List (List Str)) : Prop where
  many : ts.length ≤ 64
  each : ∀ t ∈ ts, t ≠ [] ∧ t.length ≤ 8 ∧ ∀ n ∈ t, okS n

end K18
namespace K18
open PySem PySem.Spec PyProof.Rows L2 PySem.W Cb
section
variable {P : Program} {w : World} {K : Frag} {mg : Str → Option Value} {base : Heap}
/-! ### newcomers -/
abbrev s_newcomers : Stmt := top 11
abbrev N_newcomers : List Str := ["crew", "other", "person"]
theorem sc_newcomers : FnScope N_newcomers ["crew", "other"] (defScope s_newcomers) := ⟨rfl, rfl, rfl, by decide +kernel, rfl, by decide +kernel, by decide +kernel⟩
def nc (c o : List Str) : List Str := o.filter fun p => !isIn p c
def sp_newcomers (K : Frag) : Sp := fun vs H Q _ => ∃ (x y : V) (c o : List Str), vs = [x, y] ∧ S1 K H x c ∧ S1 K H y o ∧ o.length ≤ 1000 ∧ ∀ v H', Same H H' → S1 K H' v (nc c o) → Q v H'
theorem ok_newcomers {f : Addr} {fd : FuncData} {k : Nat} (F : Fun K "newcomers" "newcomers" s_newcomers f fd) (B : Blt mg) : FnOk P w K mg base CX0 (k + 1) f fd ["crew", "other"] (sp_newcomers K) := by
  refine F.ok sc_newcomers (fun vs H Q E h => ?_) (fun cdv A outer s H vs Q E hr h => ?_)
  · obtain ⟨_, _, _, _, rfl, _⟩ := h
    rfl
  · obtain ⟨x, y, c, o, rfl, hc, ⟨a, rfl, ho⟩, hl, q⟩ := h
    refine ⟨_, pss_one (ps_ret (pe_callTy (c_tuple K) (by rfl) B.tuple (by decide +kernel) (pa_cons (pe_lc (own := [("person", 2)]) (g := gName 2) rfl sc_newcomers.nd (p_tup K (pv 1)) (blkOk_by (own := [("person", 2)]) (N := N_newcomers) (sc := defScope s_newcomers) (by decide +kernel))
      (fun _ _ _ _ _ => pg_name (i := 2) sc_newcomers.nd rfl (Or.inl rfl)) (fun _ _ _ _ _ => pts_one (pt_cmpR (o_nin K) (pv 2) (pv 0) rfl)) (fun _ _ _ _ _ => pv 2)) pa_nil))), ?_⟩
    obtain ⟨ac, rfl, hc⟩ := hc
    unfold tRet tCB tCons
    refine lcT_filter (xs := o.map V.str) (fun v => match v with | .str p => !isIn p c | _ => false) id (fun R hR => ⟨_, rfl, hR a H (Same.refl H) ho⟩) (by rw [List.length_map]; omega) (fun _ => rfl) (fun v hv H1 e1 R hR => ?_) (fun v hv _ H1 e1 R hR => ⟨v, rfl, hR H1 (Same.refl H1)⟩) fun D H' hD e hH => ?_
    · obtain ⟨p, _, rfl⟩ := List.mem_map.mp hv
      exact ⟨_, rfl, _, rfl, ac, _, rfl, .inr (sameT e1 hc), rfl, flat_strs c, _, rfl, by rw [inV_strs]; exact hR⟩
    · have e2 : ((o.map V.str).filter (fun v => match v with | .str p => !isIn p c | _ => false)).map id = (nc c o).map V.str := by
        rw [List.map_id, List.filter_map]
        rfl
      rw [e2] at hH
      refine ⟨D, _, rfl, .inl ⟨sl_ hH, fun t nt => ?_⟩⟩
      exact q _ _ (e.trans (same_upd nt)) ⟨t, rfl, st_ upd_same⟩
end
end K18

namespace K18
open PySem PySem.Spec PyProof.Rows L2 PySem.W Cb
theorem ok_nc {c o : List Str} (h : ∀ n ∈ o, okS n) : ∀ n ∈ nc c o, okS n := fun n hn => h n (List.mem_filter.mp hn).1
end K18
namespace Cb
open PySem PySem.Spec PyProof.Rows L2 PySem.W
section
variable {X : Cx} {k : Nat} {f : Addr} {CX : CXT} {sp : Sp} {x : Str} {p pos : Pos} {e : Expr} {es : List Expr} {t : TA} {E : XK}
/-- f(e, ..), f told by what stands in its places -/
theorem pe_callP (F : FnR X.prog X.w X.K X.mg X.base CX k f sp) (hr : Room k X.A) (hg : Gl X x) (hm : X.mg x = some (.ref f)) (hk : keepIn X.K (.ref f) = true) (hx : Passes CX X E) (ha : PA X (e :: es) t)
    (hdb : (x == ("__debug__" : Str)) = false := by decide) (he : starEach (e :: es) X.env = (false, eval e X.env) :: starEach es X.env := by rfl) (hpl : (backTo pos (starEach es X.env)).any (·.1) = false := by rfl) :
    PE X (.Call (.Name x p) (e :: es) [] pos) (tCall sp [] E t) := by
  refine ⟨fun pins s σ H Q I h => wpAny_Call_Name_kw (ld_glob I hg hm ?_ hdb)⟩
  refine callWith_K (h₀ := X.base) I.ok.mod.kin hk (thn (ha.run pos pins s σ H _ I h) fun us s1 ⟨vs, H1, I1, r, q⟩ => ⟨I1.kIn, ?_⟩) he hpl
  have q1 : sp (vs ++ []) H1 Q E := q
  rw [List.append_nil] at q1
  exact wpAny_call (run_fnR F hr hx I1 r q1)
/-- a statement that is not reached -/
theorem ps_never {st : Stmt} : PS X st (fun _ _ _ => False) := ⟨fun _ _ _ _ _ _ h => h.elim⟩
end
section
variable {K : Frag} {tl : TE} {j : Nat} {vs : List Nat} {σ : Stt} {H : Hp} {tt : TT} {Q : VK} {β : Type} {F : Hp → V → β → Prop} {us : List V} {bs : List β} {a : Addr}
/-- [x for x in t if ..], t a tuple, the items told by what they stand for -/
theorem lcT_pair (mono : ∀ H1 H2 v b, Same H1 H2 → F H1 v b → F H2 v b) (p : β → Bool) (hl : ∀ R : VK, R (.ref a) H → tl σ H R) (hs : SqT K H a us) (hp : Paired (F H) us bs) (hn : bs.length ≤ 100000)
    (hj : ∀ x, wipe ((wipe σ vs).set j (some x)) vs = wipe σ vs) (hv : ∀ x, ((wipe σ vs).set j (some x))[j]? = some (some x))
    (ht : ∀ x b, b ∈ bs → ∀ H1, Same H H1 → F H1 x b → ∀ R : Bool → Hp → Prop, (∀ H2, Same H1 H2 → R (p b) H2) → tt ((wipe σ vs).set j (some x)) H1 R)
    (q : ∀ L ws H', H L = none → Same H H' → H' L = some (.lst ws) → Paired (F H') ws (bs.filter p) → Q (.ref L) H') : tLc (iTup K tl) (gName j) tt (tVar j) vs σ H Q := by
  refine hl _ ⟨a, rfl, ⟨us, hs⟩, fun L nL => ?_⟩
  have hlen := prd_len hp
  refine lc_tup (K := K) (a := a) (xs := us) (fun i H' => Same H H' ∧ ∃ ws, H' L = some (.lst ws) ∧ Paired (F H) ws ((bs.take i).filter p)) ⟨same_upd nL, [], upd_same, .nil⟩ (fun i H' _ z => sameT z.1 hs) (fun i x H' hi z => ⟨hj x, ?_⟩) fun H' z => ?_
  · obtain ⟨e2, ws, hw, hpw⟩ := z
    obtain ⟨b, hb, hf⟩ := prd_getL hp hi
    have hwl := prd_len hpw
    have hfl := List.length_filter_le p (bs.take i)
    have hbl := (List.getElem?_eq_some_iff.mp hb).1
    rw [List.length_take] at hfl
    refine ht x b (List.mem_of_getElem? hb) H' e2 (mono _ _ _ _ e2 hf) _ fun H2 e3 => ?_
    rw [take_snoc hb, List.filter_append]
    by_cases h : p b = true
    · rw [if_pos h]
      refine ⟨x, hv x, ws, e3 _ _ hw, big (by omega), same_mut (e2.trans e3) nL, ws ++ [x], upd_same, ?_⟩
      rw [List.filter_cons_of_pos h]
      exact prd_app hpw (.cons hf .nil)
    · rw [if_neg h]
      refine ⟨e2.trans e3, ws, e3 _ _ hw, ?_⟩
      rw [List.filter_cons_of_neg h]
      simpa using hpw
  · obtain ⟨e2, ws, hw, hpw⟩ := z
    rw [hlen, List.take_length] at hpw
    exact q L ws H' nL e2 hw (prd_mono (fun _ _ z => mono _ _ _ _ e2 z) hpw)
end
end Cb
namespace K18
open PySem PySem.Spec PyProof.Rows L2 PySem.W Cb Evl
section
variable {P : Program} {w : World} {K : Frag} {mg : Str → Option Value} {base : Heap}
/-! ### contains -/
abbrev s_contains : Stmt := top 5
abbrev N_contains : List Str := ["larger", "smaller", "person"]
theorem sc_contains : FnScope N_contains ["larger", "smaller"] (defScope s_contains) := ⟨rfl, rfl, rfl, by decide +kernel, rfl, by decide +kernel, by decide +kernel⟩
def has (c o : List Str) : Bool := o.all fun p => isIn p c
def sp_contains (K : Frag) : Sp := fun vs H Q _ => ∃ (x y : V) (c o : List Str), vs = [x, y] ∧ S1 K H x c ∧ S1 K H y o ∧ o.length ≤ 1000 ∧ ∀ H', Same H H' → Q (.bl (has c o)) H'
theorem ok_contains {f : Addr} {fd : FuncData} {k : Nat} (F : Fun K "contains" "contains" s_contains f fd) (B : Blt mg) : FnOk P w K mg base CX0 (k + 1) f fd ["larger", "smaller"] (sp_contains K) := by
  refine F.ok sc_contains (fun vs H Q E h => ?_) (fun cdv A outer s H vs Q E hr h => ?_)
  · obtain ⟨_, _, _, _, rfl, _⟩ := h
    rfl
  · obtain ⟨x, y, c, o, rfl, ⟨b, rfl, hc⟩, ⟨a, rfl, ho⟩, hl, q⟩ := h
    refine ⟨_, (pss_one (ps_ret (pe_callB (c_all K) (by rfl) B.all (by decide +kernel) (pa_cons (pe_lc (own := [("person", 2)]) (g := gName 2) (tt := tYes) rfl sc_contains.nd (p_tup K (pv 1)) (blkOk_by (own := [("person", 2)]) (N := N_contains) (sc := defScope s_contains) (by decide +kernel)) (fun _ _ _ _ _ => (pg_name (i := 2) sc_contains.nd rfl (Or.inl rfl))) (fun _ _ _ _ _ => pts_nil) (fun _ _ _ _ _ => (pe_cmpR (o_in K) (pv 2) (pv 0) rfl))) pa_nil)))), ?_⟩
    unfold tRet tCB tCons tNil
    refine lcT_filter (xs := o.map V.str) (fun _ => true) (fun v => match v with | .str m => .bl (isIn m c) | _ => .non) (fun R hR => ⟨_, rfl, hR a H (Same.refl H) ho⟩) (by rw [List.length_map]; omega) (fun _ => rfl) (fun v hv H1 e1 R hR => hR) (fun v hv _ H1 e1 R hR => ?_) fun D H' hD e hH => ?_
    · obtain ⟨m, hm, rfl⟩ := List.mem_map.mp hv
      refine ⟨_, rfl, _, rfl, b, _, rfl, .inr (sameT e1 hc), rfl, flat_strs c, ?_⟩
      rw [inV_strs]
      exact hR _ (Same.refl _)
    · have e2 : ((o.map V.str).filter (fun _ => true)).map (fun v => match v with | .str m => V.bl (isIn m c) | _ => .non) = (o.map fun m => isIn m c).map V.bl := by
        rw [List.filter_eq_self.mpr (fun _ _ => rfl), List.map_map, List.map_map]
        rfl
      rw [e2] at hH
      refine ⟨D, _, rfl, sl_ hH, ?_⟩
      have e3 : (o.map fun m => isIn m c).all id = has c o := by
        rw [List.all_map]
        rfl
      rw [e3]
      exact q H' e
/-! ### the people of the crews -/
abbrev s_people : Stmt := top 7
abbrev N_people : List Str := ["crews", "crew", "person"]
theorem sc_people : FnScope N_people ["crews"] (defScope s_people) := ⟨rfl, rfl, rfl, by decide +kernel, rfl, by decide +kernel, by decide +kernel⟩
def folk (ts : List (List Str)) : List Str := once ts.flatten
def sp_people (K : Frag) : Sp := fun vs H Q _ => ∃ (x : V) (ts : List (List Str)), vs = [x] ∧ S2 K H x ts ∧ Gt ts ∧ ∀ v H', Same H H' → S1 K H' v (folk ts) → Q v H'
theorem ok_people {f : Addr} {fd : FuncData} {k : Nat} (F : Fun K "people_of" "people_of" s_people f fd) (B : Blt mg) : FnOk P w K mg base CX0 (k + 1) f fd ["crews"] (sp_people K) := by
  refine F.ok sc_people (fun vs H Q E h => ?_) (fun cdv A outer s H vs Q E hr h => ?_)
  · obtain ⟨_, _, rfl, _⟩ := h
    rfl
  · obtain ⟨x, ts, rfl, ht, gt, q⟩ := h
    refine ⟨_, (pss_one (ps_ret (pe_callTy (c_tuple K) (by rfl) B.tuple (by decide +kernel) (pa_cons (pe_callB (cr_srtS rfl hr.units) (by rfl) B.sorted (by decide +kernel) (pa_cons
      (scN_ok (own := [("crew", 1), ("person", 2)]) (g := gName 1) (tt := tYes) (vI := [2]) rfl sc_people.nd (p_tup K (pv 0)) (blkOk_by (own := [("crew", 1), ("person", 2)]) (N := N_people) (sc := defScope s_people) (by decide +kernel)) (by intro _; rfl)
        (fun it D env => turnS2_0 _ _ _ _ _ _ _ _ _ _ _ _) (fun _ _ _ _ _ => pg_name (i := 1) sc_people.nd rfl (Or.inl rfl)) (fun _ _ _ _ _ => pts_nil)
        (fun _ _ _ _ _ D => bdC_clause (vs := [2]) (g := gName 2) (tt := tYes) rfl rfl (fun it => turnS2_1 _ _ _ _ _ _ _ _ _ _ _ _) rfl (by intro _; rfl) (p_tup K (pv 1)) (pg_name (i := 2) sc_people.nd rfl (Or.inl rfl)) pts_nil
          (bd_lastS P w rfl (pv 2)) (by simp)) (by simp)) pa_nil)) pa_nil)))), ?_⟩
    unfold tRet tCB tCons tNil
    refine set_flat ht (fun t h => (gt.each t h).2.1) gt.many fun D l H1 nD e1 hD nd hm => ?_
    refine ⟨D, l, rfl, hD, fun p ks np pk => ?_⟩
    refine ⟨p, _, rfl, .inl ⟨sl_ upd_same, fun t nt => ?_⟩⟩
    have e2 : srt ks = folk ts := once_eq (pk.nodup_iff.mpr nd) fun x => by rw [pk.mem_iff, hm]
    rw [e2] at nt ⊢
    exact q _ _ ((e1.trans (same_upd np)).trans (same_upd nt)) ⟨t, rfl, st_ upd_same⟩
/-! ### the crews within a set -/
abbrev s_cwithin : Stmt := top 8
abbrev N_cwithin : List Str := ["crews", "people", "crew"]
theorem sc_cwithin : FnScope N_cwithin ["crews", "people"] (defScope s_cwithin) := ⟨rfl, rfl, rfl, by decide +kernel, rfl, by decide +kernel, by decide +kernel⟩
def left (ts : List (List Str)) (ps : List Str) : List (List Str) := ts.filter fun t => has ps t
def sp_cwithin (K : Frag) : Sp := fun vs H Q _ => ∃ (x y : V) (ts : List (List Str)) (ps : List Str), vs = [x, y] ∧ S2 K H x ts ∧ S1 K H y ps ∧ Gt ts ∧ ∀ v H', Same H H' → S2 K H' v (left ts ps) → Q v H'
theorem ok_cwithin {f : Addr} {fd : FuncData} {k : Nat} (F : Fun K "crews_within" "crews_within" s_cwithin f fd) (B : Blt mg) (D_contains : Own P w K mg base 1 "contains" ["larger", "smaller"] (sp_contains K)) : FnOk P w K mg base CX0 (k + 2) f fd ["crews", "people"] (sp_cwithin K) := by
  refine F.ok sc_cwithin (fun vs H Q E h => ?_) (fun cdv A outer s H vs Q E hr h => ?_)
  · obtain ⟨_, _, _, _, rfl, _⟩ := h
    rfl
  · obtain ⟨x, y, ts, ps, rfl, ⟨a, us, rfl, ha, hp⟩, hy, gt, q⟩ := h
    have hr1 : Room 1 _ := hr.mono (by omega)
    refine ⟨_, (pss_one (ps_ret (pe_callTy (c_tuple K) (by rfl) B.tuple (by decide +kernel) (pa_cons (pe_lc (own := [("crew", 2)]) (g := gName 2) rfl sc_cwithin.nd (p_tup K (pv 0)) (blkOk_by (own := [("crew", 2)]) (N := N_cwithin) (sc := defScope s_cwithin) (by decide +kernel)) (fun _ _ _ _ _ => (pg_name (i := 2) sc_cwithin.nd rfl (Or.inl rfl))) (fun _ _ _ _ _ => (pts_one (pt_val (pe_call D_contains.G hr1 rfl D_contains.m D_contains.kp D_contains.b .nil pass0 (pa_cons (pv 1) (pa_cons (pv 2) pa_nil)))))) (fun _ _ _ _ _ => (pv 2))) pa_nil)))), ?_⟩
    unfold tRet tCB tCons tNil
    refine lcT_pair (F := S1 K) (fun _ _ _ _ e z => z.same e) (fun t => has ps t) (fun R hR => ⟨_, rfl, hR⟩) ha hp (by have := gt.many; omega) (fun _ => rfl) (fun _ => rfl) (fun v t ht H1 e1 hv R hR => ?_) fun L ws H1 nL e1 hL hw => ?_
    · exact ⟨_, rfl, _, rfl, y, v, ps, t, rfl, hy.same e1, hv, by have := (gt.each t ht).2.1; omega, fun H2 e2 => ⟨_, rfl, hR H2 e2⟩⟩
    · exact ⟨L, _, rfl, .inl ⟨sl_ hL, fun t nt => q _ _ (e1.trans (same_upd nt)) ⟨t, ws, rfl, st_ upd_same, prd_mono (fun _ _ z => z.same (same_upd nt)) hw⟩⟩⟩
end
end K18

namespace Cb
open PySem PySem.Spec PyProof.Rows L2 PySem.W
/-- an expression whose two ways meet: M is known behind it -/
def tMid (t : TE) : TE := fun σ H Q => ∃ M : VK, t σ H M ∧ ∀ v H', M v H' → Q v H'
theorem pe_mid {X : Cx} {e : Expr} {t : TE} (h : PE X e t) : PE X e (tMid t) := ⟨fun pins s σ H Q I ⟨M, h1, h2⟩ => thn (h.run pins s σ H M I h1) fun _ _ ⟨v, H', J, r, m⟩ => ⟨v, H', J, r, h2 v H' m⟩⟩
/-! ### the list at r may change, all else stands -/
def Cl (r : Addr) (H H' : Hp) : Prop := ∀ b o, H b = some o → H' b = some o ∨ (b = r ∧ (∃ k, o = .lst k) ∧ ∃ k, H' b = some (.lst k))
section
variable {K : Frag} {r : Addr} {H H' H0 : Hp}
theorem Cl.refl : Cl r H H := fun _ _ h => .inl h
theorem Cl.of (e : Same H H') : Cl r H H' := fun b o h => .inl (e b o h)
theorem Cl.trans (h1 : Cl r H0 H) (h2 : Cl r H H') : Cl r H0 H' := fun b o h => by
  rcases h1 b o h with e | ⟨rfl, k, k', e⟩
  · exact h2 b o e
  · rcases h2 _ _ e with e2 | ⟨_, _, k2, e2⟩
    · exact .inr ⟨rfl, k, k', e2⟩
    · exact .inr ⟨rfl, k, k2, e2⟩
theorem Cl.at (h : Cl r H H') {b : Addr} {o : HO} (e : H b = some o) (n : ∀ k, o ≠ .lst k) : H' b = some o := by
  rcases h b o e with z | ⟨_, ⟨k, z⟩, _⟩
  · exact z
  · exact absurd z (n k)
theorem Cl.lst (h : Cl r H H') {b : Addr} {o : HO} (n : b ≠ r) (e : H b = some o) : H' b = some o := by
  rcases h b o e with z | ⟨z, _⟩
  · exact z
  · exact absurd z n
theorem Cl.sqT (h : Cl r H H') {a : Addr} {xs : List V} (e : SqT K H a xs) : SqT K H' a xs := by
  rcases e with (e | ⟨o, e⟩) | e
  · exact .inl (.inl (h.at e fun _ z => by cases z))
  · exact .inl (.inr ⟨o, h.at e fun _ z => by cases z⟩)
  · exact .inr e
theorem Cl.s1 (h : Cl r H H') {v : V} {ns : List Str} (e : S1 K H v ns) : S1 K H' v ns := by
  obtain ⟨a, rfl, e⟩ := e
  exact ⟨a, rfl, h.sqT e⟩
theorem Cl.s1s (h : Cl r H H') {xs : List V} {ts : List (List Str)} (e : Paired (S1 K H) xs ts) : Paired (S1 K H') xs ts := prd_mono (fun _ _ z => h.s1 z) e
theorem Cl.s2 (h : Cl r H H') {v : V} {ts : List (List Str)} (e : S2 K H v ts) : S2 K H' v ts := by
  obtain ⟨a, xs, rfl, e, t⟩ := e
  exact ⟨a, xs, rfl, h.sqT e, h.s1s t⟩
theorem Cl.free (h : Cl r H H') {l : Addr} (e : H' l = none) : H l = none := by
  cases q : H l with
  | none => rfl
  | some o =>
    rcases h l o q with z | ⟨_, _, k, z⟩
    · rw [e] at z; cases z
    · rw [e] at z; cases z
theorem Cl.upd (h : Cl r H0 H) {l : Addr} {o : HO} (n : H0 l = none) : Cl r H0 (L2.upd H l o) := fun b x e => by
  have nb := ne_of_none e n
  rw [upd_ne nb]
  exact h b x e
theorem Cl.new {l : Addr} {o : HO} (n : H l = none) : Cl r H (L2.upd H l o) := Cl.refl.upd n
theorem Cl.put {k k' : List V} (e : H r = some (.lst k)) : Cl r H (L2.upd H r (.lst k')) := fun b o h => by
  by_cases hb : b = r
  · subst hb
    rw [e] at h
    cases h
    exact .inr ⟨rfl, ⟨_, rfl⟩, k', upd_same⟩
  · exact .inl (by rw [upd_ne hb]; exact h)
end
end Cb
namespace K18
open PySem PySem.Spec PyProof.Rows L2 PySem.W Cb Evl
/-! ### the draws -/
/-- the list of the draws at r, its cells at c: at most d of them were made -/
def Fd (H : Hp) (r c : Addr) (d : Int) : Prop := ∃ (ns : List Int) (nx rest dr : Int), H r = some (.lst [.ref c, .int nx, .int rest, .int dr]) ∧ H c = some (.lst (ns.map V.int)) ∧ c ≠ r ∧ 0 ≤ nx ∧ 0 ≤ dr ∧ dr ≤ d
theorem Fd.same {H H' : Hp} {r c : Addr} {d : Int} (e : Same H H') (h : Fd H r c d) : Fd H' r c d := by
  obtain ⟨ns, nx, rest, dr, h1, h2, h3⟩ := h
  exact ⟨ns, nx, rest, dr, e _ _ h1, e _ _ h2, h3⟩
theorem Fd.le {H : Hp} {r c : Addr} {d e : Int} (h : Fd H r c d) (l : d ≤ e) : Fd H r c e := by
  obtain ⟨ns, nx, rest, dr, h1, h2, h3, h4, h5, h6⟩ := h
  exact ⟨ns, nx, rest, dr, h1, h2, h3, h4, h5, Int.le_trans h6 l⟩
theorem Fd.mut {H H0 : Hp} {r c l : Addr} {d d0 : Int} {o : HO} (h : Fd H r c d) (n : H0 l = none) (h0 : Fd H0 r c d0) : Fd (upd H l o) r c d := by
  obtain ⟨ns, nx, rest, dr, h1, h2, h3⟩ := h
  obtain ⟨_, _, _, _, g1, g2, _⟩ := h0
  exact ⟨ns, nx, rest, dr, by rw [upd_ne (ne_of_none g1 n)]; exact h1, by rw [upd_ne (ne_of_none g2 n)]; exact h2, h3⟩
theorem Fd.ne {H : Hp} {r c l : Addr} {d : Int} (h : Fd H r c d) (n : H l = none) : l ≠ r := by
  obtain ⟨_, _, _, _, g1, _⟩ := h
  exact (ne_of_none g1 n).symm
theorem dpInts {K : Frag} {H : Hp} : ∀ ns : List Int, DpAll K H (ns.map V.int) (ns.map PyData.int)
  | [] => .nil
  | n :: ns => .cons (.int n) (dpInts ns)
theorem lay_ints : ∀ ns : List Int, PyData.canLayAll0 (ns.map .int) = true
  | [] => by simp [PyData.canLayAll0]
  | n :: ns => by
    show PyData.canLayAll0 (.int n :: ns.map .int) = true
    rw [PyData.canLayAll0, lay_ints ns, PyData.canLay0]
    rfl
theorem shaped_ints (ns : List Int) : SeqAt.shaped (.list (ns.map .int)) = true := by
  unfold SeqAt.shaped
  rw [PyData.canLay0, lay_ints, PyData.depth, PySem.W.depth_ints]
  rfl
theorem shaped_nil : SeqAt.shaped (.list []) = true := by
  unfold SeqAt.shaped
  simp [PyData.canLay0, PyData.canLayAll0, PyData.depth, PyData.depthAll]
section
variable {P : Program} {w : World} {K : Frag} {mg : Str → Option Value} {base : Heap}
abbrev s_feed : Stmt := top 17
theorem sc_feed : FnScope ["_law_script"] ["_law_script"] (defScope s_feed) := ⟨rfl, rfl, rfl, by decide +kernel, rfl, by decide +kernel, by decide +kernel⟩
def sp_feed (K : Frag) : Sp := fun vs H Q _ => ∃ (a : Addr) (ns : List Int), vs = [.ref a] ∧ SqL K H a (ns.map V.int) ∧ ∀ r c H', Same H H' → H r = none → Fd H' r c 0 → Q (.ref r) H'
theorem ok_feed {f : Addr} {fd : FuncData} {k : Nat} (F : Fun K "_law_feed" "_law_feed" s_feed f fd) (B : Blt mg) : FnOk P w K mg base CX0 (k + 1) f fd ["_law_script"] (sp_feed K) := by
  refine F.ok sc_feed (fun vs H Q E h => ?_) (fun cdv A outer s H vs Q E hr h => ?_)
  · obtain ⟨_, _, rfl, _⟩ := h
    rfl
  · obtain ⟨a, ns, rfl, hS, q⟩ := h
    refine ⟨_, (pss_one (ps_ret (pe_lst (pa_cons (pe_callTy (c_list K) (by rfl) B.list (by decide +kernel) (pa_cons (pe_slice (s_list K) (pv 0) po_none (po_some pe_int)) pa_nil)) (pa_cons pe_int (pa_cons pe_int (pa_cons pe_int pa_nil))))))), ?_⟩
    refine ⟨_, rfl, _, rfl, a, ns.map V.int, rfl, hS, fun b nb => ⟨b, _, rfl, .inl (sl_ upd_same), fun c nc => ⟨(by decide : 4 ≤ sizeLine), fun r nr => ?_⟩⟩⟩
    obtain ⟨ms, hm⟩ : ∃ ms : List Int, cutV (ns.map V.int) none (some 63) = ms.map V.int := ⟨(ns.drop _).take _, by unfold cutV; rw [List.map_take, List.map_drop]⟩
    rw [hm] at nc nr ⊢
    have e1 := same_upd (o := .lst (ms.map V.int)) nb
    have e2 := same_upd (o := .lst (ms.map V.int)) nc
    have e3 := same_upd (o := .lst [.ref c, .int 0, .int 0, .int 0]) nr
    have ncr : c ≠ r := fun z => by
      rw [← z, upd_same] at nr
      cases nr
    exact q r c _ ((e1.trans e2).trans e3) ((e1.trans e2).free nr) ⟨ms, 0, 0, 0, upd_same, e3 _ _ upd_same, ncr, Int.le_refl _, Int.le_refl _, Int.le_refl _⟩
abbrev s_draw : Stmt := top 18
abbrev N_draw : List Str := ["_law_feed_here", "_law_limit", "_law_digit_now", "_law_cell", "_law_mixed"]
theorem sc_draw : FnScope N_draw ["_law_feed_here", "_law_limit"] (defScope s_draw) := ⟨rfl, rfl, rfl, by decide +kernel, rfl, by decide +kernel, by decide +kernel⟩
def sp_draw : Sp := fun vs H Q _ => ∃ (r c : Addr) (n d : Int), vs = [.ref r, .int n] ∧ 0 < n ∧ n < 2 ^ 60 ∧ d ≤ 1000000 ∧ Fd H r c d ∧ ∀ z H', Cl r H H' → Fd H' r c (d + 1) → 0 ≤ z → z < n → Q (.int z) H'
theorem ok_draw {f : Addr} {fd : FuncData} {k : Nat} (F : Fun K "_law_draw" "_law_draw" s_draw f fd) (B : Blt mg) : FnOk P w K mg base CX0 (k + 1) f fd ["_law_feed_here", "_law_limit"] sp_draw := by
  refine F.ok sc_draw (fun vs H Q E h => ?_) (fun cdv A outer s H vs Q E hr h => ?_)
  · obtain ⟨_, _, _, _, rfl, _⟩ := h
    rfl
  · obtain ⟨r, c, n, d, rfl, hn, hn2, hd, ⟨ns, nx, rest, dr, h0, hc, ncr, hnx, hdr, hdd⟩, q⟩ := h
    have wd : CDivW 0 n := ⟨hn, by
      have := wide_div (i := 0) (j := n) (b := 60) hn (by omega) (by decide) (by decide)
      exact this.2⟩
    refine ⟨_, (pss_cons (ps_asg (pe_op op_add (pe_ix (i_list K) (pv 0) pe_int (fun _ _ => rfl)) pe_int) (pg_sub (pv 0) pe_int set_list))
      (pss_cons (ps_if (pt_cmpR op_gt (pe_ix (i_list K) (pv 0) pe_int (fun _ _ => rfl)) pe_int (nomark _)) (pss_cons (ps_set (i := 2) sc_draw.nd rfl (Or.inl rfl) (pe_op op_mod (pe_ix (i_list K) (pv 0) pe_int (fun _ _ => rfl)) (pv 1)))
      (pss_cons (ps_asg (pe_op op_fdivW (pe_ix (i_list K) (pv 0) pe_int (fun _ _ => rfl)) (pv 1)) (pg_sub (pv 0) pe_int set_list))
      (pss_one (ps_ret (pv 2))))) pss_nil)
      (pss_cons (ps_set (i := 3) sc_draw.nd rfl (Or.inl rfl) (pe_mid (pe_ifExp (pt_cmpR (o_neD K hr.units) (pe_ix (i_list K) (pv 0) pe_int (fun _ _ => rfl)) (pe_lst pa_nil) (nomark _)) (pe_ix (i_list K) (pe_ix (i_list K) (pv 0) pe_int (fun _ _ => rfl)) (pe_op op_mod (pe_ix (i_list K) (pv 0) pe_int (fun _ _ => rfl)) (pe_callB (c_len K) (by rfl) B.len (by decide +kernel) (pa_cons (pe_ix (i_list K) (pv 0) pe_int (fun _ _ => rfl)) pa_nil))) (fun _ _ => rfl)) pe_int)))
      (pss_cons (ps_asg (pe_op op_add (pe_ix (i_list K) (pv 0) pe_int (fun _ _ => rfl)) pe_int) (pg_sub (pv 0) pe_int set_list))
      (pss_cut (ps_if (PW.pt (pw_and (pt_cmpR op_ge (pv 3) (pe_op op_pow pe_int pe_int) (nomark _)) (pw_and1 (pt_cmpR op_le (pe_ix (i_list K) (pv 0) pe_int (fun _ _ => rfl)) (pe_callB (c_len K) (by rfl) B.len (by decide +kernel) (pa_cons (pe_ix (i_list K) (pv 0) pe_int (fun _ _ => rfl)) pa_nil)) (nomark _))))) (pss_cons (ps_asg (pe_op op_fdivW (pv 3) (pv 1)) (pg_sub (pv 0) pe_int set_list))
      (pss_one (ps_ret (pe_op op_mod (pv 3) (pv 1))))) pss_nil)
      (pss_cons (ps_set (i := 4) sc_draw.nd rfl (Or.inl rfl) (pe_op op_mod (pe_op op_pow (pe_op op_add (pe_op op_add (pe_op op_mod (pv 3) pe_int) (pe_op op_mul (pe_op op_mul pe_int (pe_ix (i_list K) (pv 0) pe_int (fun _ _ => rfl))) (pe_op op_add (pe_ix (i_list K) (pv 0) pe_int (fun _ _ => rfl)) pe_int))) pe_int) pe_int) pe_int))
      (pss_one (ps_ret (pe_op op_mod (pe_op op_fdivW (pe_op op_mod (pe_op op_pow (pe_op op_add (pe_op op_mul (pv 4) (pe_op op_add (pe_op op_mul pe_int (pe_ix (i_list K) (pv 0) pe_int (fun _ _ => rfl))) pe_int)) (pe_op op_mul pe_int (pe_ix (i_list K) (pv 0) pe_int (fun _ _ => rfl)))) pe_int) pe_int) pe_int) (pv 1)))))))))), ?_⟩
    refine ⟨_, rfl, r, _, 3, _, rfl, rfl, sl_ h0, atI_nat (j := 3) rfl, _, _, rfl, rfl, _, rfl, r, _, 3, 3, rfl, rfl, h0, rfl, ?_⟩
    have put : ∀ {H1 : Hp} {xs ys : List V}, H1 r = some (.lst xs) → Cl r H1 (upd H1 r (.lst ys)) ∧ (upd H1 r (.lst ys)) r = some (.lst ys) := fun {H1 xs ys} e => ⟨Cl.put e, upd_same⟩
    have p1 := put (ys := [.ref c, .int nx, .int rest, .int (dr + 1)]) h0
    change (fun H1 => _) (upd H r (.lst [.ref c, .int nx, .int rest, .int (dr + 1)]))
    obtain ⟨c1, h1⟩ := p1
    have hc1 := c1.lst ncr hc
    generalize upd H r (.lst [.ref c, .int nx, .int rest, .int (dr + 1)]) = H1 at c1 h1 hc1 ⊢
    refine ⟨_, rfl, r, _, 2, _, rfl, rfl, sl_ h1, atI_nat (j := 2) rfl, _, _, rfl, rfl, _, rfl, ite2 (fun _ => ?_) (fun _ => ?_)⟩
    · refine ⟨_, rfl, r, _, 2, _, rfl, rfl, sl_ h1, atI_nat (j := 2) rfl, _, rfl, _, _, rfl, rfl, hn, ?_⟩
      refine ⟨_, rfl, r, _, 2, _, rfl, rfl, sl_ h1, atI_nat (j := 2) rfl, _, rfl, _, _, rfl, rfl, wd, _, rfl, r, _, 2, 2, rfl, rfl, h1, rfl, _, rfl, ?_⟩
      exact q _ _ (c1.trans (Cl.put h1)) ⟨ns, nx, _, dr + 1, upd_same, (Cl.put h1).lst ncr hc1, ncr, hnx, by omega, by omega⟩ (Int.emod_nonneg _ (by omega)) (Int.emod_lt_of_pos _ hn)
    · refine ⟨fun v H' => ∃ cell : Int, v = .int cell ∧ Same H1 H', ?_, ?_⟩
      · refine ⟨_, rfl, r, _, 0, _, rfl, rfl, sl_ h1, atI_nat (j := 0) rfl, Nat.zero_le _, fun l nl => ⟨.list (ns.map .int), .list [], .lst (sl_ (same_upd nl _ _ hc1)) (dpInts ns), .lst (sl_ upd_same) .nil, shaped_ints ns, shaped_nil, _, rfl, ?_⟩⟩
        have e3 : Same H1 (upd H1 l (.lst [])) := same_upd nl
        rw [eqv_list_nil]
        refine ite2 (fun hne => ?_) (fun _ => ⟨31, rfl, e3⟩)
        have hlen : 0 < ns.length := by
          cases ns with
          | nil => exact absurd hne (by decide)
          | cons _ _ => exact Nat.succ_pos _
        have hm0 : 0 ≤ nx % (ns.length : Int) := Int.emod_nonneg _ (by omega)
        have hm1 : nx % (ns.length : Int) < (ns.length : Int) := Int.emod_lt_of_pos _ (by omega)
        obtain ⟨j, hj⟩ : ∃ j : Nat, nx % (ns.length : Int) = (j : Int) := ⟨(nx % (ns.length : Int)).toNat, by omega⟩
        have hjl : j < ns.length := by omega
        have h3 := e3 _ _ h1
        have hc3 := e3 _ _ hc1
        refine ⟨_, rfl, r, _, 0, _, rfl, rfl, sl_ h3, atI_nat (j := 0) rfl, _, rfl, r, _, 1, _, rfl, rfl, sl_ h3, atI_nat (j := 1) rfl, _, rfl, r, _, 0, _, rfl, rfl, sl_ h3, atI_nat (j := 0) rfl, c, _, rfl, .inl (sl_ hc3), _, _, rfl, rfl, by rw [List.length_map]; omega,
          c, ns.map V.int, _, .int ns[j], rfl, rfl, sl_ hc3, ?_, ns[j], rfl, e3⟩
        rw [List.length_map, hj]
        exact atI_nat (by rw [List.getElem?_map, List.getElem?_eq_getElem hjl]; rfl)
      · rintro v H2 ⟨cell, rfl, e3⟩
        have h2 := e3 _ _ h1
        have hc2 := e3 _ _ hc1
        refine ⟨_, rfl, r, _, 1, _, rfl, rfl, sl_ h2, atI_nat (j := 1) rfl, _, _, rfl, rfl, _, rfl, r, _, 1, 1, rfl, rfl, h2, rfl, ?_⟩
        change (fun H1 => _) (upd H2 r (.lst [.ref c, .int (nx + 1), .int rest, .int (dr + 1)]))
        obtain ⟨c3, h3⟩ := put (ys := [.ref c, .int (nx + 1), .int rest, .int (dr + 1)]) h2
        have hc3 := c3.lst ncr hc2
        have c4 := (c1.trans (Cl.of e3)).trans c3
        generalize upd H2 r (.lst [.ref c, .int (nx + 1), .int rest, .int (dr + 1)]) = H3 at c3 h3 hc3 c4 ⊢
        refine ⟨fun σ' H' => σ' = [some (.ref r), some (.int n), none, some (.int cell), none] ∧ H' = H3, ?_, ?_⟩
        · refine ⟨_, rfl, _, _, rfl, rfl, ⟨by decide, by decide, by decide⟩, _, _, rfl, rfl, _, rfl, ite2 (fun _ => ?_) (fun _ => iteF ⟨rfl, rfl⟩)⟩
          refine ⟨_, rfl, r, _, 1, _, rfl, rfl, sl_ h3, atI_nat (j := 1) rfl, _, rfl, r, _, 0, _, rfl, rfl, sl_ h3, atI_nat (j := 0) rfl, c, _, rfl, .inl (sl_ hc3), _, _, rfl, rfl, _, rfl, ite2 (fun _ => ?_) (fun _ => ⟨rfl, rfl⟩)⟩
          refine ⟨_, rfl, _, rfl, _, _, rfl, rfl, wd, _, rfl, r, _, 2, 2, rfl, rfl, h3, rfl, _, rfl, _, rfl, _, _, rfl, rfl, hn, ?_⟩
          exact q _ _ (c4.trans (Cl.put h3)) ⟨ns, nx + 1, _, dr + 1, upd_same, (Cl.put h3).lst ncr hc3, ncr, by omega, by omega, by omega⟩ (Int.emod_nonneg _ (by omega)) (Int.emod_lt_of_pos _ hn)
        · rintro σ' H' ⟨rfl, rfl⟩
          have g0 : 0 ≤ 137 * (dr + 1) * (dr + 1 + 3) := Int.mul_nonneg (by omega) (by omega)
          have g1 : 137 * (dr + 1) * (dr + 1 + 3) ≤ 137000137 * 1000004 := Int.mul_le_mul (by omega) (by omega) (by omega) (by omega)
          have a1 := Int.emod_nonneg cell (b := 1000005209) (by decide)
          have a2 := Int.emod_lt_of_pos cell (b := 1000005209) (by decide)
          refine ⟨_, rfl, _, _, rfl, rfl, (by decide : (0 : Int) < 1000005209), _, rfl, r, _, 3, _, rfl, rfl, sl_ h3, atI_nat (j := 3) rfl, _, _, rfl, rfl, .inl ⟨by decide, by decide⟩, _, rfl, r, _, 3, _, rfl, rfl, sl_ h3, atI_nat (j := 3) rfl, _, _, rfl, rfl, _, _, rfl, rfl, .inl ⟨by omega, by omega⟩, _, _, rfl, rfl, _, _, rfl, rfl, _, _, rfl, rfl, ⟨by decide, by decide, by omega⟩, _, _, rfl, rfl, (by decide : (0 : Int) < 2147483237), ?_⟩
          have b1 := Int.emod_nonneg ((cell % 1000005209 + 137 * (dr + 1) * (dr + 1 + 3) + 19) ^ (5 : Int).toNat) (b := 2147483237) (by decide)
          have b2 := Int.emod_lt_of_pos ((cell % 1000005209 + 137 * (dr + 1) * (dr + 1 + 3) + 19) ^ (5 : Int).toNat) (b := 2147483237) (by decide)
          have g2 := Int.mul_nonneg b1 (show 0 ≤ 2 * (dr + 1) + 7 by omega)
          have g3 := Int.mul_le_mul (Int.le_of_lt b2) (show 2 * (dr + 1) + 7 ≤ 2000009 by omega) (by omega) (by decide)
          refine ⟨_, rfl, _, rfl, r, _, 3, _, rfl, rfl, sl_ h3, atI_nat (j := 3) rfl, _, _, rfl, rfl, .inl ⟨by decide, by decide⟩, _, _, rfl, rfl, _, _, rfl, rfl, .inl ⟨by omega, by omega⟩, _, rfl, r, _, 3, _, rfl, rfl, sl_ h3, atI_nat (j := 3) rfl, _, _, rfl, rfl, .inl ⟨by decide, by decide⟩, _, _, rfl, rfl, _, _, rfl, rfl, ⟨by decide, by decide, by omega⟩, _, _, rfl, rfl, (by decide : (0 : Int) < 2147483179), _, _, rfl, rfl, ⟨by decide, by decide⟩, _, rfl, _, _, rfl, rfl, hn, ?_⟩
          exact q _ _ c4 ⟨ns, nx + 1, rest, dr + 1, h3, hc3, ncr, by omega, by omega, by omega⟩ (Int.emod_nonneg _ (by omega)) (Int.emod_lt_of_pos _ hn)
end
end K18

namespace Cb
open PySem PySem.Spec PyProof.Rows L2 PySem.W
section
variable {K : Frag} {tl : TE} {j : Nat} {vs : List Nat} {σ : Stt} {H : Hp} {Q : VK} {tt : TT} {F : Addr} {us : List V} {ts : List (List Str)}
/-- [t for t in found if ..], some of the crews found -/
theorem lcL_some (hl : ∀ R : VK, R (.ref F) H → tl σ H R) (hF : H F = some (.lst us)) (hp : Paired (S1 K H) us ts) (hn : us.length ≤ 1000) (hj : ∀ x, wipe ((wipe σ vs).set j (some x)) vs = wipe σ vs) (hv : ∀ x, ((wipe σ vs).set j (some x))[j]? = some (some x))
    (ht : ∀ x t, t ∈ ts → ∀ H1, Same H H1 → S1 K H1 x t → ∀ R : Bool → Hp → Prop, (∀ b H2, Same H1 H2 → R b H2) → tt ((wipe σ vs).set j (some x)) H1 R)
    (q : ∀ D ws wts H', H D = none → Same H H' → H' D = some (.lst ws) → Paired (S1 K H') ws wts → (∀ t ∈ wts, t ∈ ts) → Q (.ref D) H') : tLc (iList K tl) (gName j) tt (tVar j) vs σ H Q := by
  refine hl _ ⟨F, rfl, ⟨us, sl_ hF⟩, fun D nD => ?_⟩
  refine lc_list (K := K) (a := F) (xs := us) (fun i H' => Same H H' ∧ ∃ ws wts, H' D = some (.lst ws) ∧ Paired (S1 K H') ws wts ∧ ws.length ≤ i ∧ ∀ t ∈ wts, t ∈ ts) ⟨same_upd nD, [], [], upd_same, .nil, Nat.zero_le _, fun _ z => absurd z (by simp)⟩ (fun i H' _ z => sl_ (z.1 _ _ hF)) (fun i x H' hi z => ⟨hj x, ?_⟩) fun H' z => ?_
  · obtain ⟨e2, ws, wts, hw, hpw, hwi, hm⟩ := z
    obtain ⟨t, ht', hx⟩ := prd_getL hp hi
    have htm : t ∈ ts := List.mem_of_getElem? ht'
    have hil := (List.getElem?_eq_some_iff.mp hi).1
    refine ht x t htm H' e2 (hx.same e2) _ fun b H2 e3 => ?_
    cases b with
    | true =>
      rw [if_pos rfl]
      refine ⟨x, hv x, ws, e3 _ _ hw, big (by omega), same_mut (e2.trans e3) nD, ws ++ [x], wts ++ [t], upd_same, ?_, by simp; omega, fun u hu => ?_⟩
      · have f2 : Fx H2 (upd H2 D (.lst (ws ++ [x]))) := Fx.mut (e3 _ _ hw)
        exact prd_app (f2.s1s (prd_mono (fun _ _ z => z.same e3) hpw)) (.cons (f2.s1 (hx.same (e2.trans e3))) .nil)
      · rcases List.mem_append.mp hu with hu | hu
        · exact hm u hu
        · rw [List.mem_singleton.mp hu]
          exact htm
    | false =>
      rw [if_neg (by simp)]
      exact ⟨e2.trans e3, ws, wts, e3 _ _ hw, prd_mono (fun _ _ z => z.same e3) hpw, by omega, hm⟩
  · obtain ⟨e2, ws, wts, hw, hpw, hwi, hm⟩ := z
    exact q D ws wts H' nD e2 hw hpw hm
end
/-- for x in ..: if [..] op e: .. -/
theorem if_lc {i : Nat} {x : V} {σ : Stt} {H : Hp} {r : R2} {wi : TI} {g : TG} {tt : TT} {te tb : TE} {vs : List Nat} {D : Ends} {t1 t2 : TS}
    (h : tLc wi g tt te vs (σ.set i (some x)) H fun v H1 => tb (σ.set i (some x)) H1 fun y H2 => r v y H2 fun z H3 => ∃ c, z = .bl c ∧ if c = true then t1 D (σ.set i (some x)) H3 else t2 D (σ.set i (some x)) H3) :
    gName i x σ H fun σ2 H2 => tIfS (tTest (tOp r (tLc wi g tt te vs) tb)) t1 t2 D σ2 H2 := h
end Cb
namespace K18
open PySem PySem.Spec PyProof.Rows L2 PySem.W Cb Evl
def pool : List Str := ["ann", "bo", "cy", "d", "eve", "longname", "m", "z"]
theorem pool_ok : ∀ n ∈ pool, okS n := by
  intro n hn
  have h : (pool.all fun n => PyData.strOk n && decide ((reprText n).length ≤ 20)) = true := by decide +kernel
  have h2 := List.all_eq_true.mp h n hn
  simp only [Bool.and_eq_true, decide_eq_true_eq] at h2
  exact h2
/-- a set of people as the law makes it -/
def Pt (t : List Str) : Prop := t ≠ [] ∧ t.length ≤ 8 ∧ ∀ n ∈ t, n ∈ pool
/-- a set of people out of a list of names -/
def Pq (pl : List Str) (t : List Str) : Prop := t ≠ [] ∧ t.length ≤ 8 ∧ ∀ n ∈ t, n ∈ pl
structure Ppl (pl : List Str) : Prop where
  len : pl.length ≤ 8
  ok : ∀ n ∈ pl, okS n
theorem ppool : Ppl pool := ⟨by decide, pool_ok⟩
theorem Pq.ok {pl t : List Str} (h : Pq pl t) (pp : Ppl pl) : t ≠ [] ∧ t.length ≤ 8 ∧ ∀ n ∈ t, okS n := ⟨h.1, h.2.1, fun n hn => pp.ok n (h.2.2 n hn)⟩
theorem Gt.ofPq {pl : List Str} {ts : List (List Str)} (pp : Ppl pl) (h12 : ts.length ≤ 12) (h : ∀ t ∈ ts, Pq pl t) : Gt ts := ⟨by omega, fun t ht => (h t ht).ok pp⟩
theorem Pt.ok {t : List Str} (h : Pt t) : t ≠ [] ∧ t.length ≤ 8 ∧ ∀ n ∈ t, okS n := ⟨h.1, h.2.1, fun n hn => pool_ok n (h.2.2 n hn)⟩
section
variable {P : Program} {w : World} {K : Frag} {mg : Str → Option Value} {base : Heap}
/-! ### one of some -/
abbrev s_choice : Stmt := top 19
theorem sc_choice : FnScope ["_law_feed_here", "_law_some"] ["_law_feed_here", "_law_some"] (defScope s_choice) := ⟨rfl, rfl, rfl, by decide +kernel, rfl, by decide +kernel, by decide +kernel⟩
def sp_choiceT (K : Frag) : Sp := fun vs H Q _ => ∃ (r c t : Addr) (d : Int) (xs : List V), vs = [.ref r, .ref t] ∧ SqT K H t xs ∧ xs ≠ [] ∧ xs.length ≤ 1000 ∧ d ≤ 1000000 ∧ Fd H r c d ∧ ∀ (i : Nat) (x : V) (H' : Hp), Cl r H H' → Fd H' r c (d + 1) → xs[i]? = some x → Q x H'
theorem ok_choiceT {f : Addr} {fd : FuncData} {k : Nat} (F : Fun K "_law_choice" "_law_choice" s_choice f fd) (B : Blt mg) (D__law_draw : Own P w K mg base 1 "_law_draw" ["_law_feed_here", "_law_limit"] sp_draw) : FnOk P w K mg base CX0 (k + 2) f fd ["_law_feed_here", "_law_some"] (sp_choiceT K) := by
  refine F.ok sc_choice (fun vs H Q E h => ?_) (fun cdv A outer s H vs Q E hr h => ?_)
  · obtain ⟨_, _, _, _, _, rfl, _⟩ := h
    rfl
  · obtain ⟨r, c, t, d, xs, rfl, ht, ne, hl, hd, hF, q⟩ := h
    have hr1 : Room 1 _ := hr.mono (by omega)
    refine ⟨_, (pss_one (ps_ret (pe_ix (i_tup K) (pv 1) (pe_call D__law_draw.G hr1 rfl D__law_draw.m D__law_draw.kp D__law_draw.b .nil pass0 (pa_cons (pv 0) (pa_cons (pe_callB (c_len K) (by rfl) B.len (by decide +kernel) (pa_cons (pv 1) pa_nil)) pa_nil))) (fun _ _ => rfl)))), ?_⟩
    have pos := List.length_pos_iff.mpr ne
    refine ⟨_, rfl, _, rfl, _, rfl, t, xs, rfl, .inr ht, r, c, xs.length, d, rfl, by omega, by omega, by omega, hF, fun z H1 c1 g1 z0 z1 => ?_⟩
    obtain ⟨j, rfl⟩ : ∃ j : Nat, z = (j : Int) := ⟨z.toNat, by omega⟩
    have jl : j < xs.length := by omega
    exact ⟨t, xs, j, xs[j], rfl, rfl, c1.sqT ht, atI_nat (List.getElem?_eq_getElem jl), q j xs[j] H1 c1 g1 (List.getElem?_eq_getElem jl)⟩
def sp_choiceL (K : Frag) : Sp := fun vs H Q _ => ∃ (r c t : Addr) (d : Int) (xs : List V), vs = [.ref r, .ref t] ∧ H t = some (.lst xs) ∧ t ≠ r ∧ xs ≠ [] ∧ xs.length ≤ 1000 ∧ d ≤ 1000000 ∧ Fd H r c d ∧ ∀ (i : Nat) (x : V) (H' : Hp), Cl r H H' → Fd H' r c (d + 1) → xs[i]? = some x → Q x H'
theorem ok_choiceL {f : Addr} {fd : FuncData} {k : Nat} (F : Fun K "_law_choice" "_law_choice" s_choice f fd) (B : Blt mg) (D__law_draw : Own P w K mg base 1 "_law_draw" ["_law_feed_here", "_law_limit"] sp_draw) : FnOk P w K mg base CX0 (k + 2) f fd ["_law_feed_here", "_law_some"] (sp_choiceL K) := by
  refine F.ok sc_choice (fun vs H Q E h => ?_) (fun cdv A outer s H vs Q E hr h => ?_)
  · obtain ⟨_, _, _, _, _, rfl, _⟩ := h
    rfl
  · obtain ⟨r, c, t, d, xs, rfl, ht, tr, ne, hl, hd, hF, q⟩ := h
    have hr1 : Room 1 _ := hr.mono (by omega)
    refine ⟨_, (pss_one (ps_ret (pe_ix (i_list K) (pv 1) (pe_call D__law_draw.G hr1 rfl D__law_draw.m D__law_draw.kp D__law_draw.b .nil pass0 (pa_cons (pv 0) (pa_cons (pe_callB (c_len K) (by rfl) B.len (by decide +kernel) (pa_cons (pv 1) pa_nil)) pa_nil))) (fun _ _ => rfl)))), ?_⟩
    have pos := List.length_pos_iff.mpr ne
    refine ⟨_, rfl, _, rfl, _, rfl, t, xs, rfl, .inl (sl_ ht), r, c, xs.length, d, rfl, by omega, by omega, by omega, hF, fun z H1 c1 g1 z0 z1 => ?_⟩
    obtain ⟨j, rfl⟩ : ∃ j : Nat, z = (j : Int) := ⟨z.toNat, by omega⟩
    have jl : j < xs.length := by omega
    exact ⟨t, xs, j, xs[j], rfl, rfl, sl_ (c1.lst tr ht), atI_nat (List.getElem?_eq_getElem jl), q j xs[j] H1 c1 g1 (List.getElem?_eq_getElem jl)⟩
/-! ### is one within the other -/
abbrev s_part : Stmt := top 21
abbrev N_part : List Str := ["_law_some", "_law_others", "_law_one"]
theorem sc_part : FnScope N_part ["_law_some", "_law_others"] (defScope s_part) := ⟨rfl, rfl, rfl, by decide +kernel, rfl, by decide +kernel, by decide +kernel⟩
theorem nc_has (o c : List Str) : (nc o c).isEmpty = has o c := by
  unfold nc has
  induction c with
  | nil => rfl
  | cons x c ih =>
    rw [List.all_cons]
    cases h : isIn x o with
    | true =>
      rw [List.filter_cons_of_neg (by simp [h]), ih]
      rfl
    | false =>
      rw [List.filter_cons_of_pos (by simp [h])]
      rfl
def sp_part (K : Frag) : Sp := fun vs H Q _ => ∃ (x y : V) (a b : List Str), vs = [x, y] ∧ S1 K H x a ∧ S1 K H y b ∧ a.length ≤ 1000 ∧ (∀ n ∈ a, okS n) ∧ ∀ H', Same H H' → Q (.bl (has b a)) H'
theorem ok_part {f : Addr} {fd : FuncData} {k : Nat} (F : Fun K "_law_is_part" "_law_is_part" s_part f fd) : FnOk P w K mg base CX0 (k + 1) f fd ["_law_some", "_law_others"] (sp_part K) := by
  refine F.ok sc_part (fun vs H Q E h => ?_) (fun cdv A outer s H vs Q E hr h => ?_)
  · obtain ⟨_, _, _, _, rfl, _⟩ := h
    rfl
  · obtain ⟨x, y, c, o, rfl, ⟨a, rfl, hc⟩, ⟨b, rfl, ho⟩, hl, okc, q⟩ := h
    refine ⟨_, (pss_one (ps_ret (pe_cmpR (o_eqD K hr.units) (pe_lc (own := [("_law_one", 2)]) (g := gName 2) rfl sc_part.nd (p_tup K (pv 0)) (blkOk_by (own := [("_law_one", 2)]) (N := N_part) (sc := defScope s_part) (by decide +kernel)) (fun _ _ _ _ _ => (pg_name (i := 2) sc_part.nd rfl (Or.inl rfl)))
      (fun _ _ _ _ _ => (pts_one (pt_cmpR (o_nin K) (pv 2) (pv 1) rfl))) (fun _ _ _ _ _ => (pv 2))) (pe_lst pa_nil) (nomark _)))), ?_⟩
    unfold tRet tOp
    refine lcT_filter (xs := c.map V.str) (fun v => match v with | .str p => !isIn p o | _ => false) id (fun R hR => ⟨_, rfl, hR a H (Same.refl H) hc⟩) (by rw [List.length_map]; omega) (fun _ => rfl) (fun v hv H1 e1 R hR => ?_) (fun v hv _ H1 e1 R hR => ⟨v, rfl, hR H1 (Same.refl H1)⟩) fun D H' hD e hH => ?_
    · obtain ⟨p, _, rfl⟩ := List.mem_map.mp hv
      exact ⟨_, rfl, _, rfl, b, _, rfl, .inr (sameT e1 ho), rfl, flat_strs o, _, rfl, by rw [inV_strs]; exact hR⟩
    · have e2 : ((c.map V.str).filter (fun v => match v with | .str p => !isIn p o | _ => false)).map id = (nc o c).map V.str := by
        rw [List.map_id, List.filter_map]
        rfl
      rw [e2] at hH
      refine ⟨Nat.zero_le _, fun l nl => ⟨.list ((nc o c).map .str), .list [], .lst (sl_ (same_upd nl _ _ hH)) (dpStrs _), .lst (sl_ upd_same) .nil, shaped_strs (ok_nc okc), shaped_nil, ?_⟩⟩
      rw [eqv_strs_nil, nc_has]
      exact q _ (e.trans (same_upd nl))
/-! ### those that contain no other -/
abbrev s_min : Stmt := top 22
abbrev N_min : List Str := ["_law_sets", "_law_found", "_law_some", "_law_one"]
theorem sc_min : FnScope N_min ["_law_sets"] (defScope s_min) := ⟨rfl, rfl, rfl, by decide +kernel, rfl, by decide +kernel, by decide +kernel⟩
def sp_min (K : Frag) : Sp := fun vs H Q _ => ∃ (l : Addr) (xs : List V) (ts : List (List Str)), vs = [.ref l] ∧ SqL K H l xs ∧ Paired (S1 K H) xs ts ∧ ts.length < 64 ∧ ts ≠ [] ∧ (∀ t ∈ ts, Pt t) ∧
  ∀ v us H', Same H H' → S2 K H' v us → us ≠ [] → us.length ≤ 12 → (∀ t ∈ us, Pt t) → Q v H'
theorem ok_min {f : Addr} {fd : FuncData} {k : Nat} (F : Fun K "_law_minimal" "_law_minimal" s_min f fd) (B : Blt mg) (bs : mg "set" = none) (D__law_is_part : Own P w K mg base 1 "_law_is_part" ["_law_some", "_law_others"] (sp_part K)) : FnOk P w K mg base CX0 (k + 2) f fd ["_law_sets"] (sp_min K) := by
  refine F.ok sc_min (fun vs H Q E h => ?_) (fun cdv A outer s H vs Q E hr h => ?_)
  · obtain ⟨_, _, _, rfl, _⟩ := h
    rfl
  · obtain ⟨l, xs, ts, rfl, hl, hp, few, tne, hpt, q⟩ := h
    have hr1 : Room 1 _ := hr.mono (by omega)
    refine ⟨_, (pss_cons (ps_set (i := 1) sc_min.nd rfl (Or.inl rfl) (pe_lst pa_nil))
      (pss_cons (ps_for PassesOwn.never rfl (p_list K (show PE _ _ (tSrtLen K _) from pe_srtLen hr.units B.sorted B.len (by rfl) (by rfl) (pe_callB (c_srtTs K P w rfl hr.units) (by rfl) B.sorted (by decide +kernel) (pa_cons (pe_callTy (c_setTs K P w rfl hr.units) (by rfl) bs (by decide +kernel) (pa_cons (pv 0) pa_nil)) pa_nil)))) (pg_name (i := 2) sc_min.nd rfl (Or.inr rfl))
      (pss_one (ps_if (pt_cmpR (o_eqD K hr.units) (pe_lc (own := [("_law_one", 3)]) (g := gName 3) rfl sc_min.nd (p_list K (pv 1)) (blkOk_by (own := [("_law_one", 3)]) (N := N_min) (sc := defScope s_min) (by decide +kernel)) (fun _ _ _ _ _ => (pg_name (i := 3) sc_min.nd rfl (Or.inl rfl))) (fun _ _ _ _ _ => (pts_one (pt_val (pe_call D__law_is_part.G hr1 rfl D__law_is_part.m D__law_is_part.kp D__law_is_part.b .nil pass0 (pa_cons (pv 3) (pa_cons (pv 2) pa_nil)))))) (fun _ _ _ _ _ => (pv 3))) (pe_lst pa_nil) (nomark _)) (pss_one (ps_expr (pe_bm PySem.F.plainAttrs_list PySem.F.slot_list_append PySem.F.type_list_append mt_append (pv 1) (pa_cons (pv 2) pa_nil)))) pss_nil)))
      (pss_one (ps_ret (pe_callTy (c_tuple K) (by rfl) B.tuple (by decide +kernel) (pa_cons (pe_callB (c_srt K hr.units) (by rfl) B.sorted (by decide +kernel) (pa_cons (pe_slice (s_list K) (pv 1) po_none (po_some pe_int)) pa_nil)) pa_nil)))))), ?_⟩
    refine sq_lst fun F0 nF => ?_
    have s1 : Same H (upd H F0 (.lst [])) := same_upd nF
    refine sq_for ?_
    refine ⟨_, rfl, l, xs, ts, rfl, s1.seq hl, prd_mono (fun _ _ z => z.same s1) hp, few, fun a L na sqL nd mem ll => ?_⟩
    have s2 := s1.trans (same_upd (o := TsO P w a L) na)
    have inL : ∀ p ∈ L, Pt p.2 := fun p hp => hpt _ ((mem p.2).mp (List.mem_map.mpr ⟨p, hp, rfl⟩))
    refine ⟨a, L, rfl, upd_same, fun p hp => sameT (same_upd na) (sqL p hp), fun p hp => (inL p hp).1, fun p ys us np pus hys => ?_⟩
    have s3 := s2.trans (same_upd (o := .lst ys) np)
    obtain ⟨zs, rfl, ez, hz⟩ := prd_fst hys
    have zlen : zs.length = L.length := by
      have e1 := congrArg List.length ez
      rw [List.length_map, (srtT_perm us).length_eq, pus.length_eq, List.length_map] at e1
      exact e1
    have zpt : ∀ b ∈ zs, Pt b.2 := fun b hb => by
      have m1 : b.2 ∈ srtT us := by
        rw [← ez]
        exact List.mem_map.mpr ⟨b, hb, rfl⟩
      have m2 := pus.mem_iff.mp ((srtT_perm us).mem_iff.mp m1)
      obtain ⟨p, hp, e⟩ := List.mem_map.mp m2
      rw [← e]
      exact inL p hp
    have lpos : 0 < L.length := by
      obtain ⟨t0, ht0⟩ := List.exists_mem_of_ne_nil _ tne
      obtain ⟨p, hp, _⟩ := List.mem_map.mp ((mem t0).mpr ht0)
      exact List.length_pos_of_mem hp
    refine ⟨p, zs, rfl, sl_ upd_same, fun b hb => (hz b hb).same (same_upd np), fun p2 np2 => ?_⟩
    have s4 := s3.trans (same_upd (o := .lst ((zs.mergeSort (dataLe false fun b : V × List Str => PyData.int b.2.length)).map (·.1))) np2)
    have zin : ∀ b ∈ zs.mergeSort (dataLe false fun b : V × List Str => PyData.int b.2.length), b ∈ zs := fun b hb => List.mem_mergeSort.mp hb
    have zl2 : (zs.mergeSort (dataLe false fun b : V × List Str => PyData.int b.2.length)).length = L.length := by rw [List.length_mergeSort, zlen]
    have stand : ∀ b ∈ zs, S1 K (upd (upd (upd (upd H F0 (.lst [])) a (TsO P w a L)) p (.lst (zs.map (·.1)))) p2 (.lst ((zs.mergeSort (dataLe false fun b : V × List Str => PyData.int b.2.length)).map (·.1)))) b.1 b.2 := fun b hb => ((hz b hb).same (same_upd np)).same (same_upd np2)
    have hF2 : (upd (upd (upd (upd H F0 (.lst [])) a (TsO P w a L)) p (.lst (zs.map (·.1)))) p2 (.lst ((zs.mergeSort (dataLe false fun b : V × List Str => PyData.int b.2.length)).map (·.1)))) F0 = some (.lst []) := same_upd np2 _ _ (same_upd np _ _ (same_upd na _ _ upd_same))
    have hP2 : (upd (upd (upd (upd H F0 (.lst [])) a (TsO P w a L)) p (.lst (zs.map (·.1)))) p2 (.lst ((zs.mergeSort (dataLe false fun b : V × List Str => PyData.int b.2.length)).map (·.1)))) p2 = some (.lst ((zs.mergeSort (dataLe false fun b : V × List Str => PyData.int b.2.length)).map (·.1))) := upd_same
    have nF2 : p2 ≠ F0 := fun e => by
      rw [e, same_upd np _ _ (same_upd na _ _ upd_same)] at np2
      cases np2
    generalize zs.mergeSort (dataLe false fun b : V × List Str => PyData.int b.2.length) = bs2 at zin zl2 s4 stand hF2 hP2
    generalize upd (upd (upd (upd H F0 (.lst [])) a (TsO P w a L)) p (.lst (zs.map (·.1)))) p2 (.lst (bs2.map (·.1))) = H5 at s4 stand hF2 hP2
    refine ⟨p2, rfl, ⟨_, sl_ hP2⟩, for_list (xs := bs2.map (·.1)) (fun i σ' H' => ∃ (v2 : Option V) (ws : List V) (wts : List (List Str)), σ' = [some (.ref l), some (.ref F0), v2, none] ∧ Same H H' ∧ H' p2 = some (.lst (bs2.map (·.1))) ∧ (∀ b ∈ zs, S1 K H' b.1 b.2) ∧ H' F0 = some (.lst ws) ∧ Paired (S1 K H') ws wts ∧ wts.length ≤ i ∧ (∀ t ∈ wts, Pt t) ∧ (0 < i → wts ≠ []))
      ⟨none, [], [], rfl, s4, hP2, stand, hF2, .nil, Nat.zero_le _, fun _ z => absurd z (by simp), fun z => absurd z (by simp)⟩ (fun i σ' H' _ z => ?_) (fun i x σ' H' hi z => ?_) fun σ' H' z => ?_⟩
    · obtain ⟨_, _, _, rfl, z⟩ := z
      exact sl_ z.2.1
    · obtain ⟨v2, ws, wts, rfl, k1, k2, k3, k4, k5, k6, k7, k8⟩ := z
      rw [List.getElem?_map] at hi
      obtain ⟨b, hb, rfl⟩ := Option.map_eq_some_iff.mp hi
      have bz := zin b (List.mem_of_getElem? hb)
      have hb1 := k3 b bz
      have pb := zpt b bz
      have il := (List.getElem?_eq_some_iff.mp hb).1
      have wl := prd_len k5
      refine if_lc ?_
      refine lcL_some (K := K) (tl := tVar 1) (j := 3) (vs := [3]) (σ := [some (.ref l), some (.ref F0), some b.1, none]) (F := F0) (us := ws) (ts := wts) (fun R hR => ⟨_, rfl, hR⟩) k4 k5 (by omega) (fun _ => rfl) (fun _ => rfl) (fun y u hu H6 e6 hy R hR => ?_) fun D ys2 yts H6 nD e6 hD hyp hsub => ?_
      · have pu := k7 u hu
        exact ⟨_, rfl, _, rfl, y, b.1, u, b.2, rfl, hy, hb1.same e6, by have := pu.2.1; omega, pu.ok.2.2, fun H7 e7 => ⟨_, rfl, hR _ H7 e7⟩⟩
      · have oky : ∀ t ∈ yts, ∀ n ∈ t, okS n := fun t ht => (k7 t (hsub t ht)).ok.2.2
        refine ⟨Nat.zero_le _, fun l9 nl9 => ⟨.list (yts.map sD), .list [], .lst (sl_ (same_upd nl9 _ _ hD)) (s1s_dp (prd_mono (fun _ _ z => z.same (same_upd nl9)) hyp)), .lst (sl_ upd_same) .nil, shaped_teams oky, shaped_nil, _, rfl, ?_⟩⟩
        rw [eqv_list_nil]
        have e7 : Same H' (upd H6 l9 (.lst [])) := e6.trans (same_upd nl9)
        generalize upd H6 l9 (.lst []) = H7 at e7
        refine ite2 (fun _ => ?_) (fun hne => ?_)
        · refine ⟨_, rfl, .inl ⟨rfl, _, SqL.of (e7 _ _ k4)⟩, _, rfl, F0, ws, _, rfl, rfl, e7 _ _ k4, big (by omega), ?_⟩
          have f8 : Fx H7 (upd H7 F0 (.lst (ws ++ [b.1]))) := Fx.mut (e7 _ _ k4)
          have f9 := (Fx.of e7).trans f8
          refine ⟨some b.1, ws ++ [b.1], wts ++ [b.2], rfl, same_mut (k1.trans e7) nF, by rw [upd_ne nF2]; exact e7 _ _ k2, fun c hc => f9.s1 (k3 c hc), upd_same, prd_app (f9.s1s k5) (.cons (f9.s1 hb1) .nil), by simp; omega, fun t ht => ?_, fun _ z => by simp at z⟩
          rcases List.mem_append.mp ht with ht | ht
          · exact k7 t ht
          · rw [List.mem_singleton.mp ht]
            exact pb
        · refine ⟨some b.1, ws, wts, rfl, k1.trans e7, e7 _ _ k2, fun c hc => (k3 c hc).same e7, e7 _ _ k4, prd_mono (fun _ _ z => z.same e7) k5, by omega, k7, fun _ z => ?_⟩
          subst z
          cases yts with
          | nil => exact hne rfl
          | cons u _ => exact absurd (hsub u List.mem_cons_self) (by simp)
    · obtain ⟨v2, ws, wts, rfl, k1, k2, k3, k4, k5, k6, k7, k8⟩ := z
      rw [List.length_map] at k6 k8
      have wl := prd_len k5
      refine ⟨_, rfl, ?_⟩
      unfold tNoPart
      refine ⟨12, rfl, F0, ws, rfl, sl_ k4, fun p3 np3 => ?_⟩
      have e3 := same_upd (o := .lst (cutV ws none (some 12))) np3
      have hcut : Paired (S1 K (upd H' p3 (.lst (cutV ws none (some 12))))) (cutV ws none (some 12)) ((wts.drop (HT.sIx ws.length 0 none)).take (HT.sIx ws.length ws.length (some 12) - HT.sIx ws.length 0 none)) :=
        prd_mono (fun _ _ z => z.same e3) (prd_take _ (prd_drop _ k5))
      have e12 : HT.sIx ws.length ws.length (some 12) = min 12 ws.length := HT.sIx_nat ws.length ws.length 12
      rw [e12, HT.sIx_none] at hcut
      have sub3 : ∀ t ∈ (wts.drop 0).take (min 12 ws.length - 0), Pt t := fun t ht => k7 t (List.mem_of_mem_drop (List.mem_of_mem_take ht))
      unfold tNil
      show rSrt K [.ref p3] _ _
      refine srt_teams (sl_ upd_same) hcut (fun t ht => (sub3 t ht).1) fun p4 ys4 np4 hps => ⟨p4, _, rfl, .inl ⟨sl_ upd_same, fun t nt => ?_⟩⟩
      have s8 := (same_upd (o := .lst ys4) np4).trans (same_upd (o := .tup ys4) nt)
      have wne := k8 (by omega)
      have wpos := List.length_pos_iff.mpr wne
      refine q (.ref t) _ _ ((k1.trans e3).trans s8) ⟨t, ys4, rfl, st_ upd_same, prd_mono (fun _ _ z => z.same s8) hps⟩ (fun e => ?_) ?_ fun u hu => sub3 u ((srtT_perm _).mem_iff.mp hu)
      · have e5 := congrArg List.length e
        rw [(srtT_perm _).length_eq, List.length_take, List.length_drop] at e5
        rw [List.length_nil] at e5
        omega
      · rw [(srtT_perm _).length_eq, List.length_take]
        omega
end
end K18

namespace K18
open PySem PySem.Spec PyProof.Rows L2 PySem.W Cb Evl
theorem putK_keys {κ : Type} [DecidableEq κ] (kvs : List (κ × V)) (k : κ) (v : V) : (putK kvs k v).map (·.1) = if k ∈ kvs.map (·.1) then kvs.map (·.1) else kvs.map (·.1) ++ [k] := by
  unfold putK
  have e : (kvs.any fun kv => decide (kv.1 = k)) = decide (k ∈ kvs.map (·.1)) := by
    rw [Bool.eq_iff_iff]
    simp only [List.any_eq_true, decide_eq_true_eq, List.mem_map]
  rw [e]
  by_cases h : k ∈ kvs.map (·.1)
  · rw [if_pos (by simpa using h), if_pos h, List.map_map]
    refine List.map_congr_left fun kv _ => ?_
    show (if kv.1 = k then (kv.1, v) else kv).1 = kv.1
    split <;> rfl
  · rw [if_neg (by simpa using h), if_neg h, List.map_append]
    rfl
section
variable {P : Program} {w : World} {K : Frag} {mg : Str → Option Value} {base : Heap}
/-! ### the people of the crews, by a dict -/
abbrev s_folk : Stmt := top 20
abbrev N_folk : List Str := ["_law_teams_here", "_law_found", "_law_team", "_law_name"]
theorem sc_folk : FnScope N_folk ["_law_teams_here"] (defScope s_folk) := ⟨rfl, rfl, rfl, by decide +kernel, rfl, by decide +kernel, by decide +kernel⟩
def sp_folk (K : Frag) : Sp := fun vs H Q _ => ∃ (x : V) (ts : List (List Str)) (pl : List Str), vs = [x] ∧ S2 K H x ts ∧ ts.length ≤ 12 ∧ Ppl pl ∧ (∀ t ∈ ts, Pq pl t) ∧ ∀ v ks H', Same H H' → S1 K H' v ks → (∀ n, n ∈ ks ↔ n ∈ ts.flatten) → ks.length ≤ 8 → Q v H'
theorem ok_folk {f : Addr} {fd : FuncData} {k : Nat} (F : Fun K "_law_folk" "_law_folk" s_folk f fd) (B : Blt mg) : FnOk P w K mg base CX0 (k + 1) f fd ["_law_teams_here"] (sp_folk K) := by
  refine F.ok sc_folk (fun vs H Q E h => ?_) (fun cdv A outer s H vs Q E hr h => ?_)
  · obtain ⟨_, _, _, rfl, _⟩ := h
    rfl
  · obtain ⟨x, ts, pl, rfl, ⟨a, xs, rfl, ha, hp⟩, hl, pp, hpt, q⟩ := h
    refine ⟨_, (pss_cons (ps_set (i := 1) sc_folk.nd rfl (Or.inl rfl) pe_dnewK)
      (pss_cons (ps_for PassesOwn.never rfl (p_tup K (pv 0)) (pg_name (i := 2) sc_folk.nd rfl (Or.inl rfl))
      (pss_one (ps_for PassesOwn.never rfl (p_tup K (pv 2)) (pg_name (i := 3) sc_folk.nd rfl (Or.inl rfl))
      (pss_one (ps_dput (hu_of hr) (pv 1) (pv 3) pe_bl rfl)))))
      (pss_one (ps_ret (pe_callTy (c_tuple K) (by rfl) B.tuple (by decide +kernel) (pa_cons (pe_callB (call_sortedD rfl) (by rfl) B.sorted (by decide +kernel) (pa_cons (pv 1) pa_nil)) pa_nil)))))), ?_⟩
    have hxl := prd_len hp
    have inpool : ∀ n, n ∈ ts.flatten → n ∈ pl := fun n hn => by
      obtain ⟨t, ht, hn⟩ := List.mem_flatten.mp hn
      exact (hpt t ht).2.2 n hn
    refine sq_set fun D nD => ?_
    have s1 : Same H (upd H D (.dK [])) := same_upd nD
    refine sq_for ?_
    refine ⟨_, rfl, a, rfl, ⟨xs, sameT s1 ha⟩, for_tup (xs := xs) (fun i σ' H' => ∃ (v2 v3 : Option V) (kvs : List (Key × V)) (ks : List Str), σ' = [some (.ref a), some (.ref D), v2, v3] ∧ Same H H' ∧ H' D = some (.dK kvs) ∧ kvs.map (·.1) = ks.map Sum.inr ∧ ks.Nodup ∧ ∀ n, n ∈ ks ↔ n ∈ (ts.take i).flatten)
      ⟨none, none, [], [], rfl, s1, upd_same, rfl, .nil, fun n => by simp⟩ (fun i σ' H' _ z => ?_) (fun i x σ' H' hi z => ?_) fun σ' H' z => ?_⟩
    · obtain ⟨_, _, _, _, _, e, _⟩ := z
      exact sameT e ha
    · obtain ⟨v2, v3, kvs, ks, rfl, e1, hD, hk, nd, hm⟩ := z
      obtain ⟨t, ht, hx⟩ := prd_getL hp hi
      have htm := List.mem_of_getElem? ht
      obtain ⟨b, rfl, hb⟩ := hx
      refine ⟨_, rfl, b, rfl, ⟨_, sameT e1 hb⟩, for_tup (xs := t.map V.str) (fun j σ' H' => ∃ (v3 : Option V) (kvs : List (Key × V)) (ks : List Str), σ' = [some (.ref a), some (.ref D), some (.ref b), v3] ∧ Same H H' ∧ H' D = some (.dK kvs) ∧ kvs.map (·.1) = ks.map Sum.inr ∧ ks.Nodup ∧ ∀ n, n ∈ ks ↔ n ∈ (ts.take i).flatten ∨ n ∈ t.take j)
        ⟨v3, kvs, ks, rfl, e1, hD, hk, nd, fun n => by rw [hm]; simp⟩ (fun j σ' H' _ z => ?_) (fun j y σ' H' hj z => ?_) fun σ' H' z => ?_⟩
      · obtain ⟨_, _, _, _, e, _⟩ := z
        exact sameT e hb
      · obtain ⟨v3, kvs, ks, rfl, e2, hD, hk, nd, hm⟩ := z
        rw [List.getElem?_map] at hj
        obtain ⟨n, hn, rfl⟩ := Option.map_eq_some_iff.mp hj
        have kl : ks.length ≤ pl.length := nodup_le nd fun m hm2 => by
          rcases (hm m).mp hm2 with z | z
          · obtain ⟨u, hu, hmu⟩ := List.mem_flatten.mp z
            exact (hpt u (List.mem_of_mem_take hu)).2.2 m hmu
          · exact (hpt t htm).2.2 m (List.mem_of_mem_take z)
        have kl8 : ks.length ≤ 8 := Nat.le_trans kl pp.len
        have kvl : kvs.length = ks.length := by
          have := congrArg List.length hk
          rwa [List.length_map, List.length_map] at this
        refine ⟨_, rfl, _, rfl, D, _, rfl, DPut.k (k := .inr n) hD (big (by omega)), some (.str n), _, if n ∈ ks then ks else ks ++ [n], rfl, same_mut e2 nD, upd_same, ?_, ?_, fun m => ?_⟩
        · have inj : (Sum.inr n : Key) ∈ ks.map Sum.inr ↔ n ∈ ks := by
            rw [List.mem_map]
            exact ⟨fun ⟨u, hu, e⟩ => by cases e; exact hu, fun hu => ⟨n, hu, rfl⟩⟩
          rw [putK_keys, hk]
          by_cases c : n ∈ ks
          · rw [if_pos (inj.mpr c), if_pos c]
          · rw [if_neg (fun z => c (inj.mp z)), if_neg c, List.map_append]
            rfl
        · by_cases c : n ∈ ks
          · rw [if_pos c]
            exact nd
          · rw [if_neg c]
            exact List.nodup_append.mpr ⟨nd, by simp, fun u hu v hv e => c (by rw [List.mem_singleton.mp hv] at e; rw [← e]; exact hu)⟩
        · rw [take_snoc hn, List.mem_append, List.mem_singleton, ← or_assoc, ← hm]
          by_cases c : n ∈ ks
          · rw [if_pos c]
            exact ⟨.inl, fun z => z.elim id fun e => e ▸ c⟩
          · rw [if_neg c, List.mem_append, List.mem_singleton]
      · obtain ⟨v3, kvs, ks, rfl, e2, hD, hk, nd, hm⟩ := z
        refine ⟨some (.ref b), v3, kvs, ks, rfl, e2, hD, hk, nd, fun n => ?_⟩
        rw [hm, List.length_map, List.take_length, take_snoc ht]
        simp
    · obtain ⟨v2, v3, kvs, ks, rfl, e2, hD, hk, nd, hm⟩ := z
      rw [hxl, List.take_length] at hm
      have kl : ks.length ≤ pl.length := nodup_le nd fun m hm2 => inpool m ((hm m).mp hm2)
      have kl8 : ks.length ≤ 8 := Nat.le_trans kl pp.len
      refine ⟨_, rfl, D, kvs, ks, rfl, .inl hD, hk, by omega, fun ys p pm _ np => ⟨p, _, rfl, .inl ⟨sl_ upd_same, fun t nt => ?_⟩⟩⟩
      exact q (.ref t) ys _ ((e2.trans (same_upd np)).trans (same_upd nt)) ⟨t, rfl, st_ upd_same⟩ (fun n => by rw [pm.mem_iff, hm]) (by rw [pm.length_eq]; exact kl8)
end
end K18

namespace Cb
open PySem PySem.Spec PyProof.Rows L2 PySem.W
section
variable {K : Frag} {tl : TE} {j : Nat} {vs : List Nat} {σ : Stt} {H : Hp} {tt : TT} {Q : VK} {β : Type} {F : Hp → V → β → Prop}
/-- [x for x in xs if ..], the items told by what they stand for -/
theorem lcL_pair (mono : ∀ H1 H2 v b, Same H1 H2 → F H1 v b → F H2 v b) (bs : List β) (p : β → Bool) (hl : ∀ R : VK, (∀ a H1 us, Same H H1 → SqL K H1 a us → Paired (F H1) us bs → R (.ref a) H1) → tl σ H R) (hn : bs.length ≤ 100000)
    (hj : ∀ x, wipe ((wipe σ vs).set j (some x)) vs = wipe σ vs) (hv : ∀ x, ((wipe σ vs).set j (some x))[j]? = some (some x))
    (ht : ∀ x b, b ∈ bs → ∀ H1, Same H H1 → F H1 x b → ∀ R : Bool → Hp → Prop, (∀ H2, Same H1 H2 → R (p b) H2) → tt ((wipe σ vs).set j (some x)) H1 R)
    (q : ∀ L us H', H L = none → Same H H' → H' L = some (.lst us) → Paired (F H') us (bs.filter p) → Q (.ref L) H') : tLc (iList K tl) (gName j) tt (tVar j) vs σ H Q := by
  refine hl _ fun a H1 us e1 hs hp => ⟨a, rfl, ⟨us, hs⟩, fun L nL => ?_⟩
  have hlen := prd_len hp
  refine lc_list (K := K) (a := a) (xs := us) (fun i H' => Same H1 H' ∧ ∃ ws, H' L = some (.lst ws) ∧ Paired (F H1) ws ((bs.take i).filter p)) ⟨same_upd nL, [], upd_same, .nil⟩ (fun i H' _ z => z.1.seq hs) (fun i x H' hi z => ⟨hj x, ?_⟩) fun H' z => ?_
  · obtain ⟨e2, ws, hw, hpw⟩ := z
    obtain ⟨b, hb, hf⟩ := prd_getL hp hi
    have hwl := prd_len hpw
    have hfl := List.length_filter_le p (bs.take i)
    have hbl := (List.getElem?_eq_some_iff.mp hb).1
    rw [List.length_take] at hfl
    refine ht x b (List.mem_of_getElem? hb) H' (e1.trans e2) (mono _ _ _ _ e2 hf) _ fun H2 e3 => ?_
    rw [take_snoc hb, List.filter_append]
    by_cases h : p b = true
    · rw [if_pos h]
      refine ⟨x, hv x, ws, e3 _ _ hw, big (by omega), same_mut (e2.trans e3) nL, ws ++ [x], upd_same, ?_⟩
      rw [List.filter_cons_of_pos h]
      exact prd_app hpw (.cons hf .nil)
    · rw [if_neg h]
      refine ⟨e2.trans e3, ws, e3 _ _ hw, ?_⟩
      rw [List.filter_cons_of_neg h]
      simpa using hpw
  · obtain ⟨e2, ws, hw, hpw⟩ := z
    rw [hlen, List.take_length] at hpw
    exact q L ws H' (e1.free nL) (e1.trans e2) hw (prd_mono (fun _ _ z => mono _ _ _ _ e2 z) hpw)
end
section
variable {K : Frag} {tl : TE} {j : Nat} {vs : List Nat} {σ : Stt} {H : Hp} {Q : VK} {tt : TT} {te : TE} {F : Addr} {us : List V} {ts : List (List Str)}
/-- [g(t) for t in found if p(t)], sets of people -/
theorem lcL_fm (p : List Str → Bool) (g : List Str → List Str) (hl : ∀ R : VK, R (.ref F) H → tl σ H R) (hF : H F = some (.lst us)) (hp : Paired (S1 K H) us ts) (hn : us.length ≤ 100000) (hj : ∀ x, wipe ((wipe σ vs).set j (some x)) vs = wipe σ vs)
    (ht : ∀ x t, t ∈ ts → ∀ H1, Same H H1 → S1 K H1 x t → ∀ R : Bool → Hp → Prop, (∀ H2, Same H1 H2 → R (p t) H2) → tt ((wipe σ vs).set j (some x)) H1 R)
    (he : ∀ x t, t ∈ ts → p t = true → ∀ H1, Same H H1 → S1 K H1 x t → ∀ R : VK, (∀ v H2, Same H1 H2 → S1 K H2 v (g t) → R v H2) → te ((wipe σ vs).set j (some x)) H1 R)
    (q : ∀ D ws H', H D = none → Same H H' → H' D = some (.lst ws) → Paired (S1 K H') ws ((ts.filter p).map g) → Q (.ref D) H') : tLc (iList K tl) (gName j) tt te vs σ H Q := by
  have hlen := prd_len hp
  refine hl _ ⟨F, rfl, ⟨us, sl_ hF⟩, fun D nD => ?_⟩
  refine lc_list (K := K) (a := F) (xs := us) (fun i H' => Same H H' ∧ ∃ ws, H' D = some (.lst ws) ∧ Paired (S1 K H') ws (((ts.take i).filter p).map g)) ⟨same_upd nD, [], upd_same, .nil⟩ (fun i H' _ z => sl_ (z.1 _ _ hF)) (fun i x H' hi z => ⟨hj x, ?_⟩) fun H' z => ?_
  · obtain ⟨e2, ws, hw, hpw⟩ := z
    obtain ⟨t, ht', hx⟩ := prd_getL hp hi
    have htm : t ∈ ts := List.mem_of_getElem? ht'
    have hwl := prd_len hpw
    have hfl := List.length_filter_le p (ts.take i)
    have hil := (List.getElem?_eq_some_iff.mp hi).1
    rw [List.length_map] at hwl
    rw [List.length_take] at hfl
    refine ht x t htm H' e2 (hx.same e2) _ fun H2 e3 => ?_
    rw [take_snoc ht', List.filter_append, List.map_append]
    by_cases h : p t = true
    · rw [if_pos h]
      refine he x t htm h H2 (e2.trans e3) (hx.same (e2.trans e3)) _ fun v H3 e4 hv => ⟨ws, e4 _ _ (e3 _ _ hw), big (by omega), same_mut ((e2.trans e3).trans e4) nD, ws ++ [v], upd_same, ?_⟩
      have f2 : Fx H3 (upd H3 D (.lst (ws ++ [v]))) := Fx.mut (e4 _ _ (e3 _ _ hw))
      rw [List.filter_cons_of_pos h]
      exact prd_app (f2.s1s (prd_mono (fun _ _ z => z.same (e3.trans e4)) hpw)) (.cons (f2.s1 hv) .nil)
    · rw [if_neg h]
      refine ⟨e2.trans e3, ws, e3 _ _ hw, ?_⟩
      rw [List.filter_cons_of_neg h]
      simpa using prd_mono (fun _ _ z => S1.same e3 z) hpw
  · obtain ⟨e2, ws, hw, hpw⟩ := z
    rw [hlen, List.take_length] at hpw
    exact q D ws H' nD e2 hw hpw
end
end Cb
namespace K18
open PySem PySem.Spec PyProof.Rows L2 PySem.W Cb Evl
/-- how many sets of a size -/
def bin : Nat → Nat → Nat
  | _, 0 => 1
  | 0, _ + 1 => 0
  | n + 1, m + 1 => bin n (m + 1) + bin n m
/-- sets of at most m of the first i people -/
structure So (i m : Nat) (ns : List Str) (f : List (List Str)) : Prop where
  each : ∀ t ∈ f, t.length ≤ m ∧ ∀ n ∈ t, n ∈ ns
  num : ∀ j, j ≤ m → (f.filter fun t => decide (t.length = j)).length = bin i j
  few : f.length ≤ 2 ^ i
theorem so0 (m : Nat) (ns : List Str) : So 0 m ns [[]] := by
  refine ⟨fun t h => ?_, fun j hj => ?_, Nat.le_refl _⟩
  · rw [List.mem_singleton.mp h]
    exact ⟨Nat.zero_le _, fun n z => absurd z (by simp)⟩
  · cases j with
    | zero => rfl
    | succ j => rfl
def addN (n : Str) (t : List Str) : List Str := t ++ [n]
theorem So.step {i m : Nat} {ns : List Str} {f : List (List Str)} {n : Str} (h : So i m ns f) (hn : n ∈ ns) : So (i + 1) m ns (f ++ (f.filter fun t => decide (t.length < m)).map (addN n)) := by
  refine ⟨fun t ht => ?_, fun j hj => ?_, ?_⟩
  · rcases List.mem_append.mp ht with ht | ht
    · exact h.each t ht
    · obtain ⟨u, hu, rfl⟩ := List.mem_map.mp ht
      obtain ⟨hu, lt⟩ := List.mem_filter.mp hu
      have lt := of_decide_eq_true lt
      refine ⟨by unfold addN; simp; omega, fun x hx => ?_⟩
      rcases List.mem_append.mp hx with hx | hx
      · exact (h.each u hu).2 x hx
      · rw [List.mem_singleton.mp hx]
        exact hn
  · rw [List.filter_append, List.length_append, h.num j hj, List.filter_map, List.length_map, List.filter_filter]
    cases j with
    | zero =>
      have e : (f.filter fun t => (decide ((addN n t).length = 0) && decide (t.length < m))) = [] := by
        rw [List.filter_eq_nil_iff]
        intro t _
        unfold addN
        simp
      show bin i 0 + (f.filter fun t => (decide ((addN n t).length = 0) && decide (t.length < m))).length = bin (i + 1) 0
      rw [e]
      cases i <;> rfl
    | succ j =>
      have e : (f.filter fun t => (decide ((addN n t).length = j + 1) && decide (t.length < m))) = f.filter fun t => decide (t.length = j) := by
        refine List.filter_congr fun t _ => ?_
        unfold addN
        rw [List.length_append]
        by_cases c : t.length = j
        · have : t.length < m := by omega
          simp [c]
          omega
        · simp [c]
      show bin i (j + 1) + (f.filter fun t => (decide ((addN n t).length = j + 1) && decide (t.length < m))).length = bin (i + 1) (j + 1)
      rw [e, h.num j (by omega)]
      rfl
  · have h1 := h.few
    have h2 := List.length_filter_le (fun t : List Str => decide (t.length < m)) f
    rw [List.length_append, List.length_map, Nat.pow_succ]
    omega
section
variable {P : Program} {w : World} {K : Frag} {mg : Str → Option Value} {base : Heap}
/-! ### the sets of a size -/
abbrev s_sets : Stmt := top 23
abbrev N_sets : List Str := ["_law_names", "_law_size", "_law_found", "_law_name", "_law_some"]
theorem sc_sets : FnScope N_sets ["_law_names", "_law_size"] (defScope s_sets) := ⟨rfl, rfl, rfl, by decide +kernel, rfl, by decide +kernel, by decide +kernel⟩
def sp_sets (K : Frag) : Sp := fun vs H Q _ => ∃ (l : Addr) (ns : List Str) (m : Nat), vs = [.ref l, .int m] ∧ H l = some (.lst (ns.map V.str)) ∧ ns.length ≤ 8 ∧ 1 ≤ m ∧ m ≤ 8 ∧ 0 < bin ns.length m ∧ bin ns.length m < 64 ∧ (∀ n ∈ ns, n ∈ pool) ∧
  ∀ F us f H', Same H H' → H F = none → H' F = some (.lst us) → Paired (S1 K H') us f → f.length < 64 → f ≠ [] → (∀ t ∈ f, Pt t) → Q (.ref F) H'
theorem ok_sets {f : Addr} {fd : FuncData} {k : Nat} (F : Fun K "_law_sets_of" "_law_sets_of" s_sets f fd) (B : Blt mg) : FnOk P w K mg base CX0 (k + 1) f fd ["_law_names", "_law_size"] (sp_sets K) := by
  refine F.ok sc_sets (fun vs H Q E h => ?_) (fun cdv A outer s H vs Q E hr h => ?_)
  · obtain ⟨_, _, _, rfl, _⟩ := h
    rfl
  · obtain ⟨l, ns, m, rfl, hl, n8, m1, m8, b1, b2, inp, q⟩ := h
    refine ⟨_, (pss_cons (ps_set (i := 2) sc_sets.nd rfl (Or.inl rfl) (pe_lst (pa_cons (pe_tup pa_nil) pa_nil)))
      (pss_cons (ps_for PassesOwn.never rfl (p_list K (pv 0)) (pg_name (i := 3) sc_sets.nd rfl (Or.inr rfl))
      (pss_one (ps_set (i := 2) sc_sets.nd rfl (Or.inl rfl) (pe_op op_cat (pv 2) (pe_lc (own := [("_law_some", 4)]) (g := gName 4) rfl sc_sets.nd (p_list K (pv 2)) (blkOk_by (own := [("_law_some", 4)]) (N := N_sets) (sc := defScope s_sets) (by decide +kernel)) (fun _ _ _ _ _ => (pg_name (i := 4) sc_sets.nd rfl (Or.inl rfl))) (fun _ _ _ _ _ => (pts_one (pt_cmpR op_lt (pe_callB (c_len K) (by rfl) B.len (by decide +kernel) (pa_cons (pv 4) pa_nil)) (pv 1) (nomark _)))) (fun _ _ _ _ _ => (pe_op (o_catA K) (pv 4) (pe_tup (pa_cons (pv 3) pa_nil)))))))))
      (pss_one (ps_ret (pe_lc (own := [("_law_some", 4)]) (g := gName 4) rfl sc_sets.nd (p_list K (pv 2)) (blkOk_by (own := [("_law_some", 4)]) (N := N_sets) (sc := defScope s_sets) (by decide +kernel)) (fun _ _ _ _ _ => (pg_name (i := 4) sc_sets.nd rfl (Or.inl rfl))) (fun _ _ _ _ _ => (pts_one (pt_cmpR op_eq (pe_callB (c_len K) (by rfl) B.len (by decide +kernel) (pa_cons (pv 4) pa_nil)) (pv 1) (nomark _)))) (fun _ _ _ _ _ => (pv 4))))))), ?_⟩
    refine sq_set ⟨Nat.zero_le _, fun p np => ⟨(by decide : 1 ≤ sizeLine), fun F0 nF => ?_⟩⟩
    have s2 := (same_upd (o := .tup []) np).trans (same_upd (o := .lst [.ref p]) nF)
    have nF0 : H F0 = none := (same_upd np).free nF
    refine sq_for ?_
    refine ⟨_, rfl, l, rfl, ⟨_, sl_ (s2 _ _ hl)⟩, for_list (xs := ns.map V.str) (fun i σ' H' => ∃ (v3 : Option V) (F' : Addr) (us : List V) (f : List (List Str)), σ' = [some (.ref l), some (.int m), some (.ref F'), v3, none] ∧ Same H H' ∧ H F' = none ∧ H' F' = some (.lst us) ∧ Paired (S1 K H') us f ∧ So i m ns f)
      ⟨none, F0, [.ref p], [[]], rfl, s2, nF0, upd_same, .cons ⟨p, rfl, st_ (same_upd nF _ _ upd_same)⟩ .nil, so0 m ns⟩ (fun i σ' H2 _ z => ?_) (fun i x σ' H2 hi z => ?_) fun σ' H2 z => ?_⟩
    · obtain ⟨_, _, _, _, _, e, _⟩ := z
      exact sl_ (e _ _ hl)
    · obtain ⟨v3, F', us, f, rfl, e2, nF', hF, hp, hs⟩ := z
      rw [List.getElem?_map] at hi
      obtain ⟨n, hi2, rfl⟩ := Option.map_eq_some_iff.mp hi
      have hnm := List.mem_of_getElem? hi2
      have hil := (List.getElem?_eq_some_iff.mp hi2).1
      have hul := prd_len hp
      have hfl := hs.few
      have h8 : 2 ^ i ≤ 2 ^ 8 := Nat.pow_le_pow_right (by decide) (by omega)
      refine ⟨_, rfl, ?_⟩
      refine lcL_fm (K := K) (tl := tVar 2) (j := 4) (vs := [4]) (te := tOp (rCatA K) (tVar 4) (tTup (tCons (tVar 3) tNil))) (us := us) (ts := f) (σ := [some (.ref l), some (.int m), some (.ref F'), some (.str n), none]) (fun t => decide (t.length < m)) (addN n) (fun R hR => ⟨_, rfl, hR⟩) hF hp (by omega) (fun _ => rfl) (fun x t ht H3 e3 hx R hR => ?_) (fun x t ht _ H3 e3 hx R hR => ?_) fun D ws H3 nD e3 hD hp3 => ?_
      · obtain ⟨ax, rfl, hx⟩ := hx
        refine ⟨_, rfl, ax, _, rfl, .inr hx, _, rfl, _, _, rfl, rfl, _, rfl, ?_⟩
        have e2 : decide (((t.map V.str).length : Int) < (m : Int)) = decide (t.length < m) := by
          rw [List.length_map]
          by_cases c : t.length < m
          · rw [decide_eq_true c]
            exact decide_eq_true (by omega)
          · rw [decide_eq_false c]
            exact decide_eq_false (by omega)
        rw [e2]
        exact hR _ (Same.refl _)
      · obtain ⟨ax, rfl, hx⟩ := hx
        have tl := (hs.each t ht).1
        refine ⟨_, rfl, _, rfl, (by decide : 1 ≤ sizeLine), fun l5 nl5 => ?_⟩
        refine cat_names (xs := t) (ys := [n]) (sameT (same_upd nl5) hx) (st_ upd_same) (by simp; omega) fun z H4 e4 hz => hR _ _ ((same_upd nl5).trans e4) ⟨z, rfl, hz⟩
      · have hwl := prd_len hp3
        have hfl2 := List.length_filter_le (fun t : List Str => decide (t.length < m)) f
        rw [List.length_map] at hwl
        refine ⟨F', D, us, ws, rfl, rfl, e3 _ _ hF, hD, Nat.le_of_lt (big (by omega)), fun z nz => ?_⟩
        have s4 := same_upd (o := .lst (us ++ ws)) nz
        exact ⟨some (.str n), z, us ++ ws, _, rfl, (e2.trans e3).trans s4, (e2.trans e3).free nz, upd_same, prd_app (prd_mono (fun _ _ z => z.same (e3.trans s4)) hp) (prd_mono (fun _ _ z => z.same s4) hp3), hs.step hnm⟩
    · obtain ⟨v3, F', us, f, rfl, e2, nF', hF, hp, hs⟩ := z
      rw [List.length_map] at hs
      have hul := prd_len hp
      have hfl := hs.few
      have h8 : 2 ^ ns.length ≤ 2 ^ 8 := Nat.pow_le_pow_right (by decide) n8
      have hnum := hs.num m (Nat.le_refl _)
      unfold tRet
      refine lcL_pair (K := K) (tl := tVar 2) (j := 4) (vs := [4]) (σ := [some (.ref l), some (.int m), some (.ref F'), v3, none]) (H := H2) (F := S1 K) (fun _ _ _ _ e z => z.same e) f (fun t => decide (t.length = m)) (fun R hR => ⟨_, rfl, hR F' H2 us (Same.refl _) (sl_ hF) hp⟩) (by omega) (fun _ => rfl) (fun _ => rfl) (fun x t ht H3 e3 hx R hR => ?_) fun L ws H3 nL e3 hL hw => ?_
      · obtain ⟨ax, rfl, hx⟩ := hx
        refine ⟨_, rfl, ax, _, rfl, .inr hx, _, rfl, rfl, _, rfl, ?_⟩
        have e4 : decide (V.int ((t.map V.str).length : Int) = V.int (m : Int)) = decide (t.length = m) := by
          rw [List.length_map]
          by_cases c : t.length = m
          · rw [decide_eq_true c, c]
            simp
          · rw [decide_eq_false c]
            refine decide_eq_false fun e => ?_
            injection e with e
            omega
        rw [e4]
        exact hR _ (Same.refl _)
      · refine q L ws _ H3 (e2.trans e3) (e2.free nL) hL hw (by omega) (fun e => ?_) fun t ht => ?_
        · rw [e] at hnum
          simp at hnum
          omega
        · obtain ⟨h1, h2⟩ := List.mem_filter.mp ht
          have h2 := of_decide_eq_true h2
          refine ⟨fun e => by rw [e] at h2; simp at h2; omega, by omega, fun n hn => inp n ((hs.each t h1).2 n hn)⟩
end
end K18

namespace K18
open PySem PySem.Spec PyProof.Rows L2 PySem.W Cb Evl
theorem sq_asg {te : TE} {g : TG} {rest : TS} {D : Ends} {σ : Stt} {H : Hp} (h : te σ H fun x H1 => g x σ H1 (rest D)) : tSeq (tAsg te g) rest D σ H := h
theorem nx_set {i : Nat} {te : TE} {rest : TS} {D : Ends} {rt : VK} {bk ct : Stt → Hp → Prop} {σ : Stt} {H : Hp} (h : te σ H fun x H1 => rest D (σ.set i (some x)) H1) : (Ends.mk (tSeq (tAsg te (gName i)) rest D) rt bk ct).nx σ H := h
theorem nx_asg {te : TE} {g : TG} {rest : TS} {D : Ends} {rt : VK} {bk ct : Stt → Hp → Prop} {σ : Stt} {H : Hp} (h : te σ H fun x H1 => g x σ H1 (rest D)) : (Ends.mk (tSeq (tAsg te g) rest D) rt bk ct).nx σ H := h
theorem bin_ok : ∀ n : Fin 9, ∀ m : Fin 9, 1 ≤ n.val → (m.val = 1 ∨ (m.val = n.val - 1 ∧ m.val ≠ 0) ∨ m.val = min 2 n.val) → 1 ≤ m.val ∧ 0 < bin n.val m.val ∧ bin n.val m.val < 64 := by decide +kernel
/-- the first so many names -/
theorem cut_names {n k : Nat} (ns : List Str) (h : k ≤ ns.length) : ∃ ms : List Str, cutV (ns.map V.str) none (some (k : Int)) = ms.map V.str ∧ ms.length = k ∧ ∀ x ∈ ms, x ∈ ns := by
  refine ⟨(ns.drop 0).take (min k ns.length - 0), ?_, ?_, fun x hx => List.mem_of_mem_drop (List.mem_of_mem_take hx)⟩
  · unfold cutV
    rw [HT.sIx_none, HT.sIx_nat, List.map_take, List.map_drop, List.length_map]
  · rw [List.length_take, List.length_drop]
    omega
section
variable {P : Program} {w : World} {K : Frag} {mg : Str → Option Value} {base : Heap}
/-! ### drawn crews -/
abbrev s_teams : Stmt := top 24
abbrev N_teams : List Str := ["_law_feed_here", "_law_most", "_law_pool", "_law_sets", "_law_wide_here", "_law_k", "_law_some", "_law_name"]
theorem sc_teams : FnScope N_teams ["_law_feed_here", "_law_most"] (defScope s_teams) := ⟨rfl, rfl, rfl, by decide +kernel, rfl, by decide +kernel, by decide +kernel⟩
def sp_teams (K : Frag) : Sp := fun vs H Q _ => ∃ (r c : Addr) (d : Int), vs = [.ref r, .int 8] ∧ d ≤ 500000 ∧ Fd H r c d ∧ ∀ v ts H', Cl r H H' → Fd H' r c (d + 200) → S2 K H' v ts → ts ≠ [] → ts.length ≤ 12 → (∀ t ∈ ts, Pt t) → Q v H'
theorem ok_teams {f : Addr} {fd : FuncData} {k : Nat} (F : Fun K "_law_teams" "_law_teams" s_teams f fd) (B : Blt mg) (D__law_draw : Own P w K mg base 1 "_law_draw" ["_law_feed_here", "_law_limit"] sp_draw) (D__law_choice : Own P w K mg base 2 "_law_choice" ["_law_feed_here", "_law_some"] (sp_choiceL K))
    (D__law_minimal : Own P w K mg base 2 "_law_minimal" ["_law_sets"] (sp_min K)) (D__law_sets_of : Own P w K mg base 1 "_law_sets_of" ["_law_names", "_law_size"] (sp_sets K)) : FnOk P w K mg base CX0 (k + 3) f fd ["_law_feed_here", "_law_most"] (sp_teams K) := by
  refine F.ok sc_teams (fun vs H Q E h => ?_) (fun cdv A outer s H vs Q E hr h => ?_)
  · obtain ⟨_, _, _, rfl, _⟩ := h
    rfl
  · obtain ⟨r, c, d, rfl, hd, hR, q⟩ := h
    have hr1 : Room 1 _ := hr.mono (by omega)
    have hr2 : Room 2 _ := hr.mono (by omega)
    refine ⟨_, (pss_cons (ps_set (i := 2) sc_teams.nd rfl (Or.inl rfl) (pe_lst (pa_cons pe_str (pa_cons pe_str (pa_cons pe_str (pa_cons pe_str (pa_cons pe_str (pa_cons pe_str (pa_cons pe_str (pa_cons pe_str pa_nil))))))))))
      (pss_cons (ps_while PassesOwn.never (pt_cmpR op_gt (pe_callB (c_len K) (by rfl) B.len (by decide +kernel) (pa_cons (pv 2) pa_nil)) (pv 1) (nomark _))
      (pss_one (ps_expr (pe_bm PySem.F.plainAttrs_list PySem.F.slot_list_pop PySem.F.type_list_pop mt_popAt (pv 2) (pa_cons (pe_call D__law_draw.G hr1 rfl D__law_draw.m D__law_draw.kp D__law_draw.b .nil pass0 (pa_cons (pv 0) (pa_cons (pe_callB (c_len K) (by rfl) B.len (by decide +kernel) (pa_cons (pv 2) pa_nil)) pa_nil))) pa_nil)))))
      (pss_cons (ps_set (i := 2) sc_teams.nd rfl (Or.inl rfl) (pe_slice (s_list K) (pv 2) po_none (po_some (pe_op op_add pe_int (pe_call D__law_draw.G hr1 rfl D__law_draw.m D__law_draw.kp D__law_draw.b .nil pass0 (pa_cons (pv 0) (pa_cons (pv 1) pa_nil)))))))
      (pss_cons (ps_if (pt_cmpR op_eq (pe_call D__law_draw.G hr1 rfl D__law_draw.m D__law_draw.kp D__law_draw.b .nil pass0 (pa_cons (pv 0) (pa_cons pe_int pa_nil))) pe_int (nomark _)) (pss_one (ps_ret (pe_call D__law_minimal.G hr2 rfl D__law_minimal.m D__law_minimal.kp D__law_minimal.b .nil pass0 (pa_cons (pe_call D__law_sets_of.G hr1 rfl D__law_sets_of.m D__law_sets_of.kp D__law_sets_of.b .nil pass0 (pa_cons (pv 2) (pa_cons (pe_mid (pe_orT (pe_call D__law_choice.G hr2 rfl D__law_choice.m D__law_choice.kp D__law_choice.b .nil pass0 (pa_cons (pv 0) (pa_cons (pe_lst (pa_cons pe_int (pa_cons (pe_op op_sub (pe_callB (c_len K) (by rfl) B.len (by decide +kernel) (pa_cons (pv 2) pa_nil)) pe_int) (pa_cons (pe_callB (call_min2 rfl) (by rfl) B.min (by decide +kernel) (pa_cons pe_int (pa_cons (pe_callB (c_len K) (by rfl) B.len (by decide +kernel) (pa_cons (pv 2) pa_nil)) pa_nil))) pa_nil)))) pa_nil))) (pe_one pe_int))) pa_nil))) pa_nil)))) pss_nil)
      (pss_cons (ps_asg (pe_tup (pa_cons (pe_lst pa_nil) (pa_cons (pe_op op_add pe_int (pe_call D__law_draw.G hr1 rfl D__law_draw.m D__law_draw.kp D__law_draw.b .nil pass0 (pa_cons (pv 0) (pa_cons pe_int pa_nil)))) pa_nil))) (show PG _ _ (gTup K 2 _) from pg_tup rfl (pgs_cons (pg_name (i := 3) sc_teams.nd rfl (Or.inl rfl)) (pgs_cons (pg_name (i := 4) sc_teams.nd rfl (Or.inr rfl)) pgs_nil))))
      (pss_cons (ps_for PassesOwn.never rfl (pi_range1 rfl B.range (pa_cons (pe_op op_add pe_int (pe_call D__law_draw.G hr1 rfl D__law_draw.m D__law_draw.kp D__law_draw.b .nil pass0 (pa_cons (pv 0) (pa_cons pe_int pa_nil)))) pa_nil)) (pg_name (i := 5) sc_teams.nd rfl (Or.inl rfl))
      (pss_cons (ps_setLc (i := 6) (own := [("_law_name", 7)]) (g := gName 7) rfl sc_teams.nd rfl rfl (sw_true rfl rfl rfl (by decide +kernel)) (p_list K (pv 2)) (blkOk_by (own := [("_law_name", 7)]) (N := N_teams) (sc := defScope s_teams) (by decide +kernel)) (fun _ _ _ _ _ => (pg_name (i := 7) sc_teams.nd rfl (Or.inl rfl))) (fun _ _ _ _ _ => (pts_one (pt_cmpR op_eq (pe_call D__law_draw.G hr1 rfl D__law_draw.m D__law_draw.kp D__law_draw.b .nil pass0 (pa_cons (pv 0) (pa_cons (pe_op op_add pe_int (pv 4)) pa_nil))) pe_int (nomark _)))) (fun _ _ _ _ _ => (pv 7)))
      (pss_one (ps_expr (pe_bm PySem.F.plainAttrs_list PySem.F.slot_list_append PySem.F.type_list_append mt_append (pv 3) (pa_cons (pe_mid (pe_callTy (c_tuple K) (by rfl) B.tuple (by decide +kernel) (pa_cons (pe_ifExp (pt_cmpR (o_neD K hr.units) (pv 6) (pe_lst pa_nil) (nomark _)) (pv 6) (pe_slice (s_list K) (pv 2) po_none (po_some pe_int))) pa_nil))) pa_nil))))))
      (pss_one (ps_ret (pe_call D__law_minimal.G hr2 rfl D__law_minimal.m D__law_minimal.kp D__law_minimal.b .nil pass0 (pa_cons (pv 3) pa_nil)))))))))), ?_⟩
    -- the pool
    refine sq_set ⟨(by decide : 8 ≤ sizeLine), fun p np => ?_⟩
    have e1 : Same H (upd H p (.lst (pool.map V.str))) := same_upd np
    have hp1 : (upd H p (.lst (pool.map V.str))) p = some (.lst (pool.map V.str)) := upd_same
    have g1 := hR.same e1
    refine sq_while ?_
    refine ⟨fun n σ' H' => σ' = [some (.ref r), some (.int 8), some (.ref p), none, none, none, none, none] ∧ H' = upd H p (.lst (pool.map V.str)), ⟨0, rfl, rfl⟩, ?_⟩
    rintro n σ' H' ⟨rfl, rfl⟩
    refine ⟨_, rfl, p, _, rfl, .inl (sl_ hp1), _, rfl, _, _, rfl, rfl, _, rfl, ite2 (fun h => absurd h (by decide)) fun _ => ?_⟩
    generalize upd H p (.lst (pool.map V.str)) = H1 at e1 hp1 g1
    -- its first ones
    have pr : p ≠ r := hR.ne np
    refine nx_set ⟨_, rfl, ?_⟩
    unfold tNoPart
    refine ⟨_, rfl, _, rfl, r, c, 8, d, rfl, by decide, by decide, by omega, g1, fun z H2 c2 g2 z0 z1 => ⟨_, _, rfl, rfl, _, rfl, p, pool.map V.str, rfl, sl_ (c2.lst pr hp1), fun p2 np2 => ?_⟩⟩
    obtain ⟨j, rfl⟩ : ∃ j : Nat, z = (j : Int) := ⟨z.toNat, by omega⟩
    obtain ⟨ns, ens, nlen, nin⟩ := cut_names (n := 8) (k := 1 + j) pool (by show 1 + j ≤ 8; omega)
    rw [show (1 : Int) + (j : Int) = ((1 + j : Nat) : Int) by omega, ens]
    have p2r : p2 ≠ r := g2.ne np2
    have cA : Cl r H H2 := (Cl.of e1).trans c2
    have np2H : H p2 = none := cA.free np2
    have cB : Cl r H (upd H2 p2 (.lst (ns.map V.str))) := cA.upd np2H
    have gB : Fd (upd H2 p2 (.lst (ns.map V.str))) r c (d + 1) := g2.mut np2 g2
    have hB : (upd H2 p2 (.lst (ns.map V.str))) p2 = some (.lst (ns.map V.str)) := upd_same
    generalize upd H2 p2 (.lst (ns.map V.str)) = H3 at cB gB hB ⊢
    have nsok : ∀ x ∈ ns, okS x := fun x hx => pool_ok x (nin x hx)
    -- if draw(4) == 0
    refine ⟨_, rfl, r, c, 4, d + 1, rfl, by decide, by decide, by omega, gB, fun z4 H4 c4 g4 z40 z41 => ⟨rfl, _, rfl, ite2 (fun _ => ?_) (fun _ => ?_)⟩⟩
    · have hB4 := c4.lst p2r hB
      have cC := cB.trans c4
      have lenS : ((ns.map V.str).length : Int) = ((1 + j : Nat) : Int) := by rw [List.length_map, nlen]
      refine ⟨_, rfl, fun v H' => ∃ m : Nat, v = .int m ∧ Cl r H4 H' ∧ Fd H' r c (d + 3) ∧ 1 ≤ m ∧ m ≤ 8 ∧ 0 < bin ns.length m ∧ bin ns.length m < 64, ?_, ?_⟩
      · refine ⟨_, rfl, _, rfl, p2, _, rfl, .inl (sl_ hB4), _, _, rfl, rfl, _, rfl, p2, _, rfl, .inl (sl_ hB4), _, _, rfl, (by decide : 3 ≤ sizeLine), fun l4 nl4 => ⟨r, c, l4, d + 2, _, rfl, upd_same, g4.ne nl4, by simp, (by show 3 ≤ 1000; decide), by omega, (g4.le (by omega)).mut nl4 g4, fun i x H5 c5 g5 hi => ?_⟩⟩
        have c6 : Cl r H4 H5 := (Cl.new nl4).trans c5
        have key : ∀ m : Nat, (m = 1 ∨ (m = ns.length - 1 ∧ m ≠ 0) ∨ m = min 2 ns.length) → m ≤ 8 → 1 ≤ m ∧ m ≤ 8 ∧ 0 < bin ns.length m ∧ bin ns.length m < 64 := fun m hm m8 => by
          have := bin_ok ⟨ns.length, by omega⟩ ⟨m, by omega⟩ (by show 1 ≤ ns.length; omega) hm
          exact ⟨this.1, m8, this.2⟩
        have one : ∀ m : Nat, x = .int m → (m = 0 ∨ m = 1 ∨ m = ns.length - 1 ∨ m = min 2 ns.length) → ∃ k, TruV K x H5 k ∧ if k = true then (∃ m : Nat, x = .int m ∧ Cl r H4 H5 ∧ Fd H5 r c (d + 3) ∧ 1 ≤ m ∧ m ≤ 8 ∧ 0 < bin ns.length m ∧ bin ns.length m < 64) else (∃ m : Nat, V.int 1 = .int m ∧ Cl r H4 H5 ∧ Fd H5 r c (d + 3) ∧ 1 ≤ m ∧ m ≤ 8 ∧ 0 < bin ns.length m ∧ bin ns.length m < 64) := fun m e hm => by
          subst e
          refine ⟨_, rfl, ?_⟩
          have g6 : Fd H5 r c (d + 3) := g5.le (by omega)
          by_cases m0 : m = 0
          · subst m0
            refine ite2 (fun h => absurd h (by decide)) fun _ => ⟨1, rfl, c6, g6, key 1 (.inl rfl) (by decide)⟩
          · refine ite2 (fun _ => ⟨m, rfl, c6, g6, key m ?_ (by omega)⟩) fun h => absurd (show ((m : Int) != 0) = true by simpa using m0) h
            rcases hm with z | z | z | z
            · exact absurd z m0
            · exact .inl z
            · exact .inr (.inl ⟨z, m0⟩)
            · exact .inr (.inr z)
        match i, hi with
        | 0, hi => exact one 1 (Option.some.inj hi).symm (.inr (.inl rfl))
        | 1, hi => exact one (ns.length - 1) ((Option.some.inj hi).symm.trans (by rw [lenS]; show V.int (((1 + j : Nat) : Int) - 1) = V.int ((ns.length - 1 : Nat) : Int); congr 1; omega)) (.inr (.inr (.inl rfl)))
        | 2, hi =>
          refine one (min 2 ns.length) ((Option.some.inj hi).symm.trans ?_) (.inr (.inr (.inr rfl)))
          rw [lenS]
          congr 1
          split <;> omega
        | i + 3, hi => exact absurd hi (by simp)
      · rintro v H5 ⟨m, rfl, c5, g5, m1, m8, b1, b2⟩
        have hB5 := c5.lst p2r hB4
        refine ⟨p2, ns, m, rfl, hB5, by omega, m1, m8, b1, b2, nin, fun F us f H6 e6 nF hF hp lt64 fne hpt => ?_⟩
        refine ⟨F, us, f, rfl, sl_ hF, hp, lt64, fne, hpt, fun v us2 H7 e7 h7 une u12 upt => ?_⟩
        exact q v us2 H7 (((cC.trans c5).trans (Cl.of e6)).trans (Cl.of e7)) (((g5.same e6).same e7).le (by omega)) h7 une u12 upt
    · -- sets, wide
      have hB4 := c4.lst p2r hB
      have cC := cB.trans c4
      refine nx_asg ⟨Nat.zero_le _, fun L nL => ⟨_, rfl, r, c, 3, d + 2, rfl, by decide, by decide, by omega, (g4.le (by omega)).mut nL g4, fun z5 H5 c5 g5 z50 z51 => ⟨_, _, rfl, rfl, (by decide : 2 ≤ sizeLine), fun tp ntp => ⟨tp, _, rfl, st_ upd_same, rfl, _, _, rfl, _, _, rfl, rfl, ?_⟩⟩⟩⟩
      have nLH : H L = none := cC.free nL
      have Lr : L ≠ r := g4.ne nL
      have Lp2 : p2 ≠ L := ne_of_none hB4 nL
      have cD : Cl r H (upd H5 tp (.tup [.ref L, .int (1 + z5)])) := ((cC.upd nLH).trans c5).upd (((cC.upd nLH).trans c5).free ntp)
      have gD : Fd (upd H5 tp (.tup [.ref L, .int (1 + z5)])) r c (d + 3) := (g5.le (by omega)).mut ntp g5
      have hLD : (upd H5 tp (.tup [.ref L, .int (1 + z5)])) L = some (.lst []) := same_upd ntp _ _ (c5.lst Lr upd_same)
      have hBD : (upd H5 tp (.tup [.ref L, .int (1 + z5)])) p2 = some (.lst (ns.map V.str)) := same_upd ntp _ _ (c5.lst p2r (by rw [upd_ne Lp2]; exact hB4))
      generalize upd H5 tp (.tup [.ref L, .int (1 + z5)]) = H6 at cD gD hLD hBD
      -- for k
      refine sq_for ?_
      refine ⟨_, rfl, r, c, 9, d + 3, rfl, by decide, by decide, by omega, gD, fun z7 H7 c7 g7 z70 z71 => ⟨_, _, rfl, rfl, 2 + z7, rfl, by omega, by omega, ?_⟩⟩
      have cE := cD.trans c7
      refine for_range (lo := 0) (n := (2 + z7).toNat) (fun i σ' H' => ∃ (v5 v6 v7 : Option V) (us : List V) (ts : List (List Str)), σ' = [some (.ref r), some (.int 8), some (.ref p2), some (.ref L), some (.int (1 + z5)), v5, v6, v7] ∧ Cl r H H' ∧ Fd H' r c (d + 4 + 10 * i) ∧
        H' p2 = some (.lst (ns.map V.str)) ∧ H' L = some (.lst us) ∧ Paired (S1 K H') us ts ∧ us.length = i ∧ (∀ t ∈ ts, Pt t))
        ⟨none, none, none, [], [], rfl, cE, g7.le (by omega), c7.lst p2r hBD, c7.lst Lr hLD, .nil, rfl, fun _ z => absurd z (by simp)⟩ (fun i σ' H8 hi z => ?_) fun σ' H8 z => ?_
      · obtain ⟨v5, v6, v7, us, ts, rfl, k1, k2, k3, k4, k5, k6, k7⟩ := z
        have hi9 : i < 11 := by omega
        have pl8 : ns.length ≤ 8 := by omega
        -- some
        refine sq_set ⟨_, rfl, p2, rfl, ⟨_, sl_ k3⟩, fun S nS => ?_⟩
        have nSH : H S = none := k1.free nS
        have Sr : S ≠ r := k2.ne nS
        have Sp2 : p2 ≠ S := ne_of_none k3 nS
        have SL : L ≠ S := ne_of_none k4 nS
        have hms : ∀ Qd : Hp → Prop, (∀ (H9 : Hp) (ms : List Str), Cl r H8 H9 → Fd H9 r c (d + 4 + 10 * i + 8) → H9 S = some (.lst (ms.map V.str)) → ms.length ≤ 8 → (∀ x ∈ ms, x ∈ ns) → Qd H9) → _ := fun Qd hq => lc_list (K := K) (a := p2) (xs := ns.map V.str) (g := gName 7) (vs := [7])
          (tt := tTest (tOp rEq (tCall sp_draw [] E0 (tCons (tVar 0) (tCons (tOp (rI0 fun i j => V.int (i + j)) (tC (V.int 1)) (tVar 4)) tNil))) (tC (V.int 0)))) (te := tVar 7)
          (σ := [some (.ref r), some (.int 8), some (.ref p2), some (.ref L), some (.int (1 + z5)), some (.int (0 + (i : Int))), v6, v7]) (H1 := H8) (D := S) (Qd := Qd)
          (fun n H' => Cl r H8 H' ∧ Fd H' r c (d + 4 + 10 * i + n) ∧ ∃ ms : List Str, H' S = some (.lst (ms.map V.str)) ∧ ms.length ≤ n ∧ ∀ x ∈ ms, x ∈ ns)
          ⟨Cl.new nS, (k2.mut nS k2).le (by omega), [], upd_same, Nat.le_refl _, fun x z => absurd z (by simp)⟩ (fun n H' _ z => sl_ (z.1.lst p2r k3)) (fun n x H' hn z => ⟨rfl, by
            obtain ⟨l1, l2, ms, l3, l4, l5⟩ := z
            rw [List.getElem?_map] at hn
            obtain ⟨nm, hnm, rfl⟩ := Option.map_eq_some_iff.mp hn
            have nlt := (List.getElem?_eq_some_iff.mp hnm).1
            refine ⟨_, rfl, _, rfl, _, _, rfl, rfl, r, c, 1 + (1 + z5), d + 4 + 10 * i + n, rfl, by omega, by omega, by omega, l2, fun z9 H9 c9 g9 z90 z91 => ⟨rfl, _, rfl, ite2 (fun _ => ?_) (fun _ => ?_)⟩⟩
            · have h9 := c9.lst Sr l3
              refine ⟨_, rfl, ms.map V.str, h9, big (by rw [List.length_map]; omega), (l1.trans c9).upd nS, (g9.le (by omega)).mut nS k2, ms ++ [nm], by rw [List.map_append]; exact upd_same, by simp; omega, fun x hx => ?_⟩
              rcases List.mem_append.mp hx with hx | hx
              · exact l5 x hx
              · rw [List.mem_singleton.mp hx]
                exact List.mem_of_getElem? hnm
            · exact ⟨l1.trans c9, g9.le (by omega), ms, c9.lst Sr l3, by omega, l5⟩⟩)
          (fun H9 z => by
            obtain ⟨l1, l2, ms, l3, l4, l5⟩ := z
            rw [List.length_map] at l2 l4
            exact hq H9 ms l1 (l2.le (by omega)) l3 (by omega) l5)
        refine hms _ fun H9 ms c9 g9 h9 m8 min_ => ?_
        have okm : ∀ n ∈ ms, okS n := fun n hn => nsok n (min_ n hn)
        have hL9 : H9 L = some (.lst us) := c9.lst Lr k4
        have hB9 : H9 p2 = some (.lst (ns.map V.str)) := c9.lst p2r k3
        refine ⟨_, rfl, .inl ⟨rfl, _, SqL.of hL9⟩, fun v H' => ∃ t, Same H9 H' ∧ S1 K H' v t ∧ Pt t, ⟨_, rfl, Nat.zero_le _, fun l9 nl9 => ⟨.list (ms.map .str), .list [], .lst (sl_ (same_upd nl9 _ _ h9)) (dpStrs _), .lst (sl_ upd_same) .nil, shaped_strs okm, shaped_nil, _, rfl, ?_⟩⟩, fun v H' ⟨t, e10, ht, pt⟩ => ⟨L, us, v, rfl, rfl, e10 _ _ hL9, big (by omega), ?_⟩⟩
        · rw [eqv_list_nil]
          refine ite2 (fun hne => ?_) (fun _ => ?_)
          · refine ⟨_, rfl, S, ms.map V.str, rfl, .inl ⟨sl_ (same_upd nl9 _ _ h9), fun l nl => ⟨ms, (same_upd nl9).trans (same_upd nl), ⟨l, rfl, st_ upd_same⟩, fun e => ?_, m8, fun n hn => nin n (min_ n hn)⟩⟩⟩
            rw [e] at hne
            exact absurd hne (by decide)
          · obtain ⟨m1, e1, l1, in1⟩ := cut_names (n := 8) (k := 1) ns (by omega)
            have e1 : cutV (ns.map V.str) none (some 1) = m1.map V.str := e1
            refine ⟨_, rfl, _, rfl, p2, ns.map V.str, rfl, sl_ (same_upd nl9 _ _ hB9), fun q1 nq1 => ⟨q1, m1.map V.str, rfl, .inl ⟨sl_ (by rw [e1]; exact upd_same), fun l nl => ⟨m1, ((same_upd nl9).trans (same_upd nq1)).trans (same_upd nl), ⟨l, rfl, st_ upd_same⟩, fun e => ?_, by omega, fun n hn => nin n (in1 n hn)⟩⟩⟩⟩
            rw [e] at l1
            exact absurd l1 (by decide)
        · have f8 : Fx H' (upd H' L (.lst (us ++ [v]))) := Fx.mut (e10 _ _ hL9)
          refine ⟨_, _, _, us ++ [v], ts ++ [t], rfl, ((k1.trans c9).trans (Cl.of e10)).upd nLH, ((g9.same e10).le (by omega)).mut nL g4, by rw [upd_ne Lp2]; exact e10 _ _ hB9, upd_same, prd_app (f8.s1s ((c9.trans (Cl.of e10)).s1s k5)) (.cons (f8.s1 ht) .nil), by simp; omega, fun u hu => ?_⟩
          rcases List.mem_append.mp hu with hu | hu
          · exact k7 u hu
          · rw [List.mem_singleton.mp hu]
            exact pt
      · obtain ⟨v5, v6, v7, us, ts, rfl, k1, k2, k3, k4, k5, k6, k7⟩ := z
        have tl := prd_len k5
        refine ⟨_, rfl, L, us, ts, rfl, sl_ k4, k5, by omega, fun e => ?_, k7, fun v us2 H9 e9 h9 une u12 upt => ?_⟩
        · rw [e] at tl
          have tl : us.length = 0 := tl
          omega
        · exact q v us2 H9 (k1.trans (Cl.of e9)) ((k2.same e9).le (by omega)) h9 une u12 upt
end
end K18

namespace K18
open PySem PySem.Spec PyProof.Rows L2 PySem.W Cb Evl
section
variable {K : Frag} {tl : TE} {j : Nat} {vs : List Nat} {σ : Stt} {H : Hp} {tt : TT} {r c : Addr} {d : Int} {ns : List Str} {Q : VK}
/-- [x for x in t if ..], t a tuple of texts, and the test draws -/
theorem lcT_drawX (Φ : List Str → Prop) (hl : ∀ R : VK, (∀ ns a H1, Φ ns → Cl r H H1 → Fd H1 r c d → SqT K H1 a (ns.map V.str) → R (.ref a) H1) → tl σ H R)
    (hj : ∀ x, wipe ((wipe σ vs).set j (some x)) vs = wipe σ vs) (hv : ∀ x, ((wipe σ vs).set j (some x))[j]? = some (some x)) (hn : ∀ ns, Φ ns → ns.length ≤ 1000)
    (ht : ∀ (s : Str) H1 (e : Int), Cl r H H1 → Fd H1 r c e → e ≤ d + 1000 → ∀ R : Bool → Hp → Prop, (∀ b H2, Cl r H1 H2 → Fd H2 r c (e + 1) → R b H2) → tt ((wipe σ vs).set j (some (.str s))) H1 R)
    (q : ∀ (ns : List Str) (L : Addr) (ms : List Str) (H' : Hp), Φ ns → H L = none → Cl r H H' → Fd H' r c (d + ns.length) → L ≠ r → H' L = some (.lst (ms.map V.str)) → ms.length ≤ ns.length → (∀ x ∈ ms, x ∈ ns) → Q (.ref L) H') : tLc (iTup K tl) (gName j) tt (tVar j) vs σ H Q := by
  refine hl _ fun ns a H1 φ c1 g1 hs => ⟨a, rfl, ⟨_, hs⟩, fun L nL => ?_⟩
  have hn := hn ns φ
  have Lr : L ≠ r := g1.ne nL
  refine lc_tup (K := K) (a := a) (xs := ns.map V.str) (fun n H' => Cl r H1 H' ∧ Fd H' r c (d + n) ∧ ∃ ms : List Str, H' L = some (.lst (ms.map V.str)) ∧ ms.length ≤ n ∧ ∀ x ∈ ms, x ∈ ns)
    ⟨Cl.new nL, (g1.mut nL g1).le (by omega), [], upd_same, Nat.le_refl _, fun x z => absurd z (by simp)⟩ (fun n H' _ z => z.1.sqT hs) (fun n x H' hn2 z => ⟨hj x, ?_⟩) fun H' z => ?_
  · obtain ⟨l1, l2, ms, l3, l4, l5⟩ := z
    rw [List.getElem?_map] at hn2
    obtain ⟨nm, hnm, rfl⟩ := Option.map_eq_some_iff.mp hn2
    have nlt := (List.getElem?_eq_some_iff.mp hnm).1
    refine ht nm H' _ (c1.trans l1) l2 (by omega) _ fun b H2 c2 g2 => ?_
    have h2 := c2.lst Lr l3
    cases b with
    | true =>
      refine ⟨.str nm, hv _, ms.map V.str, h2, big (by rw [List.length_map]; omega), (l1.trans c2).upd nL, (g2.le (by omega)).mut nL g1, ms ++ [nm], by rw [List.map_append]; exact upd_same, by simp; omega, fun x hx => ?_⟩
      rcases List.mem_append.mp hx with hx | hx
      · exact l5 x hx
      · rw [List.mem_singleton.mp hx]
        exact List.mem_of_getElem? hnm
    | false => exact ⟨l1.trans c2, g2.le (by omega), ms, h2, by omega, l5⟩
  · obtain ⟨l1, l2, ms, l3, l4, l5⟩ := z
    rw [List.length_map] at l2 l4
    exact q ns L ms H' φ (c1.free nL) (c1.trans l1) l2 Lr l3 l4 l5
end
section
variable {P : Program} {w : World} {K : Frag} {mg : Str → Option Value} {base : Heap}
/-! ### the crews left in people -/
abbrev s_left : Stmt := top 26
abbrev N_left : List Str := ["_law_teams_here", "_law_here", "_law_team"]
theorem sc_left : FnScope N_left ["_law_teams_here", "_law_here"] (defScope s_left) := ⟨rfl, rfl, rfl, by decide +kernel, rfl, by decide +kernel, by decide +kernel⟩
def sp_left (K : Frag) : Sp := fun vs H Q _ => ∃ (x y : V) (ts : List (List Str)) (ps : List Str), vs = [x, y] ∧ S2 K H x ts ∧ S1 K H y ps ∧ Gt ts ∧ ∀ v H', Same H H' → S2 K H' v (left ts ps) → Q v H'
theorem ok_left {f : Addr} {fd : FuncData} {k : Nat} (F : Fun K "_law_left" "_law_left" s_left f fd) (B : Blt mg) (D__law_is_part : Own P w K mg base 1 "_law_is_part" ["_law_some", "_law_others"] (sp_part K)) : FnOk P w K mg base CX0 (k + 2) f fd ["_law_teams_here", "_law_here"] (sp_left K) := by
  refine F.ok sc_left (fun vs H Q E h => ?_) (fun cdv A outer s H vs Q E hr h => ?_)
  · obtain ⟨_, _, _, _, rfl, _⟩ := h
    rfl
  · obtain ⟨x, y, ts, ps, rfl, ⟨a, us, rfl, ha, hp⟩, hy, gt, q⟩ := h
    have hr1 : Room 1 _ := hr.mono (by omega)
    refine ⟨_, (pss_one (ps_ret (pe_callTy (c_tuple K) (by rfl) B.tuple (by decide +kernel) (pa_cons (pe_lc (own := [("_law_team", 2)]) (g := gName 2) rfl sc_left.nd (p_tup K (pv 0)) (blkOk_by (own := [("_law_team", 2)]) (N := N_left) (sc := defScope s_left) (by decide +kernel)) (fun _ _ _ _ _ => (pg_name (i := 2) sc_left.nd rfl (Or.inl rfl))) (fun _ _ _ _ _ => (pts_one (pt_val (pe_call D__law_is_part.G hr1 rfl D__law_is_part.m D__law_is_part.kp D__law_is_part.b .nil pass0 (pa_cons (pv 2) (pa_cons (pv 1) pa_nil)))))) (fun _ _ _ _ _ => (pv 2))) pa_nil)))), ?_⟩
    unfold tRet tCB tCons tNil
    refine lcT_pair (F := S1 K) (fun _ _ _ _ e z => z.same e) (fun t => has ps t) (fun R hR => ⟨_, rfl, hR⟩) ha hp (by have := gt.many; omega) (fun _ => rfl) (fun _ => rfl) (fun v t ht H1 e1 hv R hR => ?_) fun L ws H1 nL e1 hL hw => ?_
    · exact ⟨_, rfl, _, rfl, v, y, t, ps, rfl, hv, hy.same e1, by have := (gt.each t ht).2.1; omega, (gt.each t ht).2.2, fun H2 e2 => ⟨_, rfl, hR H2 e2⟩⟩
    · exact ⟨L, _, rfl, .inl ⟨sl_ hL, fun t nt => q _ _ (e1.trans (same_upd nt)) ⟨t, ws, rfl, st_ upd_same, prd_mono (fun _ _ z => z.same (same_upd nt)) hw⟩⟩⟩
/-! ### present people -/
abbrev s_scene : Stmt := top 25
abbrev N_scene : List Str := ["_law_feed_here", "_law_teams_here", "_law_team", "_law_here", "_law_name"]
theorem sc_scene : FnScope N_scene ["_law_feed_here", "_law_teams_here"] (defScope s_scene) := ⟨rfl, rfl, rfl, by decide +kernel, rfl, by decide +kernel, by decide +kernel⟩
def sp_scene (K : Frag) : Sp := fun vs H Q _ => ∃ (r c : Addr) (x : V) (d : Int) (ts : List (List Str)), vs = [.ref r, x] ∧ S2 K H x ts ∧ ts ≠ [] ∧ ts.length ≤ 12 ∧ (∀ t ∈ ts, Pt t) ∧ d ≤ 900000 ∧ Fd H r c d ∧ ∀ p v u ms tm H', Cl r H H' → Fd H' r c (d + 20) → SqT K H' p [v, u] → S1 K H' v ms → S1 K H' u tm → tm ∈ ts → ms.length ≤ 8 → (∀ n ∈ ms, n ∈ ts.flatten) → Q (.ref p) H'
theorem ok_scene {f : Addr} {fd : FuncData} {k : Nat} (F : Fun K "_law_scene" "_law_scene" s_scene f fd) (B : Blt mg) (D__law_draw : Own P w K mg base 1 "_law_draw" ["_law_feed_here", "_law_limit"] sp_draw) (D__law_choice : Own P w K mg base 2 "_law_choice" ["_law_feed_here", "_law_some"] (sp_choiceT K)) (D__law_folk : Own P w K mg base 1 "_law_folk" ["_law_teams_here"] (sp_folk K)) : FnOk P w K mg base CX0 (k + 3) f fd ["_law_feed_here", "_law_teams_here"] (sp_scene K) := by
  refine F.ok sc_scene (fun vs H Q E h => ?_) (fun cdv A outer s H vs Q E hr h => ?_)
  · obtain ⟨_, _, _, _, _, rfl, _⟩ := h
    rfl
  · obtain ⟨r, c, x, d, ts, rfl, ⟨a, us, rfl, ha, hp⟩, tne, t12, hpt, hd, hR, q⟩ := h
    have hr1 : Room 1 _ := hr.mono (by omega)
    have hr2 : Room 2 _ := hr.mono (by omega)
    have ulen := prd_len hp
    refine ⟨_, (pss_cons (ps_set (i := 2) sc_scene.nd rfl (Or.inr rfl) (pe_call D__law_choice.G hr2 rfl D__law_choice.m D__law_choice.kp D__law_choice.b .nil pass0 (pa_cons (pv 0) (pa_cons (pv 1) pa_nil))))
      (pss_cons (ps_setLc (i := 3) (own := [("_law_name", 4)]) (g := gName 4) rfl sc_scene.nd rfl rfl (sw_true rfl rfl rfl (by decide +kernel)) (p_tup K (pe_call D__law_folk.G hr1 rfl D__law_folk.m D__law_folk.kp D__law_folk.b .nil pass0 (pa_cons (pv 1) pa_nil))) (blkOk_by (own := [("_law_name", 4)]) (N := N_scene) (sc := defScope s_scene) (by decide +kernel)) (fun _ _ _ _ _ => (pg_name (i := 4) sc_scene.nd rfl (Or.inl rfl))) (fun _ _ _ _ _ => (pts_one (PW.pt (pw_or (pt_cmpR (o_in K) (pv 4) (pv 2) rfl) (pw_or1 (pt_cmpR op_gt (pe_call D__law_draw.G hr1 rfl D__law_draw.m D__law_draw.kp D__law_draw.b .nil pass0 (pa_cons (pv 0) (pa_cons pe_int pa_nil))) pe_int (nomark _))))))) (fun _ _ _ _ _ => (pv 4)))
      (pss_one (ps_ret (pe_tup (pa_cons (pe_callTy (c_tuple K) (by rfl) B.tuple (by decide +kernel) (pa_cons (pv 3) pa_nil)) (pa_cons (pv 2) pa_nil))))))), ?_⟩
    refine sq_set ⟨_, rfl, _, rfl, r, c, a, d, us, rfl, ha, fun e => ?_, by omega, by omega, hR, fun i u H1 c1 g1 hi => ?_⟩
    · rw [e] at ulen
      exact tne (List.eq_nil_of_length_eq_zero ulen.symm)
    have hS2 : S2 K H1 (.ref a) ts := ⟨a, us, rfl, c1.sqT ha, c1.s1s hp⟩
    obtain ⟨t, ht, at_, rfl, hat⟩ := prd_getL (c1.s1s hp) hi
    refine sq_set ?_
    refine lcT_drawX (r := r) (c := c) (d := d + 1) (fun ks => ks.length ≤ 8 ∧ ∀ n, n ∈ ks ↔ n ∈ ts.flatten) (fun R hR2 => ⟨_, rfl, .ref a, ts, pool, rfl, hS2, t12, ppool, hpt, fun v ks H2 e2 hv hk k8 => ?_⟩) (fun _ => rfl) (fun _ => rfl) (fun _ e => by omega) (fun s1 H3 e c3 g3 he R hR2 => ?_) fun ks L ms H3 hk nL c3 g3 Lr hL ml mi => ?_
    · obtain ⟨b, rfl, hb⟩ := hv
      exact hR2 ks b H2 ⟨k8, hk⟩ (Cl.of e2) (g1.same e2) hb
    · refine ⟨_, rfl, _, rfl, at_, _, rfl, .inr (c3.sqT hat), rfl, flat_strs t, _, rfl, ite2 (fun _ => hR2 _ H3 Cl.refl (g3.le (by omega))) fun _ => ?_⟩
      exact ⟨_, rfl, r, c, 4, e, rfl, by decide, by decide, by omega, g3, fun z H4 c4 g4 z0 z1 => ⟨_, _, rfl, rfl, _, rfl, hR2 _ H4 c4 g4⟩⟩
    · refine ⟨_, rfl, L, _, rfl, .inl ⟨sl_ hL, fun l nl => ⟨_, rfl, (by decide : 2 ≤ sizeLine), fun p np => ?_⟩⟩⟩
      have s4 := same_upd (o := .tup (ms.map V.str)) nl
      have s5 := same_upd (o := .tup [.ref l, .ref at_]) np
      exact q p (.ref l) (.ref at_) ms t _ ((c1.trans c3).trans (Cl.of (s4.trans s5))) ((g3.same (s4.trans s5)).le (by omega)) (st_ upd_same) ⟨l, rfl, st_ (s5 _ _ upd_same)⟩ ⟨at_, rfl, sameT (s4.trans s5) (c3.sqT hat)⟩ (List.mem_of_getElem? ht) (by omega) fun n hn => (hk.2 n).mp (mi n hn)
end
end K18

namespace Cb
open PySem PySem.Spec PyProof.Rows L2 PySem.W
section
variable {P : Program} {w : World} {K : Frag} {mg : Str → Option Value} {base : Heap}
/-- def f(a, .., *v) by its body, its exceptions told to nobody -/
theorem fun_star {x qual : Str} {st : Stmt} {f : Addr} {fd : FuncData} {N ps : List Str} {pv : Str} {k : Nat} {sp : Sp} (F : Fun K x qual st f fd) (S : FnScope N (ps ++ [pv]) (defScope st))
    (hb : ∀ (kV doc pm : Value) (an : Option Addr) (cdv ct : Value) (us rest : List Value), us.length = ps.length → bindArgs (PySem.W.fnOf x qual (defArgs st) (defBody st) (defScope st) .none kV doc pm an cdv ct) ⟨us ++ rest, []⟩ = (newTuple rest >>= fun t => pure (ps.zip us ++ [(pv, t)])))
    (hbody : ∀ (cdv : Value) (A : Around) (outer : List Env) (s : Shared) (H : Hp) (vs : List V) (Q : VK) (E : XK), Room k (A.deeper (envOfC qual (defScope st) s.heap.objs.size f cdv)) → sp vs H Q E →
      ∃ t, PSs (cxOf CX0 P w K mg base N qual (defScope st) f cdv A outer s H E).nox (defBody st) t ∧ t { nx := fun _ H' => Q .non H', rt := Q } (start N vs) H) :
    FnR P w K mg base CX0 (k + 1) f (fun vs H Q E => ∃ ws rest, vs = ws ++ rest ∧ ws.length = ps.length ∧ rest.length ≤ sizeLine ∧ ∀ p, H p = Option.none → sp (ws ++ [V.ref p]) (upd H p (.tup rest)) Q E) := by
  obtain ⟨oc, od, kV, doc, pm, an, cdv, ct, osl, rfl, lk, hcd⟩ := F.ex
  refine StX.fn_star lk hcd S StX.cxUp_none (hb kV doc pm an cdv ct) fun A outer s H vs Q E hr hsp => ?_
  obtain ⟨t, h, q⟩ := hbody cdv A outer s H vs Q E hr hsp
  exact ⟨t, h.nox, q⟩
end
/-- a def with a star that stands where its name says -/
structure OwnR (P : Program) (w : World) (K : Frag) (mg : Str → Option Value) (base : Heap) (k : Nat) (x : Str) (sp : Sp) where
  f : Addr
  G : FnR P w K mg base CX0 k f sp
  m : mg x = some (.ref f)
  kp : keepIn K (.ref f) = true
end Cb
namespace K18
open PySem PySem.Spec PyProof.Rows L2 PySem.W Cb Evl
theorem isIn_of {n : Str} {ns : List Str} (h : n ∈ ns) : Cb.isIn n ns = true := by
  unfold Cb.isIn
  rw [List.any_eq_true]
  exact ⟨n, h, by simp⟩
theorem Gt.ofPt {ts : List (List Str)} (h12 : ts.length ≤ 12) (h : ∀ t ∈ ts, Pt t) : Gt ts := ⟨by omega, fun t ht => (h t ht).ok⟩

end K18
namespace Cb
open PySem PySem.Spec PyProof.Rows L2 PySem.W
/-- a def by a call of its own by keywords ys alone -/
def FnKW (P : Program) (w : World) (K : Frag) (mg : Str → Option Value) (base : Heap) (CX : CXT) (k : Nat) (f : Addr) (ys : List Str) (sp : Sp) : Prop :=
  ∀ (A : Around) (outer : List Env) (s : Shared) (H : Hp) (us : List Value) (vs : List V) (Q : VK) (E : XK), Room k A → Env0 P w K mg base A outer s H → Vals vs us → sp vs H Q E →
    codeAny (model P w) A (.call (.ref f) ⟨[], ys.zip us⟩) (CR CX outer P w H s Q E) s
section
variable {X : Cx} {k : Nat} {f : Addr} {CX : CXT} {ys : List Str} {sp : Sp} {x : Str} {p pos : Pos} {kws : List Keyword} {tk : TA} {E : XK}
/-- f(y = e, ..) -/
theorem pe_callKW (F : FnKW X.prog X.w X.K X.mg X.base CX k f ys sp) (hr : Room k X.A) (hg : Gl X x) (hm : X.mg x = some (.ref f)) (hk : keepIn X.K (.ref f) = true) (hx : Passes CX X E) (hkw : PK X kws tk)
    (hall : (backToKw pos (keywordEach kws X.env)).all (·.1.isSome) = true := by rfl) (hks : (backToKw pos (keywordEach kws X.env)).filterMap (·.1) = ys := by rfl) (hdb : (x == ("__debug__" : Str)) = false := by decide)
    (hpl : ((backTo pos (starEach [] X.env)).any (·.1) || (backToKw pos (keywordEach kws X.env)).any (·.1.isNone)) = false := by rfl) :
    PE X (.Call (.Name x p) [] kws pos) (tCall sp [] E tk) := by
  refine ⟨fun pins s σ H Q I h => ?_⟩
  refine wpAny_Call_Name_kw (ld_glob I hg hm ?_ hdb)
  refine PySem.W.callWith_KW0 (h₀ := X.base) I.ok.mod.kin hk hall ?_ hpl
  refine thn (hkw.run pos pins s σ H _ I h) fun ws s2 ⟨zs, H2, I2, rz, q2⟩ => ⟨I2.kIn, ?_⟩
  rw [hks]
  have q3 : sp (zs ++ []) H2 Q E := q2
  rw [List.append_nil] at q3
  refine wpAny_call (codeAny_mono (F X.A X.stack s2 H2 ws zs Q E hr I2.env0 rz q3) fun r s' hq => ?_)
  cases r with
  | error e => exact hx pins σ _ _ e s' I2 hq
  | ok fl =>
    cases fl with
    | ret u => exact I2.after hq
    | next => exact False.elim hq
    | brk => exact False.elim hq
    | cont => exact False.elim hq
end

section
variable {P : Program} {w : World} {K : Frag} {mg : Str → Option Value} {base : Heap} {CX : CXT} {k : Nat} {f : Addr} {fd : FuncData} {sp : Sp}
/-- a def of five parameters, called by its names, the last first -/
theorem kw5 {a b c d e : Str} (F : FnOk P w K mg base CX k f fd [a, b, c, d, e] sp) (hb : ∀ (s : Shared) (u1 u2 u3 u4 u5 : Value), BindsTo s fd ⟨[], [(e, u5), (d, u4), (c, u3), (b, u2), (a, u1)]⟩ [(a, u1), (b, u2), (c, u3), (d, u4), (e, u5)]) :
    FnKW P w K mg base CX k f [e, d, c, b, a] (fun vs H Q E => ∃ v1 v2 v3 v4 v5, vs = [v5, v4, v3, v2, v1] ∧ sp [v1, v2, v3, v4, v5] H Q E) := by
  intro A outer s H us vs Q E hr e0 r h
  obtain ⟨v1, v2, v3, v4, v5, rfl, q⟩ := h
  match us, r with
  | [u5, u4, u3, u2, u1], .cons r5 (.cons r4 (.cons r3 (.cons r2 (.cons r1 .nil)))) => exact F.run A outer s H ⟨[], [(e, u5), (d, u4), (c, u3), (b, u2), (a, u1)]⟩ [u1, u2, u3, u4, u5] [v1, v2, v3, v4, v5] Q E hr e0 (hb s u1 u2 u3 u4 u5) (.cons r1 (.cons r2 (.cons r3 (.cons r4 (.cons r5 .nil))))) q
end
end Cb
namespace K18
open PySem PySem.Spec PyProof.Rows L2 PySem.W Cb Evl
section
variable {P : Program} {w : World} {K : Frag} {mg : Str → Option Value} {base : Heap}
/-! ### the names are known -/
abbrev s_check_people : Stmt := top 9
abbrev N_check_people : List Str := ["crews", "groups", "known", "group", "person"]
theorem sc_check_people : FnScope N_check_people ((["crews"] : List Str) ++ (["groups"] : List Str)) (defScope s_check_people) := ⟨rfl, rfl, rfl, by decide +kernel, rfl, by decide +kernel, by decide +kernel⟩
def spB_check (K : Frag) : Sp := fun vs H Q _ => ∃ (x : V) (g : Addr) (gs : List V) (ts ls : List (List Str)), vs = [x, .ref g] ∧ H g = some (.tup gs) ∧ S2 K H x ts ∧ Gt ts ∧ Paired (S1 K H) gs ls ∧ (∀ l ∈ ls, ∀ n ∈ l, n ∈ ts.flatten) ∧ ∀ H', Same H H' → Q .non H'
def sp_check (K : Frag) : Sp := fun vs H Q _ => ∃ (x : V) (gs : List V) (ts ls : List (List Str)), vs = x :: gs ∧ gs.length ≤ 100 ∧ S2 K H x ts ∧ Gt ts ∧ Paired (S1 K H) gs ls ∧ (∀ l ∈ ls, ∀ n ∈ l, n ∈ ts.flatten) ∧ ∀ H', Same H H' → Q .non H'
theorem ok_check {f : Addr} {fd : FuncData} {k : Nat} (F : Fun K "check_people" "check_people" s_check_people f fd) (B : Blt mg) (D_people_of : Own P w K mg base 1 "people_of" ["crews"] (sp_people K)) : FnR P w K mg base CX0 (k + 2) f (sp_check K) := by
  have M : FnR P w K mg base CX0 (k + 2) f (fun vs H Q E => ∃ ws rest, vs = ws ++ rest ∧ ws.length = (["crews"] : List Str).length ∧ rest.length ≤ sizeLine ∧ ∀ p, H p = Option.none → spB_check K (ws ++ [V.ref p]) (upd H p (.tup rest)) Q E) := by
    refine fun_star (k := k + 1) F sc_check_people (fun kV doc pm an cdv ct => StX.bind_star1 (B := fun us => bindArgs (PySem.W.fnOf "check_people" "check_people" (defArgs s_check_people) (defBody s_check_people) (defScope s_check_people) .none kV doc pm an cdv ct) ⟨us, []⟩) (fun _ => rfl) (fun _ _ _ => rfl)) (fun cdv A outer s H vs Q E hr h => ?_)
    obtain ⟨x, g, gs, ts, ls, rfl, hg, hx, gt, hp, inA, q⟩ := h
    have hr1 : Room 1 _ := hr.mono (by omega)
    refine ⟨_, (pss_cons (ps_set (i := 2) sc_check_people.nd rfl (Or.inl rfl) (pe_call D_people_of.G hr1 rfl D_people_of.m D_people_of.kp D_people_of.b .nil pass0 (pa_cons (pv 0) pa_nil)))
      (pss_one (ps_for PassesOwn.never rfl (p_tup K (pv 1)) (pg_name (i := 3) sc_check_people.nd rfl (Or.inl rfl))
      (pss_one (ps_for PassesOwn.never rfl (p_tup K (pv 3)) (pg_name (i := 4) sc_check_people.nd rfl (Or.inl rfl))
      (pss_one (ps_if (pt_cmpR (o_nin K) (pv 4) (pv 2) rfl) (pss_one Cb.ps_never) pss_nil))))))), ?_⟩
    refine sq_set ⟨_, rfl, x, ts, rfl, hx, gt, fun v H1 e1 hv => ?_⟩
    obtain ⟨va, rfl, hv⟩ := hv
    have key : ∀ (a : Addr) (ns : List Str), SqT K H a (ns.map V.str) → (∀ n ∈ ns, n ∈ ts.flatten) → ∀ (v4 : Option V) (D : Ends), (∀ v4', D.nx [some x, some (.ref g), some (.ref va), some (.ref a), v4'] H1) →
        tFor (iTup K (tVar 3)) (gName 4) (tIfS (tTest (tOp (rIn K true) (tVar 4) (tVar 2))) (fun _ _ _ => False) tNext) D [some x, some (.ref g), some (.ref va), some (.ref a), v4] H1 := fun a ns ha hin v4 D hD => by
      refine ⟨_, rfl, a, rfl, ⟨_, sameT e1 ha⟩, for_tup (xs := ns.map V.str) (fun i σ' H' => H' = H1 ∧ ∃ v4, σ' = [some x, some (.ref g), some (.ref va), some (.ref a), v4]) ⟨rfl, v4, rfl⟩ (fun i σ' H' _ z => ?_) (fun i u σ' H' hi z => ?_) fun σ' H' z => ?_⟩
      · obtain ⟨rfl, _⟩ := z
        exact sameT e1 ha
      · obtain ⟨rfl, v4, rfl⟩ := z
        rw [List.getElem?_map] at hi
        obtain ⟨n, hn, rfl⟩ := Option.map_eq_some_iff.mp hi
        have hin2 : isIn n (folk ts) = true := isIn_of (once_mem.mpr (hin n (List.mem_of_getElem? hn)))
        refine ⟨_, rfl, _, rfl, va, _, rfl, .inr hv, rfl, flat_strs _, _, rfl, ?_⟩
        rw [inV_strs, hin2]
        exact ite2 (fun h => absurd h (by decide)) fun _ => ⟨rfl, _, rfl⟩
      · obtain ⟨rfl, v4, rfl⟩ := z
        exact hD v4
    refine ⟨_, rfl, g, rfl, ⟨_, st_ (e1 _ _ hg)⟩, for_tup (xs := gs) (fun i σ' H' => H' = H1 ∧ ∃ v3 v4, σ' = [some x, some (.ref g), some (.ref va), v3, v4]) ⟨rfl, none, none, rfl⟩ (fun i σ' H' _ z => ?_) (fun i u σ' H' hi z => ?_) fun σ' H' z => ?_⟩
    · obtain ⟨rfl, _⟩ := z
      exact st_ (e1 _ _ hg)
    · obtain ⟨rfl, v3, v4, rfl⟩ := z
      obtain ⟨l, hl, hu⟩ := prd_getL hp hi
      obtain ⟨ua, rfl, hu⟩ := hu
      exact key ua l hu (inA l (List.mem_of_getElem? hl)) v4 _ fun v4' => ⟨rfl, _, v4', rfl⟩
    · obtain ⟨rfl, v3, v4, rfl⟩ := z
      exact q H' e1
  exact fun A outer s H us vs Q E hr e0 r ⟨x, gs, ts, ls, e, gl, hx, gt, hp, inA, q⟩ => M A outer s H us vs Q E hr e0 r ⟨[x], gs, e, rfl, Nat.le_of_lt (big (by omega)), fun p np => ⟨x, p, gs, ts, ls, rfl, upd_same, hx.same (same_upd np), gt, prd_mono (fun _ _ z => z.same (same_upd np)) hp, inA, fun H' e' => q H' ((same_upd np).trans e')⟩⟩
/-! ### a set without one of its people -/
def wo (ps : List Str) (n : Str) : List Str := ps.filter fun p => !decide (V.str p = V.str n)
theorem wo_e (ps : List Str) (n : Str) : ((ps.map V.str).filter fun v => !decide (v = V.str n)).map id = (wo ps n).map V.str := by
  rw [List.map_id, List.filter_map]
  rfl
theorem wo_in {ps : List Str} {n x : Str} (h : x ∈ wo ps n) : x ∈ ps := (List.mem_filter.mp h).1
theorem wo_len (ps : List Str) (n : Str) : (wo ps n).length ≤ ps.length := List.length_filter_le _ _
def sp_wo (K : Frag) : Sp := fun vs H Q _ => ∃ (x : V) (n : Str) (ps : List Str), vs = [x, .str n] ∧ S1 K H x ps ∧ ps.length ≤ 1000 ∧ ∀ v H', Same H H' → S1 K H' v (wo ps n) → Q v H'
abbrev s_wop : Stmt := top 6
abbrev N_wop : List Str := ["people", "lost", "person"]
theorem sc_wop : FnScope N_wop ["people", "lost"] (defScope s_wop) := ⟨rfl, rfl, rfl, by decide +kernel, rfl, by decide +kernel, by decide +kernel⟩
theorem ok_wop {f : Addr} {fd : FuncData} {k : Nat} (F : Fun K "without_person" "without_person" s_wop f fd) (B : Blt mg) : FnOk P w K mg base CX0 (k + 1) f fd ["people", "lost"] (sp_wo K) := by
  refine F.ok sc_wop (fun vs H Q E h => ?_) (fun cdv A outer s H vs Q E hr h => ?_)
  · obtain ⟨_, _, _, rfl, _⟩ := h
    rfl
  · obtain ⟨x, n, ps, rfl, ⟨a, rfl, ha⟩, hl, q⟩ := h
    refine ⟨_, (pss_one (ps_ret (pe_callTy (c_tuple K) (by rfl) B.tuple (by decide +kernel) (pa_cons (pe_lc (own := [("person", 2)]) (g := gName 2) rfl sc_wop.nd (p_tup K (pv 0)) (blkOk_by (own := [("person", 2)]) (N := N_wop) (sc := defScope s_wop) (by decide +kernel)) (fun _ _ _ _ _ => (pg_name (i := 2) sc_wop.nd rfl (Or.inl rfl))) (fun _ _ _ _ _ => (pts_one (pt_cmpR op_ne (pv 2) (pv 1) (nomark _)))) (fun _ _ _ _ _ => (pv 2))) pa_nil)))), ?_⟩
    unfold tRet tCB tCons
    refine lcT_filter (xs := ps.map V.str) (fun v => !decide (v = V.str n)) id (fun R hR => ⟨_, rfl, hR a H (Same.refl H) ha⟩) (by rw [List.length_map]; omega) (fun _ => rfl) (fun v hv H1 e1 R hR => ?_) (fun v hv _ H1 e1 R hR => ⟨v, rfl, hR H1 (Same.refl H1)⟩) fun D H' hD e hH => ?_
    · obtain ⟨p, _, rfl⟩ := List.mem_map.mp hv
      exact ⟨_, rfl, _, rfl, rfl, _, rfl, hR⟩
    · rw [wo_e] at hH
      refine ⟨D, _, rfl, .inl ⟨sl_ hH, fun t nt => ?_⟩⟩
      exact q _ _ (e.trans (same_upd nt)) ⟨t, rfl, st_ upd_same⟩
abbrev s_l_without : Stmt := top 27
abbrev N_l_without : List Str := ["_law_here", "_law_gone", "_law_name"]
theorem sc_l_without : FnScope N_l_without ["_law_here", "_law_gone"] (defScope s_l_without) := ⟨rfl, rfl, rfl, by decide +kernel, rfl, by decide +kernel, by decide +kernel⟩
theorem ok_lwo {f : Addr} {fd : FuncData} {k : Nat} (F : Fun K "_law_without" "_law_without" s_l_without f fd) (B : Blt mg) : FnOk P w K mg base CX0 (k + 1) f fd ["_law_here", "_law_gone"] (sp_wo K) := by
  refine F.ok sc_l_without (fun vs H Q E h => ?_) (fun cdv A outer s H vs Q E hr h => ?_)
  · obtain ⟨_, _, _, rfl, _⟩ := h
    rfl
  · obtain ⟨x, n, ps, rfl, ⟨a, rfl, ha⟩, hl, q⟩ := h
    refine ⟨_, (pss_one (ps_ret (pe_callTy (c_tuple K) (by rfl) B.tuple (by decide +kernel) (pa_cons (pe_lc (own := [("_law_name", 2)]) (g := gName 2) rfl sc_l_without.nd (p_tup K (pv 0)) (blkOk_by (own := [("_law_name", 2)]) (N := N_l_without) (sc := defScope s_l_without) (by decide +kernel)) (fun _ _ _ _ _ => (pg_name (i := 2) sc_l_without.nd rfl (Or.inl rfl))) (fun _ _ _ _ _ => (pts_one (pt_cmpR op_ne (pv 2) (pv 1) (nomark _)))) (fun _ _ _ _ _ => (pv 2))) pa_nil)))), ?_⟩
    unfold tRet tCB tCons
    refine lcT_filter (xs := ps.map V.str) (fun v => !decide (v = V.str n)) id (fun R hR => ⟨_, rfl, hR a H (Same.refl H) ha⟩) (by rw [List.length_map]; omega) (fun _ => rfl) (fun v hv H1 e1 R hR => ?_) (fun v hv _ H1 e1 R hR => ⟨v, rfl, hR H1 (Same.refl H1)⟩) fun D H' hD e hH => ?_
    · obtain ⟨p, _, rfl⟩ := List.mem_map.mp hv
      exact ⟨_, rfl, _, rfl, rfl, _, rfl, hR⟩
    · rw [wo_e] at hH
      refine ⟨D, _, rfl, .inl ⟨sl_ hH, fun t nt => ?_⟩⟩
      exact q _ _ (e.trans (same_upd nt)) ⟨t, rfl, st_ upd_same⟩
end
end K18

namespace K18
open PySem PySem.Spec PyProof.Rows L2 PySem.W Cb Evl
theorem Gt.sub {ts : List (List Str)} (g : Gt ts) (p : List Str → Bool) : Gt (ts.filter p) := ⟨Nat.le_trans (List.length_filter_le _ _) g.many, fun t h => g.each t (List.mem_filter.mp h).1⟩
def near (ts : List (List Str)) (c : List Str) (m : Int) : List (List Str) := ts.filter fun t => decide (((nc c t).length : Int) ≤ m)
def lw (ts : List (List Str)) (ps c : List Str) (n : Str) (m : Int) : Str := if isIn n c = true then (if (left ts (wo ps n)).isEmpty = true then ("over" : Str) else if (near (left ts (wo ps n)) c m).isEmpty = true then ("stuck" : Str) else ("open" : Str)) else ("stays" : Str)
def an (ts : List (List Str)) (ps c : List Str) (n : Str) (m : Int) : List (List Str) := if isIn n c = true then near (left ts (wo ps n)) c m else []
section
variable {P : Program} {w : World} {K : Frag} {mg : Str → Option Value} {base : Heap}
/-! ### the crews that are near -/
abbrev s_near : Stmt := top 15
abbrev N_near : List Str := ["crews", "crew", "width", "other"]
theorem sc_near : FnScope N_near ["crews", "crew", "width"] (defScope s_near) := ⟨rfl, rfl, rfl, by decide +kernel, rfl, by decide +kernel, by decide +kernel⟩
def sp_near (K : Frag) : Sp := fun vs H Q _ => ∃ (x y : V) (m : Int) (ts : List (List Str)) (c : List Str), vs = [x, y, .int m] ∧ S2 K H x ts ∧ S1 K H y c ∧ Gt ts ∧ ∀ v H', Same H H' → S2 K H' v (near ts c m) → Q v H'
theorem ok_near {f : Addr} {fd : FuncData} {k : Nat} (F : Fun K "near_crews" "near_crews" s_near f fd) (B : Blt mg) (D_newcomers : Own P w K mg base 1 "newcomers" ["crew", "other"] (sp_newcomers K)) : FnOk P w K mg base CX0 (k + 2) f fd ["crews", "crew", "width"] (sp_near K) := by
  refine F.ok sc_near (fun vs H Q E h => ?_) (fun cdv A outer s H vs Q E hr h => ?_)
  · obtain ⟨_, _, _, _, _, rfl, _⟩ := h
    rfl
  · obtain ⟨x, y, m, ts, c, rfl, ⟨a, us, rfl, ha, hp⟩, hy, gt, q⟩ := h
    have hr1 : Room 1 _ := hr.mono (by omega)
    refine ⟨_, (pss_one (ps_ret (pe_callTy (c_tuple K) (by rfl) B.tuple (by decide +kernel) (pa_cons (pe_lc (own := [("other", 3)]) (g := gName 3) rfl sc_near.nd (p_tup K (pv 0)) (blkOk_by (own := [("other", 3)]) (N := N_near) (sc := defScope s_near) (by decide +kernel)) (fun _ _ _ _ _ => (pg_name (i := 3) sc_near.nd rfl (Or.inl rfl))) (fun _ _ _ _ _ => (pts_one (pt_cmpR op_le (pe_callB (c_len K) (by rfl) B.len (by decide +kernel) (pa_cons (pe_call D_newcomers.G hr1 rfl D_newcomers.m D_newcomers.kp D_newcomers.b .nil pass0 (pa_cons (pv 1) (pa_cons (pv 3) pa_nil))) pa_nil)) (pv 2) (nomark _)))) (fun _ _ _ _ _ => (pv 3))) pa_nil)))), ?_⟩
    unfold tRet tCB tCons tNil
    refine lcT_pair (F := S1 K) (fun _ _ _ _ e z => z.same e) (fun t => decide (((nc c t).length : Int) ≤ m)) (fun R hR => ⟨_, rfl, hR⟩) ha hp (by have := gt.many; omega) (fun _ => rfl) (fun _ => rfl) (fun v t ht H1 e1 hv R hR => ?_) fun L ws H1 nL e1 hL hw => ?_
    · refine ⟨_, rfl, _, rfl, y, v, c, t, rfl, hy.same e1, hv, by have := (gt.each t ht).2.1; omega, fun u H2 e2 hu => ?_⟩
      obtain ⟨au, rfl, hu⟩ := hu
      refine ⟨au, _, rfl, .inr hu, _, rfl, _, _, rfl, rfl, _, rfl, ?_⟩
      rw [List.length_map]
      exact hR H2 e2
    · exact ⟨L, _, rfl, .inl ⟨sl_ hL, fun t nt => q _ _ (e1.trans (same_upd nt)) ⟨t, ws, rfl, st_ upd_same, prd_mono (fun _ _ z => z.same (same_upd nt)) hw⟩⟩⟩
/-! ### the crews after a loss of a member -/
abbrev s_next : Stmt := top 14
abbrev N_next : List Str := ["crews", "rest", "crew", "lost", "width"]
theorem sc_next : FnScope N_next ["crews", "rest", "crew", "lost", "width"] (defScope s_next) := ⟨rfl, rfl, rfl, by decide +kernel, rfl, by decide +kernel, by decide +kernel⟩
def sp_next (K : Frag) : Sp := fun vs H Q _ => ∃ (x r y : V) (n : Str) (m : Int) (ts : List (List Str)) (ps c : List Str), vs = [x, r, y, .str n, .int m] ∧ S2 K H x ts ∧ S1 K H r ps ∧ S1 K H y c ∧ Gt ts ∧ isIn n c = true ∧ ∀ v H', Same H H' → S2 K H' v (near (left ts ps) c m) → Q v H'
theorem ok_next {f : Addr} {fd : FuncData} {k : Nat} (F : Fun K "next_crews" "next_crews" s_next f fd) (D_cwithin : Own P w K mg base 2 "crews_within" ["crews", "people"] (sp_cwithin K)) (D_near : Own P w K mg base 2 "near_crews" ["crews", "crew", "width"] (sp_near K)) : FnOk P w K mg base CX0 (k + 3) f fd ["crews", "rest", "crew", "lost", "width"] (sp_next K) := by
  refine F.ok sc_next (fun vs H Q E h => ?_) (fun cdv A outer s H vs Q E hr h => ?_)
  · obtain ⟨_, _, _, _, _, _, _, _, rfl, _⟩ := h
    rfl
  · obtain ⟨x, r, y, n, m, ts, ps, c, rfl, hx, hrr, ⟨ay, rfl, hy⟩, gt, hin, q⟩ := h
    have hr2 : Room 2 _ := hr.mono (by omega)
    refine ⟨_, (pss_cons (ps_if (pt_cmpR (o_nin K) (pv 3) (pv 2) rfl) (pss_one (ps_ret (pe_tup (pa_cons (pv 2) pa_nil)))) pss_nil)
      (pss_one (ps_ret (pe_call D_near.G hr2 rfl D_near.m D_near.kp D_near.b .nil pass0 (pa_cons (pe_call D_cwithin.G hr2 rfl D_cwithin.m D_cwithin.kp D_cwithin.b .nil pass0 (pa_cons (pv 0) (pa_cons (pv 1) pa_nil))) (pa_cons (pv 2) (pa_cons (pv 4) pa_nil))))))), ?_⟩
    refine ⟨_, rfl, _, rfl, ay, _, rfl, .inr hy, rfl, flat_strs c, _, rfl, ?_⟩
    rw [inV_strs, hin]
    refine ite2 (fun h => absurd h (by decide)) fun _ => ?_
    exact ⟨_, rfl, _, rfl, x, r, ts, ps, rfl, hx, hrr, gt, fun v H1 e1 hv => ⟨_, rfl, _, rfl, v, .ref ay, m, left ts ps, c, rfl, hv, ⟨ay, rfl, sameT e1 hy⟩, gt.sub _, fun u H2 e2 hu => q u H2 (e1.trans e2) hu⟩⟩
/-! ### the word of a loss, the answers -/
def LossIn (K : Frag) (H : Hp) (x y z : V) (n : Str) (ts : List (List Str)) (ps c : List Str) : Prop := S2 K H x ts ∧ S1 K H y ps ∧ S1 K H z c ∧ Gt ts ∧ ps.length ≤ 1000 ∧ (∀ p ∈ ps, p ∈ ts.flatten) ∧ (∀ p ∈ c, p ∈ ts.flatten) ∧ n ∈ ts.flatten
theorem LossIn.same {H H' : Hp} {x y z : V} {n : Str} {ts : List (List Str)} {ps c : List Str} (e : Same H H') (h : LossIn K H x y z n ts ps c) : LossIn K H' x y z n ts ps c := ⟨h.1.same e, h.2.1.same e, h.2.2.1.same e, h.2.2.2⟩
def sp_lw (K : Frag) : Sp := fun vs H Q _ => ∃ (x y z : V) (n : Str) (m : Int) (ts : List (List Str)) (ps c : List Str), vs = [x, y, z, .str n, .int m] ∧ LossIn K H x y z n ts ps c ∧ ∀ H', Same H H' → Q (.str (lw ts ps c n m)) H'
def sp_an (K : Frag) : Sp := fun vs H Q _ => ∃ (x y z : V) (n : Str) (m : Int) (ts : List (List Str)) (ps c : List Str), vs = [x, y, z, .str n, .int m] ∧ LossIn K H x y z n ts ps c ∧ ∀ v H', Same H H' → S2 K H' v (an ts ps c n m) → Q v H'
theorem three_in {ts : List (List Str)} {ps c : List Str} {n : Str} (h1 : ∀ p ∈ ps, p ∈ ts.flatten) (h2 : ∀ p ∈ c, p ∈ ts.flatten) (h3 : n ∈ ts.flatten) : ∀ l ∈ [ps, c, [n]], ∀ p ∈ l, p ∈ ts.flatten := fun l hl p hp => by
  simp only [List.mem_cons, List.not_mem_nil, or_false] at hl
  rcases hl with rfl | rfl | rfl
  · exact h1 p hp
  · exact h2 p hp
  · rw [List.mem_singleton.mp hp]
    exact h3
abbrev s_lw : Stmt := top 12
abbrev N_lw : List Str := ["crews", "present", "crew", "lost", "width", "left"]
theorem sc_lw : FnScope N_lw ["crews", "present", "crew", "lost", "width"] (defScope s_lw) := ⟨rfl, rfl, rfl, by decide +kernel, rfl, by decide +kernel, by decide +kernel⟩
theorem ok_lw {f : Addr} {fd : FuncData} {k : Nat} (F : Fun K "loss_word" "loss_word" s_lw f fd) (D_check : OwnR P w K mg base 2 "check_people" (sp_check K)) (D_wo : Own P w K mg base 1 "without_person" ["people", "lost"] (sp_wo K)) (D_cwithin : Own P w K mg base 2 "crews_within" ["crews", "people"] (sp_cwithin K)) (D_near : Own P w K mg base 2 "near_crews" ["crews", "crew", "width"] (sp_near K)) : FnOk P w K mg base CX0 (k + 3) f fd ["crews", "present", "crew", "lost", "width"] (sp_lw K) := by
  refine F.ok sc_lw (fun vs H Q E h => ?_) (fun cdv A outer s H vs Q E hr h => ?_)
  · obtain ⟨_, _, _, _, _, _, _, _, rfl, _⟩ := h
    rfl
  · obtain ⟨x, y, z, n, m, ts, ps, c, rfl, ⟨hx, hy, hz, gt, pl, inP, inC, inN⟩, q⟩ := h
    have hr1 : Room 1 _ := hr.mono (by omega)
    have hr2 : Room 2 _ := hr.mono (by omega)
    refine ⟨_, (pss_cons (ps_expr (pe_callP D_check.G hr2 rfl D_check.m D_check.kp pass0 (pa_cons (pv 0) (pa_cons (pv 1) (pa_cons (pv 2) (pa_cons (pe_tup (pa_cons (pv 3) pa_nil)) pa_nil))))))
      (pss_cons (ps_if (pt_cmpR (o_nin K) (pv 3) (pv 2) rfl) (pss_one (ps_ret pe_str)) pss_nil)
      (pss_cons (ps_set (i := 5) sc_lw.nd rfl (Or.inl rfl) (pe_call D_cwithin.G hr2 rfl D_cwithin.m D_cwithin.kp D_cwithin.b .nil pass0 (pa_cons (pv 0) (pa_cons (pe_call D_wo.G hr1 rfl D_wo.m D_wo.kp D_wo.b .nil pass0 (pa_cons (pv 1) (pa_cons (pv 3) pa_nil))) pa_nil))))
      (pss_cons (ps_if (pt_not (pt_truth (pv 5) (by intro _; rfl))) (pss_one (ps_ret pe_str)) pss_nil)
      (pss_one (ps_ret (pe_ifExp (pt_truth (pe_call D_near.G hr2 rfl D_near.m D_near.kp D_near.b .nil pass0 (pa_cons (pv 5) (pa_cons (pv 2) (pa_cons (pv 4) pa_nil)))) (by intro _; rfl)) pe_str pe_str))))))), ?_⟩
    refine ⟨_, rfl, _, rfl, _, rfl, _, rfl, (by decide : 1 ≤ sizeLine), fun p np => ?_⟩
    have s0 := same_upd (o := .tup [V.str n]) np
    refine ⟨x, [y, z, .ref p], ts, [ps, c, [n]], rfl, (by decide : 3 ≤ 100), hx.same s0, gt, .cons (hy.same s0) (.cons (hz.same s0) (.cons ⟨p, rfl, st_ upd_same⟩ .nil)), three_in inP inC inN, fun H1 e1 => ?_⟩
    have s1 := s0.trans e1
    obtain ⟨az, rfl, hzT⟩ := hz
    refine ⟨_, rfl, _, rfl, az, _, rfl, .inr (sameT s1 hzT), rfl, flat_strs c, _, rfl, ?_⟩
    rw [inV_strs]
    by_cases hin : isIn n c = true
    · have el : lw ts ps c n m = (if (left ts (wo ps n)).isEmpty = true then ("over" : Str) else if (near (left ts (wo ps n)) c m).isEmpty = true then ("stuck" : Str) else ("open" : Str)) := if_pos hin
      rw [el] at q
      rw [hin]
      refine ite2 (fun h => absurd h (by decide)) fun _ => ?_
      refine nx_set ⟨_, rfl, _, rfl, _, rfl, y, n, ps, rfl, hy.same s1, pl, fun r H2 e2 hr => ⟨x, r, ts, wo ps n, rfl, hx.same (s1.trans e2), hr, gt, fun l H3 e3 hl => ?_⟩⟩
      obtain ⟨al, us, rfl, hal, hpl⟩ := hl
      have s3 := (s1.trans e2).trans e3
      refine ⟨_, rfl, !us.isEmpty, .inr (.inl ⟨us, hal, rfl⟩), ?_⟩
      rw [prd_empty hpl]
      by_cases h1 : (left ts (wo ps n)).isEmpty = true
      · rw [if_pos h1] at q
        rw [h1]
        exact ite2 (fun _ => q _ s3) fun h => absurd rfl h
      · rw [if_neg h1] at q
        rw [Bool.eq_false_iff.mpr h1]
        refine ite2 (fun h => absurd h (by decide)) fun _ => ?_
        refine ⟨_, rfl, _, rfl, _, rfl, .ref al, .ref az, m, left ts (wo ps n), c, rfl, ⟨al, us, rfl, hal, hpl⟩, ⟨az, rfl, sameT s3 hzT⟩, gt.sub _, fun v H4 e4 hv => ?_⟩
        obtain ⟨av, ws, rfl, hav, hpv⟩ := hv
        refine ⟨!ws.isEmpty, .inr (.inl ⟨ws, hav, rfl⟩), ?_⟩
        rw [prd_empty hpv]
        by_cases h2 : (near (left ts (wo ps n)) c m).isEmpty = true
        · rw [if_pos h2] at q
          rw [h2]
          exact ite2 (fun h => absurd h (by decide)) fun _ => q _ (s3.trans e4)
        · rw [if_neg h2] at q
          rw [Bool.eq_false_iff.mpr h2]
          exact ite2 (fun _ => q _ (s3.trans e4)) fun h => absurd rfl h
    · have el : lw ts ps c n m = ("stays" : Str) := if_neg hin
      rw [el] at q
      rw [Bool.eq_false_iff.mpr hin]
      exact ite2 (fun _ => q _ s1) fun h => absurd rfl h
abbrev s_an : Stmt := top 13
abbrev N_an : List Str := ["crews", "present", "crew", "lost", "width"]
theorem sc_an : FnScope N_an ["crews", "present", "crew", "lost", "width"] (defScope s_an) := ⟨rfl, rfl, rfl, by decide +kernel, rfl, by decide +kernel, by decide +kernel⟩
theorem ok_an {f : Addr} {fd : FuncData} {k : Nat} (F : Fun K "answers" "answers" s_an f fd) (D_check : OwnR P w K mg base 2 "check_people" (sp_check K)) (D_wo : Own P w K mg base 1 "without_person" ["people", "lost"] (sp_wo K)) (D_next : Own P w K mg base 3 "next_crews" ["crews", "rest", "crew", "lost", "width"] (sp_next K)) : FnOk P w K mg base CX0 (k + 4) f fd ["crews", "present", "crew", "lost", "width"] (sp_an K) := by
  refine F.ok sc_an (fun vs H Q E h => ?_) (fun cdv A outer s H vs Q E hr h => ?_)
  · obtain ⟨_, _, _, _, _, _, _, _, rfl, _⟩ := h
    rfl
  · obtain ⟨x, y, z, n, m, ts, ps, c, rfl, ⟨hx, hy, hz, gt, pl, inP, inC, inN⟩, q⟩ := h
    have hr1 : Room 1 _ := hr.mono (by omega)
    have hr2 : Room 2 _ := hr.mono (by omega)
    have hr3 : Room 3 _ := hr.mono (by omega)
    refine ⟨_, (pss_cons (ps_expr (pe_callP D_check.G hr2 rfl D_check.m D_check.kp pass0 (pa_cons (pv 0) (pa_cons (pv 1) (pa_cons (pv 2) (pa_cons (pe_tup (pa_cons (pv 3) pa_nil)) pa_nil))))))
      (pss_one (ps_ret (pe_ifExp (pt_cmpR (o_in K) (pv 3) (pv 2) rfl) (pe_call D_next.G hr3 rfl D_next.m D_next.kp D_next.b .nil pass0 (pa_cons (pv 0) (pa_cons (pe_call D_wo.G hr1 rfl D_wo.m D_wo.kp D_wo.b .nil pass0 (pa_cons (pv 1) (pa_cons (pv 3) pa_nil))) (pa_cons (pv 2) (pa_cons (pv 3) (pa_cons (pv 4) pa_nil)))))) (pe_tup pa_nil))))), ?_⟩
    refine ⟨_, rfl, _, rfl, _, rfl, _, rfl, (by decide : 1 ≤ sizeLine), fun p np => ?_⟩
    have s0 := same_upd (o := .tup [V.str n]) np
    refine ⟨x, [y, z, .ref p], ts, [ps, c, [n]], rfl, (by decide : 3 ≤ 100), hx.same s0, gt, .cons (hy.same s0) (.cons (hz.same s0) (.cons ⟨p, rfl, st_ upd_same⟩ .nil)), three_in inP inC inN, fun H1 e1 => ?_⟩
    have s1 := s0.trans e1
    obtain ⟨az, rfl, hzT⟩ := hz
    refine ⟨_, rfl, _, rfl, az, _, rfl, .inr (sameT s1 hzT), rfl, flat_strs c, _, rfl, ?_⟩
    rw [inV_strs]
    by_cases hin : isIn n c = true
    · have el : an ts ps c n m = near (left ts (wo ps n)) c m := if_pos hin
      rw [el] at q
      rw [hin]
      refine ite2 (fun _ => ?_) fun h => absurd rfl h
      exact ⟨_, rfl, _, rfl, _, rfl, y, n, ps, rfl, hy.same s1, pl, fun r H2 e2 hr => ⟨_, rfl, _, rfl, _, rfl, x, r, .ref az, n, m, ts, wo ps n, c, rfl, hx.same (s1.trans e2), hr, ⟨az, rfl, sameT (s1.trans e2) hzT⟩, gt, hin, fun v H3 e3 hv => q v H3 ((s1.trans e2).trans e3) hv⟩⟩
    · have el : an ts ps c n m = [] := if_neg hin
      rw [el] at q
      rw [Bool.eq_false_iff.mpr hin]
      refine ite2 (fun h => absurd h (by decide)) fun _ => ?_
      exact ⟨Nat.zero_le _, fun l nl => q _ _ (s1.trans (same_upd nl)) ⟨l, [], rfl, st_ upd_same, .nil⟩⟩
end
end K18

namespace K18
open PySem PySem.Spec PyProof.Rows L2 PySem.W Cb Evl
theorem nx_ret {te : TE} {D : Ends} {rt : VK} {bk ct : Stt → Hp → Prop} {σ : Stt} {H : Hp} (h : te σ H D.rt) : (Ends.mk (tRet te D) rt bk ct).nx σ H := h
theorem Gt.ok {ts : List (List Str)} (g : Gt ts) : ∀ t ∈ ts, ∀ n ∈ t, okS n := fun t ht => (g.each t ht).2.2
section
variable {P : Program} {w : World} {K : Frag} {mg : Str → Option Value} {base : Heap}
/-! ### the law's own: the crews that can follow -/
abbrev s_lnext : Stmt := top 28
abbrev N_lnext : List Str := ["_law_teams_here", "_law_here", "_law_team", "_law_gone", "_law_limit", "_law_rest", "_law_left_here", "_law_other", "_law_name"]
theorem sc_lnext : FnScope N_lnext ["_law_teams_here", "_law_here", "_law_team", "_law_gone", "_law_limit"] (defScope s_lnext) := ⟨rfl, rfl, rfl, by decide +kernel, rfl, by decide +kernel, by decide +kernel⟩
def sc_other : Scope := { kind := .function, names := [(".0", .local), ("_law_other", .local), ("len", .globalImplicit), ("_law_limit", .cell), ("_law_team", .cell)], isGenerator := false, isCoroutine := false }
def sp_lnext (K : Frag) : Sp := fun vs H Q _ => ∃ (x y z : V) (n : Str) (m : Int) (ts : List (List Str)) (ps c : List Str), vs = [x, y, z, .str n, .int m] ∧ S2 K H x ts ∧ S1 K H y ps ∧ S1 K H z c ∧ Gt ts ∧ ps.length ≤ 1000 ∧ isIn n c = true ∧
  ((left ts (wo ps n)).isEmpty = true → ∀ H', Same H H' → Q .non H') ∧ ((left ts (wo ps n)).isEmpty = false → ∀ v H', Same H H' → S2 K H' v (near (left ts (wo ps n)) c m) → Q v H')
theorem ok_lnext {f : Addr} {fd : FuncData} {k : Nat} (F : Fun K "_law_next" "_law_next" s_lnext f fd) (B : Blt mg) (D_wo : Own P w K mg base 1 "_law_without" ["_law_here", "_law_gone"] (sp_wo K)) (D_left : Own P w K mg base 2 "_law_left" ["_law_teams_here", "_law_here"] (sp_left K)) : FnOk P w K mg base CX0 (k + 3) f fd ["_law_teams_here", "_law_here", "_law_team", "_law_gone", "_law_limit"] (sp_lnext K) := by
  refine F.ok sc_lnext (fun vs H Q E h => ?_) (fun cdv A outer s H vs Q E hr h => ?_)
  · obtain ⟨_, _, _, _, _, _, _, _, rfl, _⟩ := h
    rfl
  · obtain ⟨x, y, z, n, m, ts, ps, c, rfl, hx, hy, ⟨az, rfl, hz⟩, gt, pl, hin, q1, q2⟩ := h
    have hr1 : Room 1 _ := hr.mono (by omega)
    have hr2 : Room 2 _ := hr.mono (by omega)
    refine ⟨_, (pss_cons (ps_set (i := 5) sc_lnext.nd rfl (Or.inl rfl) (pe_call D_wo.G hr1 rfl D_wo.m D_wo.kp D_wo.b .nil pass0 (pa_cons (pv 1) (pa_cons (pv 3) pa_nil))))
      (pss_cons (ps_if (pt_cmpR (o_nin K) (pv 3) (pv 2) rfl) (pss_one (ps_ret (pe_tup (pa_cons (pv 2) pa_nil)))) pss_nil)
      (pss_cons (ps_set (i := 6) sc_lnext.nd rfl (Or.inl rfl) (pe_call D_left.G hr2 rfl D_left.m D_left.kp D_left.b .nil pass0 (pa_cons (pv 0) (pa_cons (pv 5) pa_nil))))
      (pss_cons (ps_if (pt_cmpR (o_eqD K hr.units) (pv 6) (pe_tup pa_nil) (nomark _)) (pss_one (ps_ret pe_non)) pss_nil)
      (pss_one (ps_ret (pe_callTy (c_tuple K) (by rfl) B.tuple (by decide +kernel) (pa_cons (pe_lc (own := [("_law_other", 7)]) (g := gName 7) rfl sc_lnext.nd (p_tup K (pv 6)) (blkOk_by (own := [("_law_other", 7)]) (N := N_lnext) (sc := defScope s_lnext) (by decide +kernel)) (fun _ _ _ _ _ => (pg_name (i := 7) sc_lnext.nd rfl (Or.inl rfl))) (fun _ _ _ _ _ => (pts_one (pt_cmpR op_le (pe_callB (c_len K) (by rfl) B.len (by decide +kernel) (pa_cons (pe_lc (own := [("_law_name", 8)]) (g := gName 8) rfl sc_lnext.nd (p_tup K (pv 7)) (blkOk_by (own := [("_law_name", 8)]) (N := N_lnext) (sc := sc_other) (by decide +kernel)) (fun _ _ _ _ _ => (pg_name (i := 8) sc_lnext.nd rfl (Or.inl rfl))) (fun _ _ _ _ _ => (pts_one (pt_cmpR (o_nin K) (pv 8) (pv 2) rfl))) (fun _ _ _ _ _ => (pv 8))) pa_nil)) (pv 4) (nomark _)))) (fun _ _ _ _ _ => (pv 7))) pa_nil)))))))), ?_⟩
    refine sq_set ⟨_, rfl, _, rfl, y, n, ps, rfl, hy, pl, fun r H1 e1 hr => ?_⟩
    refine ⟨_, rfl, _, rfl, az, _, rfl, .inr (sameT e1 hz), rfl, flat_strs c, _, rfl, ?_⟩
    rw [inV_strs, hin]
    refine ite2 (fun h => absurd h (by decide)) fun _ => ?_
    refine nx_set ⟨_, rfl, _, rfl, x, r, ts, wo ps n, rfl, hx.same e1, hr, gt, fun l H2 e2 hl => ?_⟩
    have s2 := e1.trans e2
    have gl : Gt (left ts (wo ps n)) := gt.sub _
    refine ⟨_, rfl, Nat.zero_le _, fun l0 nl0 => ⟨tD (left ts (wo ps n)), .tuple [], (hl.same (same_upd nl0)).dp, .tup (st_ upd_same) .nil, shaped_tD gl.ok, shaped_nilT, _, rfl, ?_⟩⟩
    have e4 : PyData.eqv (tD (left ts (wo ps n))) (.tuple []) = (left ts (wo ps n)).isEmpty := by
      unfold tD
      rw [eqv_tup_nil]
      cases left ts (wo ps n) <;> rfl
    rw [e4]
    have s3 : Same H (upd H2 l0 (.tup [])) := s2.trans (same_upd nl0)
    have hl3 := hl.same (same_upd (o := .tup []) nl0)
    generalize upd H2 l0 (.tup []) = H3 at s3 hl3
    cases hE : (left ts (wo ps n)).isEmpty with
    | true => exact ite2 (fun _ => q1 hE _ s3) fun h => absurd rfl h
    | false =>
      refine ite2 (fun h => absurd h (by decide)) fun _ => ?_
      obtain ⟨al, us, rfl, hal, hpl⟩ := hl3
      refine nx_ret ?_
      unfold tCB tCons tNil
      refine lcT_pair (F := S1 K) (fun _ _ _ _ e z => z.same e) (fun t => decide (((nc c t).length : Int) ≤ m)) (fun R hR => ⟨_, rfl, hR⟩) hal hpl (by have := gl.many; omega) (fun _ => rfl) (fun _ => rfl) (fun v t ht H4 e4 hv R hR => ?_) fun L ws H4 nL e4 hL hw => ?_
      · have t8 := (gl.each t ht).2.1
        obtain ⟨at_, rfl, hat⟩ := hv
        unfold tTest tOp
        refine lcT_filter (K := K) (tl := tVar 7) (j := 8) (vs := [8]) (xs := t.map V.str) (fun v => match v with | .str p => !isIn p c | _ => false) id (fun R hR => ⟨_, rfl, hR at_ H4 (Same.refl H4) hat⟩) (by rw [List.length_map]; omega) (fun _ => rfl) (fun v hv H5 e5 R hR => ?_) (fun v hv _ H5 e5 R hR => ⟨v, rfl, hR H5 (Same.refl H5)⟩) fun D H5 hD e5 hH => ?_
        · obtain ⟨p, _, rfl⟩ := List.mem_map.mp hv
          exact ⟨_, rfl, _, rfl, az, _, rfl, .inr (sameT ((s3.trans e4).trans e5) hz), rfl, flat_strs c, _, rfl, by rw [inV_strs]; exact hR⟩
        · have e6 : ((t.map V.str).filter (fun v => match v with | .str p => !isIn p c | _ => false)).map id = (nc c t).map V.str := by
            rw [List.map_id, List.filter_map]
            rfl
          rw [e6] at hH
          refine ⟨D, _, rfl, .inl (sl_ hH), _, rfl, _, _, rfl, rfl, _, rfl, ?_⟩
          rw [List.length_map]
          exact hR H5 e5
      · exact ⟨L, _, rfl, .inl ⟨sl_ hL, fun t nt => q2 hE _ _ ((s3.trans e4).trans (same_upd nt)) ⟨t, ws, rfl, st_ upd_same, prd_mono (fun _ _ z => z.same (same_upd nt)) hw⟩⟩⟩
/-! ### the law's own word -/
abbrev s_llw : Stmt := top 29
abbrev N_llw : List Str := ["_law_teams_here", "_law_here", "_law_team", "_law_gone", "_law_limit", "_law_later"]
theorem sc_llw : FnScope N_llw ["_law_teams_here", "_law_here", "_law_team", "_law_gone", "_law_limit"] (defScope s_llw) := ⟨rfl, rfl, rfl, by decide +kernel, rfl, by decide +kernel, by decide +kernel⟩
theorem ok_llw {f : Addr} {fd : FuncData} {k : Nat} (F : Fun K "_law_loss_word" "_law_loss_word" s_llw f fd) (D_next : Own P w K mg base 3 "_law_next" ["_law_teams_here", "_law_here", "_law_team", "_law_gone", "_law_limit"] (sp_lnext K)) : FnOk P w K mg base CX0 (k + 4) f fd ["_law_teams_here", "_law_here", "_law_team", "_law_gone", "_law_limit"] (sp_lw K) := by
  refine F.ok sc_llw (fun vs H Q E h => ?_) (fun cdv A outer s H vs Q E hr h => ?_)
  · obtain ⟨_, _, _, _, _, _, _, _, rfl, _⟩ := h
    rfl
  · obtain ⟨x, y, z, n, m, ts, ps, c, rfl, ⟨hx, hy, hz, gt, pl, inP, inC, inN⟩, q⟩ := h
    have hr3 : Room 3 _ := hr.mono (by omega)
    refine ⟨_, (pss_cons (ps_if (pt_cmpR (o_nin K) (pv 3) (pv 2) rfl) (pss_one (ps_ret pe_str)) pss_nil)
      (pss_cons (ps_set (i := 5) sc_llw.nd rfl (Or.inl rfl) (pe_call D_next.G hr3 rfl D_next.m D_next.kp D_next.b .nil pass0 (pa_cons (pv 0) (pa_cons (pv 1) (pa_cons (pv 2) (pa_cons (pv 3) (pa_cons (pv 4) pa_nil)))))))
      (pss_cons (ps_if (pt_cmpR op_isN (pv 5) pe_non (nomark _)) (pss_one (ps_ret pe_str)) pss_nil)
      (pss_one (ps_ret (pe_ifExp (pt_cmpR (o_neD K hr.units) (pv 5) (pe_tup pa_nil) (nomark _)) pe_str pe_str)))))), ?_⟩
    obtain ⟨az, rfl, hzT⟩ := hz
    refine ⟨_, rfl, _, rfl, az, _, rfl, .inr hzT, rfl, flat_strs c, _, rfl, ?_⟩
    rw [inV_strs]
    by_cases hin : isIn n c = true
    · have el : lw ts ps c n m = (if (left ts (wo ps n)).isEmpty = true then ("over" : Str) else if (near (left ts (wo ps n)) c m).isEmpty = true then ("stuck" : Str) else ("open" : Str)) := if_pos hin
      rw [el] at q
      rw [hin]
      refine ite2 (fun h => absurd h (by decide)) fun _ => ?_
      refine nx_set ⟨_, rfl, _, rfl, _, rfl, _, rfl, _, rfl, x, y, .ref az, n, m, ts, ps, c, rfl, hx, hy, ⟨az, rfl, hzT⟩, gt, pl, hin, fun h1 H1 e1 => ?_, fun h1 v H1 e1 hv => ?_⟩
      · rw [if_pos h1] at q
        exact ⟨_, rfl, rfl, _, rfl, ite2 (fun _ => q _ e1) fun h => absurd rfl h⟩
      · have h1' : ¬ (left ts (wo ps n)).isEmpty = true := by rw [h1]; decide
        rw [if_neg h1'] at q
        obtain ⟨av, ws, rfl, hav, hpv⟩ := hv
        have hv : S2 K H1 (.ref av) (near (left ts (wo ps n)) c m) := ⟨av, ws, rfl, hav, hpv⟩
        refine ⟨_, rfl, rfl, _, rfl, ite2 (fun h => absurd (of_decide_eq_true h) (by simp)) fun _ => ?_⟩
        have gn : Gt (near (left ts (wo ps n)) c m) := (gt.sub _).sub _
        refine ⟨_, rfl, Nat.zero_le _, fun l0 nl0 => ⟨tD (near (left ts (wo ps n)) c m), .tuple [], (hv.same (same_upd nl0)).dp, .tup (st_ upd_same) .nil, shaped_tD gn.ok, shaped_nilT, _, rfl, ?_⟩⟩
        have e4 : PyData.eqv (tD (near (left ts (wo ps n)) c m)) (.tuple []) = (near (left ts (wo ps n)) c m).isEmpty := by
          unfold tD
          rw [eqv_tup_nil]
          cases near (left ts (wo ps n)) c m <;> rfl
        rw [e4]
        by_cases h2 : (near (left ts (wo ps n)) c m).isEmpty = true
        · rw [if_pos h2] at q
          rw [h2]
          exact ite2 (fun h => absurd h (by decide)) fun _ => q _ (e1.trans (same_upd nl0))
        · rw [if_neg h2] at q
          rw [Bool.eq_false_iff.mpr h2]
          exact ite2 (fun _ => q _ (e1.trans (same_upd nl0))) fun h => absurd rfl h
    · have el : lw ts ps c n m = ("stays" : Str) := if_neg hin
      rw [el] at q
      rw [Bool.eq_false_iff.mpr hin]
      exact ite2 (fun _ => q _ (Same.refl _)) fun h => absurd rfl h
/-! ### the crews of the document -/
abbrev s_wide : Stmt := top 30
theorem sc_wide : FnScope ["_law_found"] [] (defScope s_wide) := ⟨rfl, rfl, rfl, by decide +kernel, rfl, by decide +kernel, by decide +kernel⟩
def wide1 : List (List Str) := [["a", "c", "p"], ["a", "c", "q"], ["a", "c", "r"], ["a", "c", "s"], ["a", "p", "q", "y"]]
def wide2 : List (List Str) := [["a", "r", "s", "x"], ["p", "q", "r", "s", "x", "y"]]
def wideT : List (List Str) := wide1 ++ wide2
def sp_wide (K : Frag) : Sp := fun vs H Q _ => vs = [] ∧ ∀ v H', Same H H' → S2 K H' v wideT → Q v H'
theorem ok_wide {f : Addr} {fd : FuncData} {k : Nat} (F : Fun K "_law_wide" "_law_wide" s_wide f fd) : FnOk P w K mg base CX0 (k + 1) f fd [] (sp_wide K) := by
  refine F.ok sc_wide (fun vs H Q E h => ?_) (fun cdv A outer s H vs Q E hr h => ?_)
  · obtain ⟨rfl, _⟩ := h
    rfl
  · obtain ⟨rfl, q⟩ := h
    refine ⟨_, (pss_cons (ps_set (i := 0) sc_wide.nd rfl (Or.inl rfl) (pe_tup (pa_cons (pe_tup (pa_cons pe_str (pa_cons pe_str (pa_cons pe_str pa_nil)))) (pa_cons (pe_tup (pa_cons pe_str (pa_cons pe_str (pa_cons pe_str pa_nil)))) (pa_cons (pe_tup (pa_cons pe_str (pa_cons pe_str (pa_cons pe_str pa_nil)))) (pa_cons (pe_tup (pa_cons pe_str (pa_cons pe_str (pa_cons pe_str pa_nil)))) (pa_cons (pe_tup (pa_cons pe_str (pa_cons pe_str (pa_cons pe_str (pa_cons pe_str pa_nil))))) pa_nil)))))))
      (pss_one (ps_ret (pe_op (o_catA K) (pv 0) (pe_tup (pa_cons (pe_tup (pa_cons pe_str (pa_cons pe_str (pa_cons pe_str (pa_cons pe_str pa_nil))))) (pa_cons (pe_tup (pa_cons pe_str (pa_cons pe_str (pa_cons pe_str (pa_cons pe_str (pa_cons pe_str (pa_cons pe_str pa_nil))))))) pa_nil))))))), ?_⟩
    refine sq_set ⟨(by decide : 3 ≤ sizeLine), fun p1 n1 => ⟨(by decide : 3 ≤ sizeLine), fun p2 n2 => ⟨(by decide : 3 ≤ sizeLine), fun p3 n3 => ⟨(by decide : 3 ≤ sizeLine), fun p4 n4 => ⟨(by decide : 4 ≤ sizeLine), fun p5 n5 => ⟨(by decide : 5 ≤ sizeLine), fun t nt => ?_⟩⟩⟩⟩⟩⟩
    refine ⟨_, rfl, (by decide : 4 ≤ sizeLine), fun p6 n6 => ⟨(by decide : 6 ≤ sizeLine), fun p7 n7 => ⟨(by decide : 2 ≤ sizeLine), fun u nu => ?_⟩⟩⟩
    have s1 := same_upd (o := .tup ((["a", "c", "p"] : List Str).map V.str)) n1
    have s2 := same_upd (o := .tup ((["a", "c", "q"] : List Str).map V.str)) n2
    have s3 := same_upd (o := .tup ((["a", "c", "r"] : List Str).map V.str)) n3
    have s4 := same_upd (o := .tup ((["a", "c", "s"] : List Str).map V.str)) n4
    have s5 := same_upd (o := .tup ((["a", "p", "q", "y"] : List Str).map V.str)) n5
    have st := same_upd (o := .tup [.ref p1, .ref p2, .ref p3, .ref p4, .ref p5]) nt
    have s6 := same_upd (o := .tup ((["a", "r", "s", "x"] : List Str).map V.str)) n6
    have s7 := same_upd (o := .tup ((["p", "q", "r", "s", "x", "y"] : List Str).map V.str)) n7
    have su := same_upd (o := .tup [.ref p6, .ref p7]) nu
    have g6 := s7.trans su
    have gt := s6.trans g6
    have g5 := st.trans gt
    have g4 := s5.trans g5
    have g3 := s4.trans g4
    have g2 := s3.trans g3
    have g1 := s2.trans g2
    refine cat_teams (ts := wide1) (us := wide2) ⟨t, _, rfl, st_ (gt _ _ upd_same), .cons ⟨p1, rfl, st_ (g1 _ _ upd_same)⟩ (.cons ⟨p2, rfl, st_ (g2 _ _ upd_same)⟩ (.cons ⟨p3, rfl, st_ (g3 _ _ upd_same)⟩ (.cons ⟨p4, rfl, st_ (g4 _ _ upd_same)⟩ (.cons ⟨p5, rfl, st_ (g5 _ _ upd_same)⟩ .nil))))⟩
      ⟨u, _, rfl, st_ upd_same, .cons ⟨p6, rfl, st_ (g6 _ _ upd_same)⟩ (.cons ⟨p7, rfl, st_ (su _ _ upd_same)⟩ .nil)⟩ (by decide) fun v H' e hv => q v H' ((s1.trans g1).trans e) hv
def wpool : List Str := ["a", "c", "p", "q", "r", "s", "x", "y"]
theorem wpool_ok : Ppl wpool := by
  refine ⟨by decide, fun n hn => ?_⟩
  have h : (wpool.all fun n => PyData.strOk n && decide ((reprText n).length ≤ 20)) = true := by decide +kernel
  have h2 := List.all_eq_true.mp h n hn
  simp only [Bool.and_eq_true, decide_eq_true_eq] at h2
  exact h2
theorem wide_pq : ∀ t ∈ wideT, Pq wpool t := by
  have h : (wideT.all fun t => !t.isEmpty && decide (t.length ≤ 8) && t.all fun n => wpool.any fun m => m == n) = true := by decide +kernel
  intro t ht
  have h2 := List.all_eq_true.mp h t ht
  simp only [Bool.and_eq_true, decide_eq_true_eq, List.all_eq_true, List.any_eq_true, Bool.not_eq_true', beq_iff_eq] at h2
  refine ⟨fun e => ?_, h2.1.2, fun n hn => ?_⟩
  · rw [e] at h2
    exact absurd h2.1.1 (by decide)
  · obtain ⟨m, hm, e⟩ := h2.2 n hn
    rw [← e]
    exact hm
end
end K18

namespace K18
open PySem PySem.Spec PyProof.Rows L2 PySem.W Cb Evl
theorem sq_par {i j : Nat} {ta : TA} {rest : TS} {D : Ends} {σ : Stt} {H : Hp} (h : ta σ H fun vs H1 => ∃ v w, vs = [v, w] ∧ rest D ((σ.set i (some v)).set j (some w)) H1) : tSeq (tPar i j ta) rest D σ H := h
structure OwnG (P : Program) (w : World) (K : Frag) (mg : Str → Option Value) (base : Heap) (k : Nat) (x : Str) (ps : List Str) (sp : Sp) where
  f : Addr
  fd : FuncData
  G : FnG P w K mg base k f fd ps sp
  m : mg x = some (.ref f)
  kp : keepIn K (.ref f) = true
  b : Binds K fd ps []
theorem nice_tri {ts : List (List Str)} {ps c : List Str} (gt : Gt ts) (p8 : ps.length ≤ 8) (okp : ∀ n ∈ ps, okS n) (c8 : c.length ≤ 8) (okc : ∀ n ∈ c, okS n) : Nice 3 70000 (.tuple [tD ts, sD ps, sD c]) :=
  (nice_tup (m := 2) (L := 20000) fun d hd => by
    simp only [List.mem_cons, List.not_mem_nil, or_false] at hd
    rcases hd with rfl | rfl | rfl
    · exact nice_tD (fun t ht => (gt.each t ht).2) gt.many
    · exact (nice_sD8 okp p8).mono (by omega) (by omega)
    · exact (nice_sD8 okc c8).mono (by omega) (by omega)).mono (Nat.le_refl _) (by show 3 * 20002 + 2 ≤ 70000; decide)
theorem lw_short (ts : List (List Str)) (ps c : List Str) (n : Str) (m : Int) : (reprText (lw ts ps c n m)).length ≤ 20 := by
  unfold lw
  split
  · split
    · decide +kernel
    · split <;> decide +kernel
  · decide +kernel
theorem nice_word {ts us : List (List Str)} {ps c : List Str} {n : Str} {m : Int} (g : Gt us) : Nice 3 70000 (.list [.str (lw ts ps c n m), tD us]) :=
  (nice_lst (m := 2) (L := 20000) fun d hd => by
    simp only [List.mem_cons, List.not_mem_nil, or_false] at hd
    rcases hd with rfl | rfl
    · exact (nice_str (lw_short ts ps c n m)).mono (by omega) (by omega)
    · exact nice_tD (fun t ht => (g.each t ht).2) g.many).mono (Nat.le_refl _) (by show 2 * 20002 + 2 ≤ 70000; decide)
theorem gt_nil : Gt [] := ⟨by decide, fun t h => absurd h (by simp)⟩
theorem gt_an {ts : List (List Str)} {ps c : List Str} {n : Str} {m : Int} (g : Gt ts) : Gt (an ts ps c n m) := by
  unfold an
  split
  · exact (g.sub _).sub _
  · exact gt_nil
theorem lw_open {ts : List (List Str)} {ps c : List Str} {n : Str} {m : Int} (h : lw ts ps c n m = ("open" : Str)) : isIn n c = true ∧ (left ts (wo ps n)).isEmpty = false := by
  unfold lw at h
  split at h
  · rename_i h1
    refine ⟨h1, ?_⟩
    split at h
    · exact absurd h (by decide +kernel)
    · rename_i h2
      exact Bool.eq_false_iff.mpr h2
  · exact absurd h (by decide +kernel)
theorem lw_else {ts : List (List Str)} {ps c : List Str} {n : Str} {m : Int} (h : lw ts ps c n m ≠ ("open" : Str)) : an ts ps c n m = [] := by
  unfold lw at h
  unfold an
  split
  · rename_i h1
    rw [if_pos h1] at h
    by_cases h2 : (left ts (wo ps n)).isEmpty = true
    · rw [List.isEmpty_iff.mp h2]
      rfl
    · rw [if_neg h2] at h
      by_cases h3 : (near (left ts (wo ps n)) c m).isEmpty = true
      · exact List.isEmpty_iff.mp h3
      · rw [if_neg h3] at h
        exact absurd rfl h
  · rfl
section
variable {P : Program} {w : World} {K : Frag} {mg : Str → Option Value} {base : Heap}
/-! ### agrees -/
abbrev s_agrees : Stmt := top 31
abbrev N_agrees : List Str := ["_law_teams_here", "_law_here", "_law_team", "_law_gone", "_law_limit", "_law_before", "_law_word", "_law_later", "_law_found", "_law_late"]
abbrev P5 : List Str := ["_law_teams_here", "_law_here", "_law_team", "_law_gone", "_law_limit"]
abbrev Q5 : List Str := ["crews", "present", "crew", "lost", "width"]
abbrev R5 : List Str := ["width", "lost", "crew", "present", "crews"]
def revSp (sp : Sp) : Sp := fun vs H Q E => ∃ v1 v2 v3 v4 v5, vs = [v5, v4, v3, v2, v1] ∧ sp [v1, v2, v3, v4, v5] H Q E
theorem sc_agrees : FnScope N_agrees P5 (defScope s_agrees) := ⟨rfl, rfl, rfl, by decide +kernel, rfl, by decide +kernel, by decide +kernel⟩
def sp_agrees (K : Frag) : Sp := fun vs H Q _ => ∃ (x y z : V) (n : Str) (m : Int) (ts : List (List Str)) (ps c : List Str), vs = [x, y, z, .str n, .int m] ∧ LossIn K H x y z n ts ps c ∧ ps.length ≤ 8 ∧ c ∈ ts ∧ ∀ H', Same H H' → Q (.bl true) H'
theorem ok_agrees {f : Addr} {fd : FuncData} {k : Nat} (F : Fun K "_law_agrees" "_law_agrees" s_agrees f fd) (B : Blt mg) (br : mg "repr" = none) (D_llw : Own P w K mg base 4 "_law_loss_word" P5 (sp_lw K)) (D_lnext : Own P w K mg base 3 "_law_next" P5 (sp_lnext K))
    (D_lw : Own P w K mg base 3 "loss_word" Q5 (sp_lw K)) (D_an : Own P w K mg base 4 "answers" Q5 (sp_an K)) (kl : FnKW P w K mg base CX0 3 D_lw.f R5 (revSp (sp_lw K))) (ka : FnKW P w K mg base CX0 4 D_an.f R5 (revSp (sp_an K))) : FnG P w K mg base (k + 5) f fd P5 (sp_agrees K) := by
  refine fnG_mk F sc_agrees (fun vs H Q E h => ?_) (fun cdv A outer s H vs Q E g hr h => ?_)
  · obtain ⟨_, _, _, _, _, _, _, _, rfl, _⟩ := h
    rfl
  · obtain ⟨x, y, z, n, m, ts, ps, c, rfl, hL, p8, hc, q⟩ := h
    have hr3 : Room 3 _ := hr.mono (by omega)
    have hr4 : Room 4 _ := hr.mono (by omega)
    have g2 : Gu (A.deeper (envOfC "_law_agrees" (defScope s_agrees) s.heap.objs.size f cdv)) := g
    refine ⟨_, (pss_cons (ps_par (by rfl) sc_agrees.nd (i := 5) (j := 6) rfl rfl (by decide) rfl rfl (pa_cons (pe_callB (c_repr K hr.units g2) (by rfl) br (by decide +kernel) (pa_cons (pe_tup (pa_cons (pv 0) (pa_cons (pv 1) (pa_cons (pv 2) pa_nil)))) pa_nil)) (pa_cons (pe_call D_llw.G hr4 rfl D_llw.m D_llw.kp D_llw.b .nil pass0 (pa_cons (pv 0) (pa_cons (pv 1) (pa_cons (pv 2) (pa_cons (pv 3) (pa_cons (pv 4) pa_nil)))))) pa_nil)) (by rfl))
      (pss_cons (ps_set (i := 7) sc_agrees.nd rfl (Or.inl rfl) (pe_mid (pe_ifExp (pt_cmpR op_eq (pv 6) pe_str (nomark _)) (pe_call D_lnext.G hr3 rfl D_lnext.m D_lnext.kp D_lnext.b .nil pass0 (pa_cons (pv 0) (pa_cons (pv 1) (pa_cons (pv 2) (pa_cons (pv 3) (pa_cons (pv 4) pa_nil)))))) (pe_tup pa_nil))))
      (pss_cons (ps_set (i := 8) sc_agrees.nd rfl (Or.inl rfl) (pe_lst (pa_cons (pe_call D_lw.G hr3 rfl D_lw.m D_lw.kp D_lw.b .nil pass0 (pa_cons (pv 0) (pa_cons (pv 1) (pa_cons (pv 2) (pa_cons (pv 3) (pa_cons (pv 4) pa_nil)))))) (pa_cons (pe_call D_an.G hr4 rfl D_an.m D_an.kp D_an.b .nil pass0 (pa_cons (pv 0) (pa_cons (pv 1) (pa_cons (pv 2) (pa_cons (pv 3) (pa_cons (pv 4) pa_nil)))))) pa_nil))))
      (pss_cons (ps_set (i := 9) sc_agrees.nd rfl (Or.inl rfl) (pe_lst (pa_cons (pe_callKW kl hr3 rfl D_lw.m D_lw.kp pass0 (pk_cons (pv 4) (pk_cons (pv 3) (pk_cons (pv 2) (pk_cons (pv 1) (pk_cons (pv 0) pk_nil)))))) pa_nil)))
      (pss_cons (ps_expr (pe_bm PySem.F.plainAttrs_list PySem.F.slot_list_append PySem.F.type_list_append mt_append (pv 9) (pa_cons (pe_callKW ka hr4 rfl D_an.m D_an.kp pass0 (pk_cons (pv 4) (pk_cons (pv 3) (pk_cons (pv 2) (pk_cons (pv 1) (pk_cons (pv 0) pk_nil)))))) pa_nil)))
      (pss_cons (ps_if (PW.pt (pw_or (pt_cmpR op_ne (pe_callB (c_repr K hr.units g2) (by rfl) br (by decide +kernel) (pa_cons (pv 8) pa_nil)) (pe_callB (c_repr K hr.units g2) (by rfl) br (by decide +kernel) (pa_cons (pe_lst (pa_cons (pv 6) (pa_cons (pv 7) pa_nil))) pa_nil)) (nomark _)) (pw_or1 (pt_cmpR op_ne (pe_callB (c_repr K hr.units g2) (by rfl) br (by decide +kernel) (pa_cons (pv 9) pa_nil)) (pe_callB (c_repr K hr.units g2) (by rfl) br (by decide +kernel) (pa_cons (pe_lst (pa_cons (pv 6) (pa_cons (pv 7) pa_nil))) pa_nil)) (nomark _))))) (pss_one (ps_ret pe_bl)) pss_nil)
      (pss_one (ps_ret (pe_cmpR op_eq (pe_callB (c_repr K hr.units g2) (by rfl) br (by decide +kernel) (pa_cons (pe_tup (pa_cons (pv 0) (pa_cons (pv 1) (pa_cons (pv 2) pa_nil)))) pa_nil)) (pv 5) (nomark _)))))))))), ?_⟩
    have gt := hL.2.2.2.1
    have okT : ∀ p ∈ ts.flatten, okS p := fun p hp => by
      obtain ⟨t, ht, hp⟩ := List.mem_flatten.mp hp
      exact gt.ok t ht p hp
    have okp : ∀ p ∈ ps, okS p := fun p hp => okT p (hL.2.2.2.2.2.1 p hp)
    have okc : ∀ p ∈ c, okS p := gt.ok c hc
    have c8 := (gt.each c hc).2.1
    have tri3 := nice_tri gt p8 okp c8 okc
    have pl : ps.length ≤ 1000 := by omega
    -- before, word
    refine sq_par ?_
    unfold tCB tCons tNil
    refine ⟨_, rfl, _, rfl, _, rfl, (by decide : 3 ≤ sizeLine), fun p1 np1 => ?_⟩
    show rRepr K [.ref p1] _ _
    have sA := same_upd (o := .tup [x, y, z]) np1
    have LA := hL.same sA
    refine repr_nice tri3 (.tup (st_ upd_same) (.cons LA.1.dp (.cons LA.2.1.dp (.cons LA.2.2.1.dp .nil)))) ?_
    refine ⟨_, rfl, _, rfl, _, rfl, _, rfl, _, rfl, x, y, z, n, m, ts, ps, c, rfl, LA, fun H2 e2 => ⟨_, _, rfl, ?_⟩⟩
    have sB := sA.trans e2
    have LB := hL.same sB
    -- later
    refine sq_set ⟨fun v H' => Same H2 H' ∧ S2 K H' v (an ts ps c n m), ?_, fun v H3 ⟨e3, hv⟩ => ?_⟩
    · refine ⟨_, rfl, rfl, _, rfl, ite2 (fun h => ?_) (fun h => ?_)⟩
      · have h := of_decide_eq_true h
        have h : lw ts ps c n m = ("open" : Str) := by injection h
        obtain ⟨hin, hne⟩ := lw_open h
        have ea : an ts ps c n m = near (left ts (wo ps n)) c m := if_pos hin
        exact ⟨_, rfl, _, rfl, _, rfl, _, rfl, _, rfl, x, y, z, n, m, ts, ps, c, rfl, LB.1, LB.2.1, LB.2.2.1, gt, pl, hin, fun h1 => absurd (h1.symm.trans hne) (by decide), fun _ v H3 e3 hv => ⟨e3, by rw [ea]; exact hv⟩⟩
      · have h : lw ts ps c n m ≠ ("open" : Str) := fun e => h (decide_eq_true (congrArg V.str e))
        have ea := lw_else h
        exact ⟨Nat.zero_le _, fun l nl => ⟨same_upd nl, by rw [ea]; exact ⟨l, [], rfl, st_ upd_same, .nil⟩⟩⟩
    have sC := sB.trans e3
    have LC := hL.same sC
    -- found
    refine sq_set ⟨_, rfl, _, rfl, _, rfl, _, rfl, _, rfl, x, y, z, n, m, ts, ps, c, rfl, LC, fun H4 e4 => ?_⟩
    have sD4 := sC.trans e4
    refine ⟨_, rfl, _, rfl, _, rfl, _, rfl, _, rfl, x, y, z, n, m, ts, ps, c, rfl, hL.same sD4, fun v5 H5 e5 h5 => ⟨(by decide : 2 ≤ sizeLine), fun Fa nF => ?_⟩⟩
    have sF := same_upd (o := .lst [V.str (lw ts ps c n m), v5]) nF
    have hF : (upd H5 Fa (.lst [V.str (lw ts ps c n m), v5])) Fa = some (.lst [V.str (lw ts ps c n m), v5]) := upd_same
    have h5 := h5.same sF
    have hv5 := ((hv.same e4).same e5).same sF
    have sE := (sD4.trans e5).trans sF
    generalize upd H5 Fa (.lst [V.str (lw ts ps c n m), v5]) = H6 at hF h5 hv5 sE
    -- late
    refine sq_set ⟨_, rfl, _, rfl, _, rfl, _, rfl, _, rfl, x, y, z, .str n, .int m, rfl, x, y, z, n, m, ts, ps, c, rfl, hL.same sE, fun H7 e7 => ⟨(by decide : 1 ≤ sizeLine), fun La nL => ?_⟩⟩
    have sG := same_upd (o := .lst [V.str (lw ts ps c n m)]) nL
    have sH := (sE.trans e7).trans sG
    have hLa : (upd H7 La (.lst [V.str (lw ts ps c n m)])) La = some (.lst [V.str (lw ts ps c n m)]) := upd_same
    refine ⟨_, rfl, .inl ⟨rfl, _, SqL.of hLa⟩, _, rfl, _, rfl, _, rfl, _, rfl, _, rfl, x, y, z, .str n, .int m, rfl, x, y, z, n, m, ts, ps, c, rfl, hL.same sH, fun v8 H8 e8 h8 => ⟨La, _, v8, rfl, rfl, e8 _ _ hLa, big (by decide : 1 ≤ 100000), ?_⟩⟩
    have f9 : Fx H8 (upd H8 La (.lst ([V.str (lw ts ps c n m)] ++ [v8]))) := Fx.mut (e8 _ _ hLa)
    have h9 : (upd H8 La (.lst ([V.str (lw ts ps c n m)] ++ [v8]))) La = some (.lst [V.str (lw ts ps c n m), v8]) := upd_same
    have s79 : Same H7 (upd H8 La (.lst ([V.str (lw ts ps c n m)] ++ [v8]))) := same_mut (sG.trans e8) nL
    have h8 := f9.s2 h8
    generalize upd H8 La (.lst ([V.str (lw ts ps c n m)] ++ [v8])) = H9 at h8 h9 s79
    have s69 := e7.trans s79
    have sI := sE.trans s69
    have nw : Nice 3 70000 (.list [.str (lw ts ps c n m), tD (an ts ps c n m)]) := nice_word (gt_an gt)
    have hF9 := s69 _ _ hF
    have h59 := h5.same s69
    have hv9 := hv5.same s69
    -- compared
    refine ⟨_, rfl, ?_⟩
    show rRepr K [.ref Fa] _ _
    refine repr_nice nw (.lst (sl_ hF9) (.cons (.str _) (.cons h59.dp .nil))) ?_
    refine ⟨_, rfl, _, rfl, (by decide : 2 ≤ sizeLine), fun l1 nl1 => ?_⟩
    show rRepr K [.ref l1] _ _
    have t1 := same_upd (o := .lst [V.str (lw ts ps c n m), v]) nl1
    refine repr_nice nw (.lst (sl_ upd_same) (.cons (.str _) (.cons (hv9.same t1).dp .nil))) ?_
    refine ⟨rfl, _, rfl, ite2 (fun h => absurd h (by simp)) fun _ => ?_⟩
    refine ⟨_, rfl, ?_⟩
    show rRepr K [.ref La] _ _
    refine repr_nice nw (.lst (sl_ (t1 _ _ h9)) (.cons (.str _) (.cons (h8.same t1).dp .nil))) ?_
    refine ⟨_, rfl, _, rfl, (by decide : 2 ≤ sizeLine), fun l2 nl2 => ?_⟩
    show rRepr K [.ref l2] _ _
    have t2 := same_upd (o := .lst [V.str (lw ts ps c n m), v]) nl2
    refine repr_nice nw (.lst (sl_ upd_same) (.cons (.str _) (.cons ((hv9.same t1).same t2).dp .nil))) ?_
    refine ⟨rfl, _, rfl, ite2 (fun h => absurd h (by simp)) fun _ => ?_⟩
    refine ⟨_, rfl, _, rfl, _, rfl, (by decide : 3 ≤ sizeLine), fun p3 np3 => ?_⟩
    show rRepr K [.ref p3] _ _
    have sZ := ((sI.trans t1).trans t2).trans (same_upd (o := .tup [x, y, z]) np3)
    have LZ := hL.same sZ
    refine repr_nice tri3 (.tup (st_ upd_same) (.cons LZ.1.dp (.cons LZ.2.1.dp (.cons LZ.2.2.1.dp .nil)))) ?_
    refine ⟨_, rfl, rfl, ?_⟩
    have := q _ sZ
    simpa using this
end
end K18

namespace K18
open PySem PySem.Spec PyProof.Rows L2 PySem.W Cb Evl
theorem nx_for {wi : TI} {g : TG} {tb u : TS} {D : Ends} {rt : VK} {bk ct : Stt → Hp → Prop} {σ : Stt} {H : Hp} (h : tFor wi g tb { D with nx := u D } σ H) : (Ends.mk (tSeq (tFor wi g tb) u D) rt bk ct).nx σ H := h
theorem prd_strs : ∀ ms : List Str, Paired (fun (v : V) s => v = V.str s) (ms.map V.str) ms
  | [] => .nil
  | _ :: ms => .cons rfl (prd_strs ms)
theorem gtW : Gt wideT := Gt.ofPq wpool_ok (by decide) wide_pq
section
variable {P : Program} {w : World} {K : Frag} {mg : Str → Option Value} {base : Heap}
/-! ### the law -/
abbrev s_law : Stmt := top 32
abbrev N_law : List Str := ["_law_script", "_law_feed_here", "_law_teams_here", "_law_limit", "_law_gone", "_law_attempt", "_law_k", "_law_here", "_law_team"]
theorem sc_law : FnScope N_law ["_law_script"] (defScope s_law) := ⟨rfl, rfl, rfl, by decide +kernel, rfl, by decide +kernel, by decide +kernel⟩
def sp_law (K : Frag) : Sp := fun vs H Q _ => ∃ (a : Addr) (ns : List Int), vs = [.ref a] ∧ SqL K H a (ns.map V.int) ∧ ∀ H', Q (.bl true) H'
theorem ok_law {f : Addr} {fd : FuncData} (F : Fun K "law" "law" s_law f fd) (B : Blt mg) (D_feed : Own P w K mg base 1 "_law_feed" ["_law_script"] (sp_feed K)) (D_wide : Own P w K mg base 1 "_law_wide" [] (sp_wide K)) (D_draw : Own P w K mg base 1 "_law_draw" ["_law_feed_here", "_law_limit"] sp_draw)
    (D_teams : Own P w K mg base 3 "_law_teams" ["_law_feed_here", "_law_most"] (sp_teams K)) (D_folk : Own P w K mg base 1 "_law_folk" ["_law_teams_here"] (sp_folk K)) (D_scene : Own P w K mg base 3 "_law_scene" ["_law_feed_here", "_law_teams_here"] (sp_scene K)) (D_agrees : OwnG P w K mg base 5 "_law_agrees" P5 (sp_agrees K)) : FnG P w K mg base 6 f fd ["_law_script"] (sp_law K) := by
  refine fnG_mk F sc_law (fun vs H Q E h => ?_) (fun cdv A outer s H vs Q E g hr h => ?_)
  · obtain ⟨_, _, rfl, _⟩ := h
    rfl
  · obtain ⟨a, zs, rfl, ha, q⟩ := h
    have hr1 : Room 1 _ := hr.mono (by omega)
    have hr3 : Room 3 _ := hr.mono (by omega)
    have g2 : Gu (A.deeper (envOfC "law" (defScope s_law) s.heap.objs.size f cdv)) := g
    refine ⟨_, (pss_cons (ps_set (i := 1) sc_law.nd rfl (Or.inl rfl) (pe_call D_feed.G hr1 rfl D_feed.m D_feed.kp D_feed.b .nil pass0 (pa_cons (pv 0) pa_nil)))
      (pss_cons (ps_set (i := 2) sc_law.nd rfl (Or.inr rfl) (pe_call0 D_wide.G hr1 rfl D_wide.m D_wide.kp D_wide.b .nil pass0))
      (pss_cons (ps_for PassesOwn.never rfl (p_tup K (pe_tup (pa_cons pe_int (pa_cons pe_int (pa_cons pe_int (pa_cons pe_int (pa_cons pe_int (pa_cons pe_int pa_nil)))))))) (pg_name (i := 3) sc_law.nd rfl (Or.inr rfl))
      (pss_one (ps_for PassesOwn.never rfl (p_tup K (pe_call D_folk.G hr1 rfl D_folk.m D_folk.kp D_folk.b .nil pass0 (pa_cons (pv 2) pa_nil))) (pg_name (i := 4) sc_law.nd rfl (Or.inl rfl))
      (pss_cons (ps_if (pt_not (pt_val (pe_callG D_agrees.G g2 hr rfl D_agrees.m D_agrees.kp D_agrees.b (pa_cons (pv 2) (pa_cons (pe_call D_folk.G hr1 rfl D_folk.m D_folk.kp D_folk.b .nil pass0 (pa_cons (pv 2) pa_nil)) (pa_cons (pe_ix (i_tup K) (pv 2) pe_int (fun _ _ => rfl)) (pa_cons (pv 4) (pa_cons (pv 3) pa_nil)))))))) (pss_one (ps_ret pe_bl)) pss_nil)
      (pss_one (ps_if (pt_not (pt_val (pe_callG D_agrees.G g2 hr rfl D_agrees.m D_agrees.kp D_agrees.b (pa_cons (pv 2) (pa_cons (pe_call D_folk.G hr1 rfl D_folk.m D_folk.kp D_folk.b .nil pass0 (pa_cons (pv 2) pa_nil)) (pa_cons (pe_ix (i_tup K) (pv 2) pe_int (fun _ _ => rfl)) (pa_cons (pv 4) (pa_cons (pv 3) pa_nil)))))))) (pss_one (ps_ret pe_bl)) pss_nil))))))
      (pss_cons (ps_for PassesOwn.never rfl (pi_range1 rfl B.range (pa_cons pe_int pa_nil)) (pg_name (i := 5) sc_law.nd rfl (Or.inl rfl))
      (pss_cons (ps_set (i := 2) sc_law.nd rfl (Or.inr rfl) (pe_call D_teams.G hr3 rfl D_teams.m D_teams.kp D_teams.b .nil pass0 (pa_cons (pv 1) (pa_cons pe_int pa_nil))))
      (pss_one (ps_for PassesOwn.never rfl (pi_range1 rfl B.range (pa_cons pe_int pa_nil)) (pg_name (i := 6) sc_law.nd rfl (Or.inl rfl))
      (pss_cons (ps_asg (pe_call D_scene.G hr3 rfl D_scene.m D_scene.kp D_scene.b .nil pass0 (pa_cons (pv 1) (pa_cons (pv 2) pa_nil))) (show PG _ _ (gTup K 2 _) from pg_tup rfl (pgs_cons (pg_name (i := 7) sc_law.nd rfl (Or.inr rfl)) (pgs_cons (pg_name (i := 8) sc_law.nd rfl (Or.inr rfl)) pgs_nil))))
      (pss_one (ps_for PassesOwn.never rfl (p_tup K (pe_tup (pa_cons pe_int (pa_cons pe_int (pa_cons (pe_call D_draw.G hr1 rfl D_draw.m D_draw.kp D_draw.b .nil pass0 (pa_cons (pv 1) (pa_cons pe_int pa_nil))) (pa_cons pe_int pa_nil)))))) (pg_name (i := 3) sc_law.nd rfl (Or.inr rfl))
      (pss_one (ps_if (pt_cmpR (o_neD K hr.units) (pe_lc (own := [("_law_gone", 4)]) (g := gName 4) rfl sc_law.nd (p_tup K (pv 7)) (blkOk_by (own := [("_law_gone", 4)]) (N := N_law) (sc := defScope s_law) (by decide +kernel)) (fun _ _ _ _ _ => (pg_name (i := 4) sc_law.nd rfl (Or.inl rfl))) (fun _ _ _ _ _ => (pts_one (pt_not (pt_val (pe_callG D_agrees.G g2 hr rfl D_agrees.m D_agrees.kp D_agrees.b (pa_cons (pv 2) (pa_cons (pv 7) (pa_cons (pv 8) (pa_cons (pv 4) (pa_cons (pv 3) pa_nil)))))))))) (fun _ _ _ _ _ => (pv 4))) (pe_lst pa_nil) (nomark _)) (pss_one (ps_ret pe_bl)) pss_nil)))))))))
      (pss_one (ps_ret pe_bl)))))), ?_⟩
    refine sq_set ⟨_, rfl, a, zs, rfl, ha, fun r c H1 s1 nr hR => ?_⟩
    refine sq_set ⟨rfl, fun x H2 e2 hx => ?_⟩
    have hR2 := hR.same e2
    -- the document's crews
    refine sq_for ?_
    refine ⟨(by decide : 6 ≤ sizeLine), fun p np => ?_⟩
    have sp := same_upd (o := .tup [V.int 0, V.int 1, V.int 2, V.int 3, V.int 6, V.int 8]) np
    have hp : SqT K (upd H2 p (.tup [V.int 0, V.int 1, V.int 2, V.int 3, V.int 6, V.int 8])) p (([0, 1, 2, 3, 6, 8] : List Int).map V.int) := st_ upd_same
    have hx3 := hx.same sp
    have hR3 := hR2.same sp
    generalize upd H2 p (.tup [V.int 0, V.int 1, V.int 2, V.int 3, V.int 6, V.int 8]) = H3 at hp hx3 hR3
    refine ⟨p, rfl, ⟨_, hp⟩, for_tup (xs := ([0, 1, 2, 3, 6, 8] : List Int).map V.int) (fun i σ' H' => ∃ (v3 v4 : Option V), σ' = [some (.ref a), some (.ref r), some x, v3, v4, none, none, none, none] ∧ Same H3 H') ⟨none, none, rfl, Same.refl _⟩ (fun i σ' H' _ z => ?_) (fun i u σ' H' hi z => ?_) fun σ' H' z => ?_⟩
    · obtain ⟨_, _, _, e⟩ := z
      exact sameT e hp
    · obtain ⟨v3, v4, rfl, eA⟩ := z
      rw [List.getElem?_map] at hi
      obtain ⟨m, _, rfl⟩ := Option.map_eq_some_iff.mp hi
      have hxA := hx3.same eA
      refine ⟨_, rfl, x, wideT, wpool, rfl, hxA, by decide, wpool_ok, wide_pq, fun v ks H4 e4 hv hk k8 => ?_⟩
      obtain ⟨fa, rfl, hf⟩ := hv
      refine ⟨fa, rfl, ⟨_, hf⟩, for_tup (xs := ks.map V.str) (fun j σ' H' => ∃ (v4 : Option V), σ' = [some (.ref a), some (.ref r), some x, some (.int m), v4, none, none, none, none] ∧ Same H4 H') ⟨v4, rfl, Same.refl _⟩ (fun j σ' H' _ z => ?_) (fun j u σ' H' hj z => ?_) fun σ' H' z => ?_⟩
      · obtain ⟨_, _, e⟩ := z
        exact sameT e hf
      · obtain ⟨v4, rfl, eB⟩ := z
        rw [List.getElem?_map] at hj
        obtain ⟨n, hn, rfl⟩ := Option.map_eq_some_iff.mp hj
        have hnf : n ∈ wideT.flatten := (hk n).mp (List.mem_of_getElem? hn)
        have hxB := (hxA.same e4).same eB
        have ag : ∀ (H5 : Hp) (i : Nat) (cr : List Str), wideT[i]? = some cr → S2 K H5 x wideT → ∃ ax xs u, x = .ref ax ∧ SqT K H5 ax xs ∧ xs[i]? = some u ∧ S1 K H5 u cr := fun H5 i cr hcr h5 => by
          obtain ⟨ax, xs, rfl, h1, h2⟩ := h5
          obtain ⟨u, h3, h4⟩ := prd_get h2 hcr
          exact ⟨ax, xs, u, rfl, h1, h3, h4⟩
        have inC : ∀ (i : Nat) (cr : List Str), wideT[i]? = some cr → ∀ p ∈ cr, p ∈ wideT.flatten := fun i cr hcr p hp => List.mem_flatten.mpr ⟨cr, List.mem_of_getElem? hcr, hp⟩
        have six : wideT[6]? = some (["p", "q", "r", "s", "x", "y"] : List Str) := rfl
        have zero : wideT[0]? = some (["a", "c", "p"] : List Str) := rfl
        refine ⟨_, rfl, _, rfl, x, wideT, wpool, rfl, hxB, by decide, wpool_ok, wide_pq, fun v5 k5 H5 e5 hv5 hk5 k58 => ?_⟩
        obtain ⟨ax, xs, u6, rfl, hx5, hu6, h6⟩ := ag H5 6 _ six (hxB.same e5)
        refine ⟨_, rfl, ax, xs, 6, u6, rfl, rfl, hx5, atI_nat (j := 6) hu6, _, rfl, _, rfl, .ref ax, v5, u6, n, m, wideT, k5, _, rfl, ⟨hxB.same e5, hv5, h6, gtW, by omega, fun p hp => (hk5 p).mp hp, inC 6 _ six, hnf⟩, k58, List.mem_of_getElem? six, fun H6 e6 => ⟨_, rfl, ite2 (fun z => absurd z (by decide)) fun _ => ?_⟩⟩
        have hx6 := (hxB.same e5).same e6
        refine ⟨_, rfl, _, rfl, .ref ax, wideT, wpool, rfl, hx6, by decide, wpool_ok, wide_pq, fun v7 k7 H7 e7 hv7 hk7 k78 => ?_⟩
        obtain ⟨ax2, xs2, u0, ex2, hx7, hu0, h0⟩ := ag H7 0 _ zero (hx6.same e7)
        cases ex2
        refine ⟨_, rfl, ax, xs2, 0, u0, rfl, rfl, hx7, atI_nat (j := 0) hu0, _, rfl, _, rfl, .ref ax, v7, u0, n, m, wideT, k7, _, rfl, ⟨hx6.same e7, hv7, h0, gtW, by omega, fun p hp => (hk7 p).mp hp, inC 0 _ zero, hnf⟩, k78, List.mem_of_getElem? zero, fun H8 e8 => ⟨_, rfl, ite2 (fun z => absurd z (by decide)) fun _ => ?_⟩⟩
        exact ⟨_, rfl, (((eB.trans e5).trans e6).trans e7).trans e8⟩
      · obtain ⟨v4, rfl, eB⟩ := z
        exact ⟨_, _, rfl, (eA.trans e4).trans eB⟩
    · obtain ⟨v3, v4, rfl, eA⟩ := z
      have hR4 := hR3.same eA
      -- drawn crews
      refine nx_for ?_
      refine ⟨6, rfl, by decide, by decide, ?_⟩
      refine for_range (lo := 0) (n := (6 : Int).toNat) (fun i σ' H' => ∃ (v2 v3 v4 v5 v6 v7 v8 : Option V), σ' = [some (.ref a), some (.ref r), v2, v3, v4, v5, v6, v7, v8] ∧ Fd H' r c (1000 * i)) ⟨_, _, _, _, _, _, _, rfl, hR4.le (by omega)⟩ (fun i σ' H5 hi z => ?_) fun σ' H5 z => ?_
      · obtain ⟨v2, v3, v4, v5, v6, v7, v8, rfl, g5⟩ := z
        have hi6 : i < 6 := by omega
        refine sq_set ⟨_, rfl, r, c, 1000 * i, rfl, by omega, g5, fun y ts H6 c6 g6 hy tne t12 hpt => ?_⟩
        have gt := Gt.ofPt t12 hpt
        refine ⟨3, rfl, by decide, by decide, ?_⟩
        refine for_range (lo := 0) (n := (3 : Int).toNat) (fun j σ' H' => ∃ (v3 v4 v6 v7 v8 : Option V), σ' = [some (.ref a), some (.ref r), some y, v3, v4, some (.int (0 + i)), v6, v7, v8] ∧ Cl r H6 H' ∧ Fd H' r c (1000 * i + 200 + 100 * j)) ⟨_, _, _, _, _, rfl, Cl.refl, g6.le (by omega)⟩ (fun j σ' H7 hj z => ?_) fun σ' H7 z => ?_
        · obtain ⟨v3, v4, v6, v7, v8, rfl, c7, g7⟩ := z
          have hj3 : j < 3 := by omega
          refine sq_asg ⟨_, rfl, _, rfl, r, c, y, _, ts, rfl, c7.s2 hy, tne, t12, hpt, by omega, g7, fun p v u ms tm H8 c8 g8 hp hv hu htm m8 inM => ⟨p, _, rfl, hp, rfl, _, _, rfl, _, _, rfl, rfl, ?_⟩⟩
          refine ⟨_, rfl, r, c, 4, _, rfl, by decide, by decide, by omega, g8, fun z H9 c9 g9 z0 z1 => ⟨(by decide : 4 ≤ sizeLine), fun pl npl => ?_⟩⟩
          have sl := same_upd (o := .tup [V.int 0, V.int 1, V.int z, V.int 8]) npl
          have hpl : SqT K (upd H9 pl (.tup [V.int 0, V.int 1, V.int z, V.int 8])) pl ([0, 1, z, 8].map V.int) := st_ upd_same
          have hyB := ((c7.trans c8).trans c9).s2 hy |>.same sl
          have hvB := (c9.s1 hv).same sl
          have huB := (c9.s1 hu).same sl
          have gB := g9.same sl
          have cB := ((c7.trans c8).trans c9).trans (Cl.of sl)
          generalize upd H9 pl (.tup [V.int 0, V.int 1, V.int z, V.int 8]) = HB at hpl hyB hvB huB gB cB
          refine ⟨pl, rfl, ⟨_, hpl⟩, for_tup (xs := [0, 1, z, 8].map V.int) (fun n σ' H' => ∃ (v3 v4 : Option V), σ' = [some (.ref a), some (.ref r), some y, v3, v4, some (.int (0 + i)), some (.int (0 + j)), some v, some u] ∧ Same HB H') ⟨_, _, rfl, Same.refl _⟩ (fun n σ' H' _ z => ?_) (fun n t σ' H' hn z => ?_) fun σ' H' z => ?_⟩
          · obtain ⟨_, _, _, e⟩ := z
            exact sameT e hpl
          · obtain ⟨v3, v4, rfl, eC⟩ := z
            rw [List.getElem?_map] at hn
            obtain ⟨m, _, rfl⟩ := Option.map_eq_some_iff.mp hn
            have hyC := hyB.same eC
            have huC := huB.same eC
            have hvC := hvB.same eC
            obtain ⟨va, rfl, hva⟩ := id hvC
            refine if_lc ?_
            refine lcT_pair (K := K) (tl := tVar 7) (j := 4) (vs := [4]) (F := fun _ (v : V) (s : Str) => v = V.str s) (us := ms.map V.str) (bs := ms) (fun _ _ _ _ _ z => z) (fun _ => false) (fun R hR => ⟨_, rfl, hR⟩) hva (prd_strs ms) (by omega) (fun _ => rfl) (fun _ => rfl) (fun t b hb H10 e10 ht R hR => ?_) fun L ws H10 nL e10 hL hw => ?_
            · subst ht
              exact ⟨_, rfl, _, rfl, _, rfl, _, rfl, _, rfl, y, .ref va, u, b, m, ts, ms, tm, rfl, ⟨hyC.same e10, hvC.same e10, huC.same e10, gt, by omega, inM, fun p hp => List.mem_flatten.mpr ⟨tm, htm, hp⟩, inM b hb⟩, m8, htm, fun H11 e11 => ⟨_, rfl, hR H11 e11⟩⟩
            · have e0 : ms.filter (fun _ => false) = [] := by simp
              rw [e0] at hw
              cases hw
              refine ⟨Nat.zero_le _, fun l nl => ⟨.list [], .list [], .lst (sl_ (same_upd nl _ _ hL)) .nil, .lst (sl_ upd_same) .nil, shaped_nil, shaped_nil, _, rfl, ?_⟩⟩
              rw [eqv_list_nil]
              exact ite2 (fun h => absurd h (by decide)) fun _ => ⟨_, _, rfl, (eC.trans e10).trans (same_upd nl)⟩
          · obtain ⟨v3, v4, rfl, eC⟩ := z
            exact ⟨_, _, _, _, _, rfl, cB.trans (Cl.of eC), (gB.same eC).le (by show 1000 * (i : Int) + 200 + 100 * (j : Int) + 20 + 1 ≤ 1000 * (i : Int) + 200 + 100 * ((j + 1 : Nat) : Int); omega)⟩
        · obtain ⟨v3, v4, v6, v7, v8, rfl, c7, g7⟩ := z
          exact ⟨_, _, _, _, _, _, _, rfl, g7.le (by show 1000 * (i : Int) + 200 + 100 * ((3 : Nat) : Int) ≤ 1000 * ((i + 1 : Nat) : Int); omega)⟩
      · obtain ⟨v2, v3, v4, v5, v6, v7, v8, rfl, g5⟩ := z
        exact q _
end
end K18

namespace K18
open PySem PySem.Spec PyProof.Rows L2 PySem.W Cb Evl
theorem all_mk {P : Program} {w : World} {K : Frag} {h : Heap} {mg : Str → Option Value} {fa : Addr} (X : K.In h) (G : h.Ns mainGlobals mg) (hfa : mg "law" = some (.ref fa))
    {od0 an0 : Option Addr} {sl0 : Array (Option Value)} {oc0 kV0 dc0 pm0 cd0 ct0 : Value} {f0 : Addr}
    (a0 : nsIn K mainGlobals "contains" = some (some (.ref f0))) (l0 : K.lookup f0 = some ⟨oc0, od0, .func (fnOf "contains" "contains" (defArgs s_contains) (defBody s_contains) (defScope s_contains) .none kV0 dc0 pm0 an0 cd0 ct0), sl0⟩) (c0 : codeIn K cd0 "contains" = true) (k0 : keepIn K (.ref f0) = true)
    {od1 an1 : Option Addr} {sl1 : Array (Option Value)} {oc1 kV1 dc1 pm1 cd1 ct1 : Value} {f1 : Addr}
    (a1 : nsIn K mainGlobals "without_person" = some (some (.ref f1))) (l1 : K.lookup f1 = some ⟨oc1, od1, .func (fnOf "without_person" "without_person" (defArgs s_wop) (defBody s_wop) (defScope s_wop) .none kV1 dc1 pm1 an1 cd1 ct1), sl1⟩) (c1 : codeIn K cd1 "without_person" = true) (k1 : keepIn K (.ref f1) = true)
    {od2 an2 : Option Addr} {sl2 : Array (Option Value)} {oc2 kV2 dc2 pm2 cd2 ct2 : Value} {f2 : Addr}
    (a2 : nsIn K mainGlobals "people_of" = some (some (.ref f2))) (l2 : K.lookup f2 = some ⟨oc2, od2, .func (fnOf "people_of" "people_of" (defArgs s_people) (defBody s_people) (defScope s_people) .none kV2 dc2 pm2 an2 cd2 ct2), sl2⟩) (c2 : codeIn K cd2 "people_of" = true) (k2 : keepIn K (.ref f2) = true)
    {od3 an3 : Option Addr} {sl3 : Array (Option Value)} {oc3 kV3 dc3 pm3 cd3 ct3 : Value} {f3 : Addr}
    (a3 : nsIn K mainGlobals "crews_within" = some (some (.ref f3))) (l3 : K.lookup f3 = some ⟨oc3, od3, .func (fnOf "crews_within" "crews_within" (defArgs s_cwithin) (defBody s_cwithin) (defScope s_cwithin) .none kV3 dc3 pm3 an3 cd3 ct3), sl3⟩) (c3 : codeIn K cd3 "crews_within" = true) (k3 : keepIn K (.ref f3) = true)
    {od4 an4 : Option Addr} {sl4 : Array (Option Value)} {oc4 kV4 dc4 pm4 cd4 ct4 : Value} {f4 : Addr}
    (a4 : nsIn K mainGlobals "check_people" = some (some (.ref f4))) (l4 : K.lookup f4 = some ⟨oc4, od4, .func (fnOf "check_people" "check_people" (defArgs s_check_people) (defBody s_check_people) (defScope s_check_people) .none kV4 dc4 pm4 an4 cd4 ct4), sl4⟩) (c4 : codeIn K cd4 "check_people" = true) (k4 : keepIn K (.ref f4) = true)
    {od5 an5 : Option Addr} {sl5 : Array (Option Value)} {oc5 kV5 dc5 pm5 cd5 ct5 : Value} {f5 : Addr}
    (a5 : nsIn K mainGlobals "newcomers" = some (some (.ref f5))) (l5 : K.lookup f5 = some ⟨oc5, od5, .func (fnOf "newcomers" "newcomers" (defArgs s_newcomers) (defBody s_newcomers) (defScope s_newcomers) .none kV5 dc5 pm5 an5 cd5 ct5), sl5⟩) (c5 : codeIn K cd5 "newcomers" = true) (k5 : keepIn K (.ref f5) = true)
    {od6 an6 : Option Addr} {sl6 : Array (Option Value)} {oc6 kV6 dc6 pm6 cd6 ct6 : Value} {f6 : Addr}
    (a6 : nsIn K mainGlobals "loss_word" = some (some (.ref f6))) (l6 : K.lookup f6 = some ⟨oc6, od6, .func (fnOf "loss_word" "loss_word" (defArgs s_lw) (defBody s_lw) (defScope s_lw) .none kV6 dc6 pm6 an6 cd6 ct6), sl6⟩) (c6 : codeIn K cd6 "loss_word" = true) (k6 : keepIn K (.ref f6) = true)
    {od7 an7 : Option Addr} {sl7 : Array (Option Value)} {oc7 kV7 dc7 pm7 cd7 ct7 : Value} {f7 : Addr}
    (a7 : nsIn K mainGlobals "answers" = some (some (.ref f7))) (l7 : K.lookup f7 = some ⟨oc7, od7, .func (fnOf "answers" "answers" (defArgs s_an) (defBody s_an) (defScope s_an) .none kV7 dc7 pm7 an7 cd7 ct7), sl7⟩) (c7 : codeIn K cd7 "answers" = true) (k7 : keepIn K (.ref f7) = true)
    {od8 an8 : Option Addr} {sl8 : Array (Option Value)} {oc8 kV8 dc8 pm8 cd8 ct8 : Value} {f8 : Addr}
    (a8 : nsIn K mainGlobals "next_crews" = some (some (.ref f8))) (l8 : K.lookup f8 = some ⟨oc8, od8, .func (fnOf "next_crews" "next_crews" (defArgs s_next) (defBody s_next) (defScope s_next) .none kV8 dc8 pm8 an8 cd8 ct8), sl8⟩) (c8 : codeIn K cd8 "next_crews" = true) (k8 : keepIn K (.ref f8) = true)
    {od9 an9 : Option Addr} {sl9 : Array (Option Value)} {oc9 kV9 dc9 pm9 cd9 ct9 : Value} {f9 : Addr}
    (a9 : nsIn K mainGlobals "near_crews" = some (some (.ref f9))) (l9 : K.lookup f9 = some ⟨oc9, od9, .func (fnOf "near_crews" "near_crews" (defArgs s_near) (defBody s_near) (defScope s_near) .none kV9 dc9 pm9 an9 cd9 ct9), sl9⟩) (c9 : codeIn K cd9 "near_crews" = true) (k9 : keepIn K (.ref f9) = true)
    {od10 an10 : Option Addr} {sl10 : Array (Option Value)} {oc10 kV10 dc10 pm10 cd10 ct10 : Value} {f10 : Addr}
    (a10 : nsIn K mainGlobals "_law_feed" = some (some (.ref f10))) (l10 : K.lookup f10 = some ⟨oc10, od10, .func (fnOf "_law_feed" "_law_feed" (defArgs s_feed) (defBody s_feed) (defScope s_feed) .none kV10 dc10 pm10 an10 cd10 ct10), sl10⟩) (c10 : codeIn K cd10 "_law_feed" = true) (k10 : keepIn K (.ref f10) = true)
    {od11 an11 : Option Addr} {sl11 : Array (Option Value)} {oc11 kV11 dc11 pm11 cd11 ct11 : Value} {f11 : Addr}
    (a11 : nsIn K mainGlobals "_law_draw" = some (some (.ref f11))) (l11 : K.lookup f11 = some ⟨oc11, od11, .func (fnOf "_law_draw" "_law_draw" (defArgs s_draw) (defBody s_draw) (defScope s_draw) .none kV11 dc11 pm11 an11 cd11 ct11), sl11⟩) (c11 : codeIn K cd11 "_law_draw" = true) (k11 : keepIn K (.ref f11) = true)
    {od12 an12 : Option Addr} {sl12 : Array (Option Value)} {oc12 kV12 dc12 pm12 cd12 ct12 : Value} {f12 : Addr}
    (a12 : nsIn K mainGlobals "_law_choice" = some (some (.ref f12))) (l12 : K.lookup f12 = some ⟨oc12, od12, .func (fnOf "_law_choice" "_law_choice" (defArgs s_choice) (defBody s_choice) (defScope s_choice) .none kV12 dc12 pm12 an12 cd12 ct12), sl12⟩) (c12 : codeIn K cd12 "_law_choice" = true) (k12 : keepIn K (.ref f12) = true)
    {od13 an13 : Option Addr} {sl13 : Array (Option Value)} {oc13 kV13 dc13 pm13 cd13 ct13 : Value} {f13 : Addr}
    (a13 : nsIn K mainGlobals "_law_folk" = some (some (.ref f13))) (l13 : K.lookup f13 = some ⟨oc13, od13, .func (fnOf "_law_folk" "_law_folk" (defArgs s_folk) (defBody s_folk) (defScope s_folk) .none kV13 dc13 pm13 an13 cd13 ct13), sl13⟩) (c13 : codeIn K cd13 "_law_folk" = true) (k13 : keepIn K (.ref f13) = true)
    {od14 an14 : Option Addr} {sl14 : Array (Option Value)} {oc14 kV14 dc14 pm14 cd14 ct14 : Value} {f14 : Addr}
    (a14 : nsIn K mainGlobals "_law_is_part" = some (some (.ref f14))) (l14 : K.lookup f14 = some ⟨oc14, od14, .func (fnOf "_law_is_part" "_law_is_part" (defArgs s_part) (defBody s_part) (defScope s_part) .none kV14 dc14 pm14 an14 cd14 ct14), sl14⟩) (c14 : codeIn K cd14 "_law_is_part" = true) (k14 : keepIn K (.ref f14) = true)
    {od15 an15 : Option Addr} {sl15 : Array (Option Value)} {oc15 kV15 dc15 pm15 cd15 ct15 : Value} {f15 : Addr}
    (a15 : nsIn K mainGlobals "_law_minimal" = some (some (.ref f15))) (l15 : K.lookup f15 = some ⟨oc15, od15, .func (fnOf "_law_minimal" "_law_minimal" (defArgs s_min) (defBody s_min) (defScope s_min) .none kV15 dc15 pm15 an15 cd15 ct15), sl15⟩) (c15 : codeIn K cd15 "_law_minimal" = true) (k15 : keepIn K (.ref f15) = true)
    {od16 an16 : Option Addr} {sl16 : Array (Option Value)} {oc16 kV16 dc16 pm16 cd16 ct16 : Value} {f16 : Addr}
    (a16 : nsIn K mainGlobals "_law_sets_of" = some (some (.ref f16))) (l16 : K.lookup f16 = some ⟨oc16, od16, .func (fnOf "_law_sets_of" "_law_sets_of" (defArgs s_sets) (defBody s_sets) (defScope s_sets) .none kV16 dc16 pm16 an16 cd16 ct16), sl16⟩) (c16 : codeIn K cd16 "_law_sets_of" = true) (k16 : keepIn K (.ref f16) = true)
    {od17 an17 : Option Addr} {sl17 : Array (Option Value)} {oc17 kV17 dc17 pm17 cd17 ct17 : Value} {f17 : Addr}
    (a17 : nsIn K mainGlobals "_law_teams" = some (some (.ref f17))) (l17 : K.lookup f17 = some ⟨oc17, od17, .func (fnOf "_law_teams" "_law_teams" (defArgs s_teams) (defBody s_teams) (defScope s_teams) .none kV17 dc17 pm17 an17 cd17 ct17), sl17⟩) (c17 : codeIn K cd17 "_law_teams" = true) (k17 : keepIn K (.ref f17) = true)
    {od18 an18 : Option Addr} {sl18 : Array (Option Value)} {oc18 kV18 dc18 pm18 cd18 ct18 : Value} {f18 : Addr}
    (a18 : nsIn K mainGlobals "_law_scene" = some (some (.ref f18))) (l18 : K.lookup f18 = some ⟨oc18, od18, .func (fnOf "_law_scene" "_law_scene" (defArgs s_scene) (defBody s_scene) (defScope s_scene) .none kV18 dc18 pm18 an18 cd18 ct18), sl18⟩) (c18 : codeIn K cd18 "_law_scene" = true) (k18 : keepIn K (.ref f18) = true)
    {od19 an19 : Option Addr} {sl19 : Array (Option Value)} {oc19 kV19 dc19 pm19 cd19 ct19 : Value} {f19 : Addr}
    (a19 : nsIn K mainGlobals "_law_left" = some (some (.ref f19))) (l19 : K.lookup f19 = some ⟨oc19, od19, .func (fnOf "_law_left" "_law_left" (defArgs s_left) (defBody s_left) (defScope s_left) .none kV19 dc19 pm19 an19 cd19 ct19), sl19⟩) (c19 : codeIn K cd19 "_law_left" = true) (k19 : keepIn K (.ref f19) = true)
    {od20 an20 : Option Addr} {sl20 : Array (Option Value)} {oc20 kV20 dc20 pm20 cd20 ct20 : Value} {f20 : Addr}
    (a20 : nsIn K mainGlobals "_law_without" = some (some (.ref f20))) (l20 : K.lookup f20 = some ⟨oc20, od20, .func (fnOf "_law_without" "_law_without" (defArgs s_l_without) (defBody s_l_without) (defScope s_l_without) .none kV20 dc20 pm20 an20 cd20 ct20), sl20⟩) (c20 : codeIn K cd20 "_law_without" = true) (k20 : keepIn K (.ref f20) = true)
    {od21 an21 : Option Addr} {sl21 : Array (Option Value)} {oc21 kV21 dc21 pm21 cd21 ct21 : Value} {f21 : Addr}
    (a21 : nsIn K mainGlobals "_law_next" = some (some (.ref f21))) (l21 : K.lookup f21 = some ⟨oc21, od21, .func (fnOf "_law_next" "_law_next" (defArgs s_lnext) (defBody s_lnext) (defScope s_lnext) .none kV21 dc21 pm21 an21 cd21 ct21), sl21⟩) (c21 : codeIn K cd21 "_law_next" = true) (k21 : keepIn K (.ref f21) = true)
    {od22 an22 : Option Addr} {sl22 : Array (Option Value)} {oc22 kV22 dc22 pm22 cd22 ct22 : Value} {f22 : Addr}
    (a22 : nsIn K mainGlobals "_law_loss_word" = some (some (.ref f22))) (l22 : K.lookup f22 = some ⟨oc22, od22, .func (fnOf "_law_loss_word" "_law_loss_word" (defArgs s_llw) (defBody s_llw) (defScope s_llw) .none kV22 dc22 pm22 an22 cd22 ct22), sl22⟩) (c22 : codeIn K cd22 "_law_loss_word" = true) (k22 : keepIn K (.ref f22) = true)
    {od23 an23 : Option Addr} {sl23 : Array (Option Value)} {oc23 kV23 dc23 pm23 cd23 ct23 : Value} {f23 : Addr}
    (a23 : nsIn K mainGlobals "_law_wide" = some (some (.ref f23))) (l23 : K.lookup f23 = some ⟨oc23, od23, .func (fnOf "_law_wide" "_law_wide" (defArgs s_wide) (defBody s_wide) (defScope s_wide) .none kV23 dc23 pm23 an23 cd23 ct23), sl23⟩) (c23 : codeIn K cd23 "_law_wide" = true) (k23 : keepIn K (.ref f23) = true)
    {od24 an24 : Option Addr} {sl24 : Array (Option Value)} {oc24 kV24 dc24 pm24 cd24 ct24 : Value} {f24 : Addr}
    (a24 : nsIn K mainGlobals "_law_agrees" = some (some (.ref f24))) (l24 : K.lookup f24 = some ⟨oc24, od24, .func (fnOf "_law_agrees" "_law_agrees" (defArgs s_agrees) (defBody s_agrees) (defScope s_agrees) .none kV24 dc24 pm24 an24 cd24 ct24), sl24⟩) (c24 : codeIn K cd24 "_law_agrees" = true) (k24 : keepIn K (.ref f24) = true)
    {od25 an25 : Option Addr} {sl25 : Array (Option Value)} {oc25 kV25 dc25 pm25 cd25 ct25 : Value} {f25 : Addr}
    (a25 : nsIn K mainGlobals "law" = some (some (.ref f25))) (l25 : K.lookup f25 = some ⟨oc25, od25, .func (fnOf "law" "law" (defArgs s_law) (defBody s_law) (defScope s_law) .none kV25 dc25 pm25 an25 cd25 ct25), sl25⟩) (c25 : codeIn K cd25 "law" = true) (k25 : keepIn K (.ref f25) = true)
    (z0 : nsIn K mainGlobals "len" = some none)
    (z1 : nsIn K mainGlobals "list" = some none)
    (z2 : nsIn K mainGlobals "tuple" = some none)
    (z3 : nsIn K mainGlobals "range" = some none)
    (z4 : nsIn K mainGlobals "sorted" = some none)
    (z5 : nsIn K mainGlobals "any" = some none)
    (z6 : nsIn K mainGlobals "all" = some none)
    (z7 : nsIn K mainGlobals "min" = some none)
    (z8 : nsIn K mainGlobals "max" = some none)
    (z9 : nsIn K mainGlobals "repr" = some none)
    (z10 : nsIn K mainGlobals "set" = some none) :
    ∃ fd : FuncData, (∀ (s : Shared) (v : Value), BindsTo s fd ⟨[v], []⟩ [("_law_script", v)]) ∧ ∀ base : Heap, K.In base → base.Ns mainGlobals mg → FnG P w K mg base 6 fa fd ["_law_script"] (sp_law K) := by
  have e := hfa.symm.trans (mg_of X G a25)
  cases e
  have F0 := fun_mk (st := s_contains) l0 c0 k0
  have b0 := F0.binds (ps := ["larger", "smaller"]) fun _ _ _ _ _ _ us hl => match us, hl with | [_, _], _ => rfl
  have F1 := fun_mk (st := s_wop) l1 c1 k1
  have b1 := F1.binds (ps := ["people", "lost"]) fun _ _ _ _ _ _ us hl => match us, hl with | [_, _], _ => rfl
  have F2 := fun_mk (st := s_people) l2 c2 k2
  have b2 := F2.binds (ps := ["crews"]) fun _ _ _ _ _ _ us hl => match us, hl with | [_], _ => rfl
  have F3 := fun_mk (st := s_cwithin) l3 c3 k3
  have b3 := F3.binds (ps := ["crews", "people"]) fun _ _ _ _ _ _ us hl => match us, hl with | [_, _], _ => rfl
  have F4 := fun_mk (st := s_check_people) l4 c4 k4
  have F5 := fun_mk (st := s_newcomers) l5 c5 k5
  have b5 := F5.binds (ps := ["crew", "other"]) fun _ _ _ _ _ _ us hl => match us, hl with | [_, _], _ => rfl
  have F6 := fun_mk (st := s_lw) l6 c6 k6
  have b6 := F6.binds (ps := ["crews", "present", "crew", "lost", "width"]) fun _ _ _ _ _ _ us hl => match us, hl with | [_, _, _, _, _], _ => rfl
  have F7 := fun_mk (st := s_an) l7 c7 k7
  have b7 := F7.binds (ps := ["crews", "present", "crew", "lost", "width"]) fun _ _ _ _ _ _ us hl => match us, hl with | [_, _, _, _, _], _ => rfl
  have F8 := fun_mk (st := s_next) l8 c8 k8
  have b8 := F8.binds (ps := ["crews", "rest", "crew", "lost", "width"]) fun _ _ _ _ _ _ us hl => match us, hl with | [_, _, _, _, _], _ => rfl
  have F9 := fun_mk (st := s_near) l9 c9 k9
  have b9 := F9.binds (ps := ["crews", "crew", "width"]) fun _ _ _ _ _ _ us hl => match us, hl with | [_, _, _], _ => rfl
  have F10 := fun_mk (st := s_feed) l10 c10 k10
  have b10 := F10.binds (ps := ["_law_script"]) fun _ _ _ _ _ _ us hl => match us, hl with | [_], _ => rfl
  have F11 := fun_mk (st := s_draw) l11 c11 k11
  have b11 := F11.binds (ps := ["_law_feed_here", "_law_limit"]) fun _ _ _ _ _ _ us hl => match us, hl with | [_, _], _ => rfl
  have F12 := fun_mk (st := s_choice) l12 c12 k12
  have b12 := F12.binds (ps := ["_law_feed_here", "_law_some"]) fun _ _ _ _ _ _ us hl => match us, hl with | [_, _], _ => rfl
  have F13 := fun_mk (st := s_folk) l13 c13 k13
  have b13 := F13.binds (ps := ["_law_teams_here"]) fun _ _ _ _ _ _ us hl => match us, hl with | [_], _ => rfl
  have F14 := fun_mk (st := s_part) l14 c14 k14
  have b14 := F14.binds (ps := ["_law_some", "_law_others"]) fun _ _ _ _ _ _ us hl => match us, hl with | [_, _], _ => rfl
  have F15 := fun_mk (st := s_min) l15 c15 k15
  have b15 := F15.binds (ps := ["_law_sets"]) fun _ _ _ _ _ _ us hl => match us, hl with | [_], _ => rfl
  have F16 := fun_mk (st := s_sets) l16 c16 k16
  have b16 := F16.binds (ps := ["_law_names", "_law_size"]) fun _ _ _ _ _ _ us hl => match us, hl with | [_, _], _ => rfl
  have F17 := fun_mk (st := s_teams) l17 c17 k17
  have b17 := F17.binds (ps := ["_law_feed_here", "_law_most"]) fun _ _ _ _ _ _ us hl => match us, hl with | [_, _], _ => rfl
  have F18 := fun_mk (st := s_scene) l18 c18 k18
  have b18 := F18.binds (ps := ["_law_feed_here", "_law_teams_here"]) fun _ _ _ _ _ _ us hl => match us, hl with | [_, _], _ => rfl
  have F19 := fun_mk (st := s_left) l19 c19 k19
  have b19 := F19.binds (ps := ["_law_teams_here", "_law_here"]) fun _ _ _ _ _ _ us hl => match us, hl with | [_, _], _ => rfl
  have F20 := fun_mk (st := s_l_without) l20 c20 k20
  have b20 := F20.binds (ps := ["_law_here", "_law_gone"]) fun _ _ _ _ _ _ us hl => match us, hl with | [_, _], _ => rfl
  have F21 := fun_mk (st := s_lnext) l21 c21 k21
  have b21 := F21.binds (ps := ["_law_teams_here", "_law_here", "_law_team", "_law_gone", "_law_limit"]) fun _ _ _ _ _ _ us hl => match us, hl with | [_, _, _, _, _], _ => rfl
  have F22 := fun_mk (st := s_llw) l22 c22 k22
  have b22 := F22.binds (ps := ["_law_teams_here", "_law_here", "_law_team", "_law_gone", "_law_limit"]) fun _ _ _ _ _ _ us hl => match us, hl with | [_, _, _, _, _], _ => rfl
  have F23 := fun_mk (st := s_wide) l23 c23 k23
  have b23 := F23.binds (ps := []) fun _ _ _ _ _ _ us hl => match us, hl with | [], _ => rfl
  have F24 := fun_mk (st := s_agrees) l24 c24 k24
  have b24 := F24.binds (ps := ["_law_teams_here", "_law_here", "_law_team", "_law_gone", "_law_limit"]) fun _ _ _ _ _ _ us hl => match us, hl with | [_, _, _, _, _], _ => rfl
  have F25 := fun_mk (st := s_law) l25 c25 k25
  have b25 := F25.binds (ps := ["_law_script"]) fun _ _ _ _ _ _ us hl => match us, hl with | [_], _ => rfl
  have B : Blt mg := ⟨mg_none_of X G z0, mg_none_of X G z1, mg_none_of X G z2, mg_none_of X G z3, mg_none_of X G z4, mg_none_of X G z5, mg_none_of X G z6, mg_none_of X G z7, mg_none_of X G z8, mg_none_of X G z9⟩
  have b_repr : mg "repr" = none := mg_none_of X G z9
  have b_set : mg "set" = none := mg_none_of X G z10
  refine ⟨fnOf "law" "law" (defArgs s_law) (defBody s_law) (defScope s_law) .none kV25 dc25 pm25 an25 cd25 ct25, fun s v => .of_eq rfl, fun base _ _ => ?_⟩
  let D0 : Own P w K mg base 1 "contains" ["larger", "smaller"] (sp_contains K) := ⟨f0, _, ok_contains F0 B, mg_of X G a0, k0, b0⟩
  let D1 : Own P w K mg base 1 "without_person" ["people", "lost"] (sp_wo K) := ⟨f1, _, ok_wop F1 B, mg_of X G a1, k1, b1⟩
  let D2 : Own P w K mg base 1 "people_of" ["crews"] (sp_people K) := ⟨f2, _, ok_people F2 B, mg_of X G a2, k2, b2⟩
  let D3 : Own P w K mg base 2 "crews_within" ["crews", "people"] (sp_cwithin K) := ⟨f3, _, ok_cwithin F3 B D0, mg_of X G a3, k3, b3⟩
  let D4 : OwnR P w K mg base 2 "check_people" (sp_check K) := ⟨f4, ok_check (k := 0) F4 B D2, mg_of X G a4, k4⟩
  let D5 : Own P w K mg base 1 "newcomers" ["crew", "other"] (sp_newcomers K) := ⟨f5, _, ok_newcomers F5 B, mg_of X G a5, k5, b5⟩
  let D9 : Own P w K mg base 2 "near_crews" ["crews", "crew", "width"] (sp_near K) := ⟨f9, _, ok_near F9 B D5, mg_of X G a9, k9, b9⟩
  let D8 : Own P w K mg base 3 "next_crews" ["crews", "rest", "crew", "lost", "width"] (sp_next K) := ⟨f8, _, ok_next F8 D3 D9, mg_of X G a8, k8, b8⟩
  let D6 : Own P w K mg base 3 "loss_word" ["crews", "present", "crew", "lost", "width"] (sp_lw K) := ⟨f6, _, ok_lw F6 D4 D1 D3 D9, mg_of X G a6, k6, b6⟩
  let D7 : Own P w K mg base 4 "answers" ["crews", "present", "crew", "lost", "width"] (sp_an K) := ⟨f7, _, ok_an F7 D4 D1 D8, mg_of X G a7, k7, b7⟩
  have kl : FnKW P w K mg base CX0 3 D6.f R5 (revSp (sp_lw K)) := kw5 (ok_lw F6 D4 D1 D3 D9) fun _ _ _ _ _ _ => .of_eq rfl
  have ka : FnKW P w K mg base CX0 4 D7.f R5 (revSp (sp_an K)) := kw5 (ok_an F7 D4 D1 D8) fun _ _ _ _ _ _ => .of_eq rfl
  let D10 : Own P w K mg base 1 "_law_feed" ["_law_script"] (sp_feed K) := ⟨f10, _, ok_feed F10 B, mg_of X G a10, k10, b10⟩
  let D11 : Own P w K mg base 1 "_law_draw" ["_law_feed_here", "_law_limit"] sp_draw := ⟨f11, _, ok_draw F11 B, mg_of X G a11, k11, b11⟩
  let D12T : Own P w K mg base 2 "_law_choice" ["_law_feed_here", "_law_some"] (sp_choiceT K) := ⟨f12, _, ok_choiceT F12 B D11, mg_of X G a12, k12, b12⟩
  let D12L : Own P w K mg base 2 "_law_choice" ["_law_feed_here", "_law_some"] (sp_choiceL K) := ⟨f12, _, ok_choiceL F12 B D11, mg_of X G a12, k12, b12⟩
  let D13 : Own P w K mg base 1 "_law_folk" ["_law_teams_here"] (sp_folk K) := ⟨f13, _, ok_folk F13 B, mg_of X G a13, k13, b13⟩
  let D14 : Own P w K mg base 1 "_law_is_part" ["_law_some", "_law_others"] (sp_part K) := ⟨f14, _, ok_part F14, mg_of X G a14, k14, b14⟩
  let D15 : Own P w K mg base 2 "_law_minimal" ["_law_sets"] (sp_min K) := ⟨f15, _, ok_min F15 B b_set D14, mg_of X G a15, k15, b15⟩
  let D16 : Own P w K mg base 1 "_law_sets_of" ["_law_names", "_law_size"] (sp_sets K) := ⟨f16, _, ok_sets F16 B, mg_of X G a16, k16, b16⟩
  let D17 : Own P w K mg base 3 "_law_teams" ["_law_feed_here", "_law_most"] (sp_teams K) := ⟨f17, _, ok_teams F17 B D11 D12L D15 D16, mg_of X G a17, k17, b17⟩
  let D18 : Own P w K mg base 3 "_law_scene" ["_law_feed_here", "_law_teams_here"] (sp_scene K) := ⟨f18, _, ok_scene F18 B D11 D12T D13, mg_of X G a18, k18, b18⟩
  let D19 : Own P w K mg base 2 "_law_left" ["_law_teams_here", "_law_here"] (sp_left K) := ⟨f19, _, ok_left F19 B D14, mg_of X G a19, k19, b19⟩
  let D20 : Own P w K mg base 1 "_law_without" ["_law_here", "_law_gone"] (sp_wo K) := ⟨f20, _, ok_lwo F20 B, mg_of X G a20, k20, b20⟩
  let D21 : Own P w K mg base 3 "_law_next" ["_law_teams_here", "_law_here", "_law_team", "_law_gone", "_law_limit"] (sp_lnext K) := ⟨f21, _, ok_lnext F21 B D20 D19, mg_of X G a21, k21, b21⟩
  let D22 : Own P w K mg base 4 "_law_loss_word" ["_law_teams_here", "_law_here", "_law_team", "_law_gone", "_law_limit"] (sp_lw K) := ⟨f22, _, ok_llw F22 D21, mg_of X G a22, k22, b22⟩
  let D23 : Own P w K mg base 1 "_law_wide" [] (sp_wide K) := ⟨f23, _, ok_wide F23, mg_of X G a23, k23, b23⟩
  let D24 : OwnG P w K mg base 5 "_law_agrees" ["_law_teams_here", "_law_here", "_law_team", "_law_gone", "_law_limit"] (sp_agrees K) := ⟨f24, _, ok_agrees F24 B b_repr D22 D21 D6 D7 kl ka, mg_of X G a24, k24, b24⟩
  exact ok_law F25 B D10 D23 D11 D17 D13 D18 D24
end K18
open PySem PySem.W PyProof.Rows
set_option maxHeartbeats 0 in
theorem PySem.Challenge.cw_crewbook_k18_losses_told_holds : PySem.Challenge.rw_crewbook_k18_losses_told.Holds := by
  w_on; o_law; k_head; (case hw => w_witness2)
  k_fill
  refine Cb.walkG (l := PySem.Challenge.rw_crewbook_k18_losses_told) (n := 63) (k := 6) (x := "_law_script") (sp := fun w => K18.sp_law _) rfl (by decide) rfl ⟨rfl, by decide, by decide⟩ (fun w h Y => PySem.W.kIn_of Y) ?F (fun _ _ a ns hl _ hS => ⟨a, ns, rfl, hS, fun _ => rfl⟩)
  case F =>
    intro w mg fa h KX G hmg
    refine' K18.all_mk KX G hmg ?a0 ?l0 ?c0 ?k0 ?a1 ?l1 ?c1 ?k1 ?a2 ?l2 ?c2 ?k2 ?a3 ?l3 ?c3 ?k3 ?a4 ?l4 ?c4 ?k4 ?a5 ?l5 ?c5 ?k5 ?a6 ?l6 ?c6 ?k6 ?a7 ?l7 ?c7 ?k7 ?a8 ?l8 ?c8 ?k8 ?a9 ?l9 ?c9 ?k9 ?a10 ?l10 ?c10 ?k10 ?a11 ?l11 ?c11 ?k11 ?a12 ?l12 ?c12 ?k12 ?a13 ?l13 ?c13 ?k13 ?a14 ?l14 ?c14 ?k14 ?a15 ?l15 ?c15 ?k15 ?a16 ?l16 ?c16 ?k16 ?a17 ?l17 ?c17 ?k17 ?a18 ?l18 ?c18 ?k18 ?a19 ?l19 ?c19 ?k19 ?a20 ?l20 ?c20 ?k20 ?a21 ?l21 ?c21 ?k21 ?a22 ?l22 ?c22 ?k22 ?a23 ?l23 ?c23 ?k23 ?a24 ?l24 ?c24 ?k24 ?a25 ?l25 ?c25 ?k25 ?z0 ?z1 ?z2 ?z3 ?z4 ?z5 ?z6 ?z7 ?z8 ?z9 ?z10
    (case a0 => k_is); (case l0 => k_is); (case c0 => k_is); (case k0 => k_is)
    (case a1 => k_is); (case l1 => k_is); (case c1 => k_is); (case k1 => k_is)
    (case a2 => k_is); (case l2 => k_is); (case c2 => k_is); (case k2 => k_is)
    (case a3 => k_is); (case l3 => k_is); (case c3 => k_is); (case k3 => k_is)
    (case a4 => k_is); (case l4 => k_is); (case c4 => k_is); (case k4 => k_is)
    (case a5 => k_is); (case l5 => k_is); (case c5 => k_is); (case k5 => k_is)
    (case a6 => k_is); (case l6 => k_is); (case c6 => k_is); (case k6 => k_is)
    (case a7 => k_is); (case l7 => k_is); (case c7 => k_is); (case k7 => k_is)
    (case a8 => k_is); (case l8 => k_is); (case c8 => k_is); (case k8 => k_is)
    (case a9 => k_is); (case l9 => k_is); (case c9 => k_is); (case k9 => k_is)
    (case a10 => k_is); (case l10 => k_is); (case c10 => k_is); (case k10 => k_is)
    (case a11 => k_is); (case l11 => k_is); (case c11 => k_is); (case k11 => k_is)
    (case a12 => k_is); (case l12 => k_is); (case c12 => k_is); (case k12 => k_is)
    (case a13 => k_is); (case l13 => k_is); (case c13 => k_is); (case k13 => k_is)
    (case a14 => k_is); (case l14 => k_is); (case c14 => k_is); (case k14 => k_is)
    (case a15 => k_is); (case l15 => k_is); (case c15 => k_is); (case k15 => k_is)
    (case a16 => k_is); (case l16 => k_is); (case c16 => k_is); (case k16 => k_is)
    (case a17 => k_is); (case l17 => k_is); (case c17 => k_is); (case k17 => k_is)
    (case a18 => k_is); (case l18 => k_is); (case c18 => k_is); (case k18 => k_is)
    (case a19 => k_is); (case l19 => k_is); (case c19 => k_is); (case k19 => k_is)
    (case a20 => k_is); (case l20 => k_is); (case c20 => k_is); (case k20 => k_is)
    (case a21 => k_is); (case l21 => k_is); (case c21 => k_is); (case k21 => k_is)
    (case a22 => k_is); (case l22 => k_is); (case c22 => k_is); (case k22 => k_is)
    (case a23 => k_is); (case l23 => k_is); (case c23 => k_is); (case k23 => k_is)
    (case a24 => k_is); (case l24 => k_is); (case c24 => k_is); (case k24 => k_is)
    (case a25 => k_is); (case l25 => k_is); (case c25 => k_is); (case k25 => k_is)
    (case z0 => k_is); (case z1 => k_is); (case z2 => k_is); (case z3 => k_is); (case z4 => k_is); (case z5 => k_is); (case z6 => k_is); (case z7 => k_is); (case z8 => k_is); (case z9 => k_is); (case z10 => k_is)
