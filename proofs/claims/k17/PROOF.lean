import PyProof.Rows.All
import Wide.All
import OpenK.AllK
import Wide.FinOn
import HandS.ForMost
import HandS.TupAny
import HandS.SortKw
import HandS.Deep
import HandS.Wide
import HandS.Defaults
import HandS.Conv
import HandS.Evl
import KE.SortData
import KE.SortKeyHeap
import PyProof.P3In
import HandS.FStrTup
import HandS.SetTxt0
import HandS.SetBool
import HandS.TupSets
import HandS.IsInst
import HandS.Zip
import HandS.Iter
import HandS.Text
import HandS.Star
import PySem.Challenge.RW_crewbook_k17_situations
import HandS.Flow
import HandS.CallLocal
set_option Elab.async false
set_option linter.all false
set_option maxRecDepth 100000
set_option maxHeartbeats 4000000
/-! Rules that the layer lacks: sorted of data, repr, in over tuples of data. -/
namespace Cb
open PySem PySem.Spec PyProof.Rows L2 PySem.W

/-! ### data that stands in the heap -/
theorem sameT {K : Frag} {H H' : Hp} {a : Addr} {xs : List V} (e : Same H H') (h : SqT K H a xs) : SqT K H' a xs := by
  rcases h with (h | ⟨o, h⟩) | h
  · exact .inl (.inl (e _ _ h))
  · exact .inl (.inr ⟨o, e _ _ h⟩)
  · exact .inr h
mutual
theorem dpSame {K : Frag} {H H' : Hp} (e : Same H H') : ∀ (d : PyData) (v : V), Dp K H v d → Dp K H' v d
  | .none, _, h => by cases h; exact .non
  | .bool _, _, h => by cases h; exact .bl _
  | .int _, _, h => by cases h; exact .int _
  | .str _, _, h => by cases h; exact .str _
  | .list ds, _, h => by
    cases h with
    | lst hs ha => exact .lst (e.seq hs) (dpsSame e ds _ ha)
  | .tuple ds, _, h => by
    cases h with
    | tup hs ha => exact .tup (sameT e hs) (dpsSame e ds _ ha)
  | .dict _, _, h => by cases h
theorem dpsSame {K : Frag} {H H' : Hp} (e : Same H H') : ∀ (ds : List PyData) (vs : List V), DpAll K H vs ds → DpAll K H' vs ds
  | [], _, h => by cases h; exact .nil
  | d :: ds, _, h => by
    cases h with
    | cons h1 h2 => exact .cons (dpSame e d _ h1) (dpsSame e ds _ h2)
end

/-! ### sorted of a list of data -/
theorem each_in {β : Type} (f : β → V) : ∀ {bs : List β} {us : List Value}, Vals (bs.map f) us → EachIs (fun u b => RelV (f b) u) us bs
  | [], us, h => by
    have h' : Vals [] us := h
    cases h'
    exact .nil
  | b :: bs, us, h => by
    have h' : Vals (f b :: bs.map f) us := h
    cases h' with
    | cons r t => exact .cons r (each_in f t)
theorem each_out {β : Type} (f : β → V) : ∀ {bs : List β} {us : List Value}, EachIs (fun u b => RelV (f b) u) us bs → Vals (bs.map f) us
  | _, _, .nil => .nil
  | _, _, .cons r t => .cons r (each_out f t)
theorem each_and {β γ : Type} {R S : γ → β → Prop} : ∀ {us : List γ} {bs : List β}, EachIs R us bs → (∀ u b, b ∈ bs → R u b → S u b) → EachIs S us bs
  | _, _, .nil, _ => .nil
  | _, _, .cons r t, f => .cons (f _ _ List.mem_cons_self r) (each_and t fun u b hb => f u b (List.mem_cons_of_mem _ hb))
/-! ### sorted of a tuple -/
section
variable {prog : Program} {w : World} {A : Around} {E : Value → Shared → Prop} {s : Shared}
theorem collect_tup {l : Addr} {vs : List Value} {Q : List Value → Shared → Prop} (hl : IsTup s.heap l vs.toArray) (hz : vs.length ≤ sizeLine) (h : Q vs { s with heap := (s.heap.push (seqObj "list" #[] 0)).update s.heap.objs.size (Obj.mapSeq (· ++ vs.toArray)) }) :
    wpAny (model prog w) A (collect (.ref l)) Q E s := by
  obtain ⟨o, ho, hc, n, hd⟩ := id hl
  have h1 : (s.heap.push (seqObj "list" #[] 0)).get? l = some o := Heap.get?_push_of_some _ ho
  have h2 : (s.heap.push (seqObj "list" #[] 0)).get? s.heap.objs.size = some (seqObj "list" #[] 0) := Heap.get?_push_size _ rfl
  have tt : (Value.type "tuple" == Value.type "tuple") = true := by rfl
  unfold collect
  refine wpAny_bind (wpAny_runValue (codeAny_builtin entry_proto_collect' ?_))
  show wpAny _ _ (newList [] >>= fun b => again (.builtin "list.__iadd__" ⟨[b, .ref l], []⟩)) _ _ s
  refine wpAny_bind (wpAny_newList (wpAny_pure ⟨Code.quiet_builtin _ (by decide +kernel), codeAny_builtin entry_list_iadd' ?_⟩))
  show wpAny _ _ (Builtin.List.listExtendWith (.ref s.heap.objs.size) (.ref l) (.ref s.heap.objs.size)) _ _ { s with heap := s.heap.push (seqObj "list" #[] 0) }
  unfold Builtin.List.listExtendWith
  refine wpAny_bind (wpAny_typeOf (T := "tuple") ⟨o, h1, hc⟩ ?_)
  rw [if_pos (by rw [tt]; simp)]
  refine wpAny_bind (listItems_at h1 hd (wpAny_bind (listItems_at h2 rfl ?_)))
  rw [if_neg (by simp)]
  refine wpAny_bind (listUpdate_at h2 rfl (wpAny_pure ?_) (Nat.zero_le _) (by rw [Array.size_append, List.size_toArray]; simp only [List.size_toArray, List.length_nil]; omega))
  refine wpAny_bind (wpAny_load (get?_update_seq h2 _) ?_)
  show wpAny _ _ (pure ((#[] : Array Value) ++ vs.toArray).toList) Q E _
  have e : ((#[] : Array Value) ++ vs.toArray).toList = vs := by simp
  rw [e]
  exact wpAny_pure h
theorem sortedT_data {β : Type} {R : Value → β → Prop} {enc : β → PyData} {vs : List Value} {bs : List β} {l : Addr} {Q : Value → Shared → Prop} (hl : IsTup s.heap l vs.toArray) (e : EachIs R vs bs) (er : EachIs (fun v b => ∃ as, Reads s.heap v (enc b) as) vs bs)
    (hal : AllAlike (bs.map enc)) (hk : Sortable (bs.map enc)) (hL : bs.length ≤ sizeLine) (hu : ∀ b, b ∈ bs → A.units + 2 + (enc b).depth < cLine)
    (h : ∀ out, out.length = bs.length → EachIs R out (bs.mergeSort (dataLe false enc)) → Q (.ref (s.heap.objs.size + 1)) { s with heap := sortedAll s.heap vs (List.toArray out) }) : wpAny (model prog w) A (call (.builtin "sorted") [.ref l]) Q E s := by
  have hv : vs.length ≤ sizeLine := by rw [e.length]; exact hL
  have er' : EachIs (fun v b => ∃ as, Reads (sortingHeap (copyHeap s.heap vs) (s.heap.objs.size + 1) vs) v (enc b) as) vs bs := er.mono fun _ _ ⟨as, r⟩ => ⟨as, PyProof.Rows.Reads.keeps (fun _ _ => sorting_copy_old) r⟩
  refine call_function_entry_kw kind_sorted plain_sorted entry_sorted (args_sorted1 _) ?_
  unfold Builtin.«sorted»
  refine wpAny_bind (m := checkCount "sorted" 1 1 _) (wpAny_pure (wpAny_bind (collect_tup hl hv (wpAny_bind (wpAny_newList ?_ hv)))))
  have sz : ((s.heap.push (seqObj "list" #[] 0)).update s.heap.objs.size (Obj.mapSeq (· ++ vs.toArray))).objs.size = s.heap.objs.size + 1 := by rw [Heap.size_update, size_push']
  show wpAny _ _ _ _ _ { s with heap := copyHeap s.heap vs }
  rw [sz]
  refine wpAny_bind (wpAny_holding (wpAny_call_entry_kw slot_list_sort ⟨_, copyHeap_at s.heap vs, rfl⟩ entry_list_sort ?_ (args_list_sort _)))
  refine list_sort_vals (s := { s with heap := copyHeap s.heap vs }) (copyHeap_at s.heap vs)
    (SortsAt.data (s := { s with heap := sortingHeap (copyHeap s.heap vs) (s.heap.objs.size + 1) vs }) (each_map (R := fun v d => ∃ as, Reads (sortingHeap (copyHeap s.heap vs) (s.heap.objs.size + 1) vs) v d as) enc er') hal hk (bound_map hu)) hv ?_
  exact ⟨_, rfl, wpAny_pure ⟨_, rfl, h _ (by rw [sortVals_length false rfl]; exact e.length) (sortVals_data false e er' hal)⟩⟩
end
/-- values with the data they stand for, in order -/
abbrev ordD (bs : List (V × PyData)) : List (V × PyData) := bs.mergeSort (dataLe false fun b : V × PyData => b.2)
def rSrt (K : Frag) : List V → Hp → VK → Prop := fun vs H Q => ∃ (a : Addr) (bs : List (V × PyData)), vs = [.ref a] ∧ (SqL K H a (bs.map (·.1)) ∨ SqT K H a (bs.map (·.1))) ∧ (∀ b ∈ bs, Dp K H b.1 b.2) ∧ AllAlike (bs.map (·.2)) ∧ Sortable (bs.map (·.2)) ∧
  (∀ b ∈ bs, b.2.depth ≤ 50) ∧ ∀ p, H p = none → Q (.ref p) (upd H p (.lst ((ordD bs).map (·.1))))
section
variable {X : Cx}
theorem cr_srt (hu : X.A.units + 64 < cLine) : CallR X (.builtin "sorted") (rSrt X.K) := by
  intro pins s σ H vs us Q I r h
  obtain ⟨a, bs, rfl, hs, hd, hal, hk, hdp, q⟩ := h
  rw [Vals.ref1 r]
  have fin : ∀ its : List Value, Vals (bs.map (·.1)) its → (bs.map (·.1)).length ≤ sizeLine → ∀ out : List Value, EachIs (fun u b => RelV b.1 u) out (ordD bs) →
      EP X pins σ Q (.ref (s.heap.objs.size + 1)) { s with heap := sortedAll s.heap its (List.toArray out) } := fun its rv hz out h2 => by
    have ro := each_out (fun b : V × PyData => b.1) h2
    obtain ⟨ep, he'⟩ := PyProof.Rows.sortedAll_at s.heap its out.toArray
    have hl2 : ((ordD bs).map (·.1)).length ≤ sizeLine := by
      rw [List.length_map, List.length_mergeSort, ← List.length_map (f := (·.1))]
      exact hz
    exact ⟨.ref _, upd H (s.heap.objs.size + 1) (.lst ((ordD bs).map (·.1))), I.laid (t' := s.toks) (fun _ _ => PyProof.Rows.sortedAll_old) (Nat.le_succ _) ⟨hl2, out, ep, ro, by simpa using he'⟩, rfl, q _ (I.hok.fresh (Nat.le_succ _))⟩
  rcases hs with hs | hs
  · obtain ⟨its, rv, hl, hz⟩ := I.list hs
    have e0 := each_in (fun b : V × PyData => b.1) rv
    exact sorted_data (enc := fun b : V × PyData => b.2) hl.isList e0 (each_and e0 fun u b hb r => Dp.reads I b.2 b.1 u (hd b hb) r) hal hk (by rw [List.length_map] at hz; exact hz) (fun b hb => by have := hdp b hb; omega) fun out h1 h2 => fin its rv hz out h2
  · obtain ⟨its, rv, hl, hz⟩ := I.tuple hs
    have e0 := each_in (fun b : V × PyData => b.1) rv
    exact sortedT_data (enc := fun b : V × PyData => b.2) hl e0 (each_and e0 fun u b hb r => Dp.reads I b.2 b.1 u (hd b hb) r) hal hk (by rw [List.length_map] at hz; exact hz) (fun b hb => by have := hdp b hb; omega) fun out h1 h2 => fin its rv hz out h2

/-! ### repr -/
def rRepr (K : Frag) : List V → Hp → VK → Prop := fun vs H Q => ∃ (a : Addr) (d : PyData), vs = [.ref a] ∧ Dp K H (.ref a) d ∧ d.showable = true ∧ d.hasDict = false ∧ d.depth ≤ 50 ∧ d.shown.length ≤ sizeLine ∧ Q (.str d.shown) H
theorem guards0 {k : Nat} {A : Around} (hr : Room k A) (h : A.guards = some []) : A.guards = some [] := h
theorem cr_repr (hu : X.A.units + 64 < cLine) (hg : X.A.guards = some []) : CallR X (.builtin "repr") (rRepr X.K) := by
  intro pins s σ H vs us Q I r h
  obtain ⟨a, d, rfl, hd, hs, hn, hdp, hz, q⟩ := h
  rw [Vals.ref1 r]
  obtain ⟨as, rd⟩ := Dp.reads I d (.ref a) (.ref a) hd rfl
  exact repr_of_reads' rd hs (PyData.noDict_hsm hn) hg (by omega) (fun _ _ e => e) (fun h' u tk hk => ⟨.str d.shown, H, I.kept hk, ⟨_, rfl⟩, q⟩) hz
theorem cr_reprB : CallR X (.builtin "repr") (fun vs H Q => ∃ b : Bool, vs = [.bl b] ∧ Q (.str (if b then "True" else "False")) H) := by
  intro pins s σ H vs us Q I r h
  obtain ⟨b, rfl, q⟩ := h
  obtain ⟨u, rfl, e⟩ := vals1 r
  obtain rfl : u = Value.bool b := e
  exact PySem.P.repr_of_bool ⟨.str _, H, I.tok _, ⟨_, rfl⟩, q⟩

/-! ### x in t, t a tuple of data -/
def rInT (K : Frag) : R2 := fun x y H Q => ∃ d ds, Dp K H x d ∧ Dp K H y (.tuple ds) ∧ SeqAt.shaped d = true ∧ SeqAt.shaped (.list ds) = true ∧ Q (.bl (ds.any fun z => PyData.eqv z d)) H
theorem op_inT (hu : X.A.units + 65 < cLine) : OpR X (compareOp .In) (rInT X.K) := by
  intro pins s σ H x y v u Q I rx ry h
  obtain ⟨d, ds, hd, he, sd, se, q⟩ := h
  obtain ⟨as, r1⟩ := Dp.reads I d x v hd rx
  obtain ⟨bs, r2⟩ := Dp.reads I (.tuple ds) y u he ry
  exact SeqAt.in_tuple_reads r2 r1 (SeqAt.canLay_of_shaped se) (SeqAt.canLay_of_shaped sd) (room_in_shaped sd hu) ⟨.bl _, H, I, rfl, q⟩
end


end Cb

/-! Defs that are called where no repr is under way. -/
namespace Cb
open PySem PySem.Spec PyProof.Rows L2 PySem.W
/-- nothing stands around that a repr would meet again -/
def Gu (A : Around) : Prop := A.guards = some []
structure FnG (P : Program) (w : World) (K : Frag) (mg : Str → Option Value) (base : Heap) (k : Nat) (f : Addr) (fd : FuncData) (ps : List Str) (sp : Sp) : Prop where
  ln : ∀ vs H Q E, sp vs H Q E → vs.length = ps.length
  go : ∀ (A : Around) (out : List Env) (s : Shared) (H : Hp) (ar : Args) (us : List Value) (vs : List V) (Q : VK) (E : XK), Gu A → Room k A → Env0 P w K mg base A out s H →
    BindsTo s fd ar (ps.zip us) → Vals vs us → sp vs H Q E → codeAny (model P w) A (.call (.ref f) ar) (CR CX0 out P w H s Q E) s
theorem FnG.of {P : Program} {w : World} {K : Frag} {mg : Str → Option Value} {base : Heap} {k : Nat} {f : Addr} {fd : FuncData} {ps : List Str} {sp : Sp} (F : FnOk P w K mg base CX0 k f fd ps sp) : FnG P w K mg base k f fd ps sp :=
  ⟨F.len, fun A out s H ar us vs Q E _ hr => F.run A out s H ar us vs Q E hr⟩
theorem FnG.up {P : Program} {w : World} {K : Frag} {mg : Str → Option Value} {base : Heap} {j k : Nat} {f : Addr} {fd : FuncData} {ps : List Str} {sp : Sp} (F : FnG P w K mg base j f fd ps sp) (h : j ≤ k) : FnG P w K mg base k f fd ps sp :=
  ⟨F.ln, fun A out s H ar us vs Q E g hr => F.go A out s H ar us vs Q E g (hr.mono h)⟩
section
variable {P : Program} {w : World} {K : Frag} {mg : Str → Option Value} {base : Heap}
/-- a def's body, with that said of what stands around -/
theorem fnG_mk {x q : Str} {st : Stmt} {f : Addr} {fd : FuncData} {N ps : List Str} {k : Nat} {sp : Sp} (F : Fun K x q st f fd) (S : FnScope N ps (defScope st)) (ln : ∀ vs H Q E, sp vs H Q E → vs.length = ps.length)
    (hb : ∀ (cdv : Value) (A : Around) (out : List Env) (s : Shared) (H : Hp) (vs : List V) (Q : VK) (E : XK), Gu A → Room k (A.deeper (envOfC q (defScope st) s.heap.objs.size f cdv)) → sp vs H Q E →
      ∃ t, PSs (cxOf CX0 P w K mg base N q (defScope st) f cdv A out s H E).nox (defBody st) t ∧ t { nx := fun _ H' => Q .non H', rt := Q } (start N vs) H) : FnG P w K mg base (k + 1) f fd ps sp := by
  obtain ⟨oc, od, kV, doc, pm, an, cdv, ct, osl, rfl, lk, hcd⟩ := F.ex
  refine ⟨ln, fun A out s H ar us vs Q E g hr e0 hbi r hsp => ?_⟩
  -- the promise of this one entry, as if it were made for all
  have one : ∀ (B : Around) (o2 : List Env) (s2 : Shared) (H2 : Hp) (v2 : List V) (Q2 : VK) (E2 : XK), Room k (B.deeper (envOfC q (defScope st) s2.heap.objs.size f cdv)) → (Gu B ∧ sp v2 H2 Q2 E2) →
      ∃ t, PSs (cxOf CX0 P w K mg base N q (defScope st) f cdv B o2 s2 H2 E2) (defBody st) t ∧ t { nx := fun _ H' => Q2 .non H', rt := Q2 } (start N v2) H2 := fun B o2 s2 H2 v2 Q2 E2 hr2 h2 => by
    obtain ⟨t, h, z⟩ := hb cdv B o2 s2 H2 v2 Q2 E2 h2.1 hr2 h2.2
    exact ⟨t, h.nox, z⟩
  have hl := ln _ _ _ _ hsp
  have KX : K.In s.heap := e0.mod.kin.keeps fun b o e => (e0.bs b o e).1
  have lim : s.heap.NoLimit := e0.mod.nolimit.keeps fun b o e => (e0.bs b o e).1
  refine codeAny_call_function hr.depth (KX _ _ lk) rfl S.co S.gen rfl (codeRec_of KX hcd) (hbi _ _ _ _ ?_)
  refine wpAny_newFunctionEnv_cells S.kind (fun ⟨n, v⟩ hy => ?_) fun env he s1 x => ?_
  · rcases S.par n (List.of_mem_zip hy).1 with z | z
    · exact .inl z
    · exact .inr ⟨z, cellsFrom_some _ _ _ (.inl z)⟩
  · subst he
    refine ⟨lim.keeps x.toInCall.keep, codeAny_func ?_⟩
    obtain ⟨t, ht, hq⟩ := one A out s H vs Q E (hr.deeper _) ⟨g, hsp⟩
    refine wpAny_mono (ht.run [] s1 (start N vs) H _ (inv_start S hr.hd e0 hl r x) hq) (fun fl s' hs => ?_) fun e s' hs => hs
    cases fl with
    | ret u => exact let ⟨v, _, H', J, rv, z⟩ := hs; ⟨v, H', J.os, J.bare, J.base, J.hok, rv, z⟩
    | next => exact let ⟨_, H', J, z⟩ := hs; ⟨V.non, H', J.os, J.bare, J.base, J.hok, rfl, z⟩
    | brk => exact let ⟨_, _, _, z⟩ := hs; False.elim z
    | cont => exact let ⟨_, _, _, z⟩ := hs; False.elim z
end
section
variable {X : Cx} {k : Nat} {f : Addr} {fd : FuncData} {ps : List Str} {sp : Sp} {x : Str} {p pos : Pos} {e : Expr} {es : List Expr} {t : TA}
theorem runG {pins : List (Addr × Obj)} {σ : L2.St} {H : Hp} {s : Shared} {Q : VK} {us : List Value} {vs : List V} (F : FnG X.prog X.w X.K X.mg X.base k f fd ps sp) (g : Gu X.A) (hr : Room k X.A) (hb : Binds X.K fd ps []) (I : Inv X pins σ H s) (r : Vals vs us)
    (h : sp vs H Q E0) : wpAny (model X.prog X.w) X.A (call (.ref f) us) (EP X pins σ Q) X.xe s := by
  have hl : (us ++ ([] : List Value)).length = ps.length := by rw [List.append_nil, ← r.length]; exact F.ln _ _ _ _ h
  have hz := hb s us I.kIn hl
  rw [List.append_nil] at hz
  refine wpAny_call (codeAny_mono (F.go X.A X.stack s H ⟨us, []⟩ us vs Q E0 g hr I.env0 hz r h) fun z s' hq => ?_)
  match z, hq with
  | .ok (.ret u), hq => exact I.after hq
  | .ok .next, hq => exact False.elim hq
  | .ok .brk, hq => exact False.elim hq
  | .ok .cont, hq => exact False.elim hq
  | .error _, hq => exact False.elim hq
/-- f(e, ..) of such a def -/
theorem pe_callG (F : FnG X.prog X.w X.K X.mg X.base k f fd ps sp) (g : Gu X.A) (hr : Room k X.A) (hg : Gl X x) (hm : X.mg x = some (.ref f)) (hk : keepIn X.K (.ref f) = true) (hb : Binds X.K fd ps [])
    (ha : PA X (e :: es) t) (hdb : (x == ("__debug__" : Str)) = false := by decide) (he : starEach (e :: es) X.env = (false, eval e X.env) :: starEach es X.env := by rfl) (hpl : (backTo pos (starEach es X.env)).any (·.1) = false := by rfl) :
    PE X (.Call (.Name x p) (e :: es) [] pos) (tCall sp [] E0 t) := by
  refine ⟨fun pins s σ H Q I h => wpAny_Call_Name_kw (ld_glob I hg hm ?_ hdb)⟩
  refine callWith_K (h₀ := X.base) I.ok.mod.kin hk (thn (ha.run pos pins s σ H _ I h) fun us s1 ⟨vs, H1, I1, r, q⟩ => ⟨I1.kIn, ?_⟩) he hpl
  have q1 : sp (vs ++ []) H1 Q E0 := q
  rw [List.append_nil] at q1
  exact runG F g hr hb I1 r q1
end

/-! ### the end of a law's row -/
theorem lawG {P : Program} {w : World} {K : Frag} {mg mb : Str → Option Value} {k : Nat} {fa a : Addr} {fd : FuncData} {x : Str} {sp : Sp} {s₁ : Shared} {vs : List Value} {ns : List Int}
    (KX : K.In s₁.heap) (hns : s₁.heap.Ns mainGlobals mg) (hb : s₁.heap.Ns builtinsNs mb) (hbb : ∀ x : Str, x ≠ "__name__" → mb x = bootBuiltins x) (hlim : s₁.heap.NoLimit) (hg : s₁.gens = #[])
    (ha : s₁.heap.get? a = some { cls := .type "list", data := .seq vs.toArray }) (hi : IntsAre vs ns) (hl : ns.length ≤ sizeLine) (hr : Room k callerA)
    (F : ∀ base : Heap, K.In base → base.Ns mainGlobals mg → FnG P w K mg base k fa fd [x] sp) (hbind : ∀ (s : Shared) (u : Value), BindsTo s fd ⟨[u], []⟩ [(x, u)])
    (hsp : ∀ H : Hp, Only H → SqL K H a (ns.map V.int) → sp [.ref a] H (fun v _ => v = .bl true) fun _ _ _ => False) :
    codeAny (model P w) callerA (.call (.ref fa) ⟨[.ref a], []⟩) (fun r s' => r = .ok (.ret (.bool true)) ∧ OldK s₁.heap s'.heap ∧ s'.os = s₁.os ∧ AllBare s'.gens) s₁ := by
  have main : ∀ H : Hp, Only H → SqL K H a (ns.map V.int) → HOk P w H s₁.heap → (∀ b, H b ≠ none → b = a ∧ K.lookup a = none) →
      codeAny (model P w) callerA (.call (.ref fa) ⟨[.ref a], []⟩) (fun r s' => r = .ok (.ret (.bool true)) ∧ OldK s₁.heap s'.heap ∧ s'.os = s₁.os ∧ AllBare s'.gens) s₁ := by
    intro H hO hS hok hA
    have off : ∀ {b : Addr}, b ≠ a → H b = none := fun {b} n => Classical.byContradiction fun z => n (hA b z).1
    have dict_off : ∀ {b : Addr} {o : Obj} {es : Array DictEntry} {ep : Nat}, s₁.heap.get? b = some o → o.data = .dict es ep → b ≠ a := fun {b o es ep} e d z => by
      subst z
      rw [ha] at e
      cases e
      exact nomatch (show Data.seq vs.toArray _ = Data.dict es ep from d)
    have ns_ : ∀ {b : Addr} {m : Str → Option Value}, s₁.heap.Ns b m → (hidT s₁.heap H).Ns b m := fun {b m} ⟨o, es, ep, e, d, r⟩ => ⟨o, es, ep, hidT_get e (off (dict_off e d)), d, r⟩
    have k_ : K.In (hidT s₁.heap H) := fun b o e => hidT_get (KX b o e) (Classical.byContradiction fun z => by
      obtain ⟨z1, z2⟩ := hA b z
      rw [z1, z2] at e
      cases e)
    have e0 : Env0 P w K mg (hidT s₁.heap H) callerA [] s₁ H :=
      ⟨rfl, ⟨k_, ns_ hns, ⟨mb, ns_ hb, hbb⟩, let ⟨mc, h1, h2⟩ := hlim; ⟨mc, ns_ h1, h2⟩⟩, fun b o e => of_hidT e, Nat.le_of_eq (hidT_size _ _), trivial, fun b z => absurd (show b ∈ ([] : List Addr) from z) (by simp), hok, .of_eq hg⟩
    refine codeAny_mono ((F _ k_ (ns_ hns)).go callerA [] s₁ H ⟨[.ref a], []⟩ [.ref a] [.ref a] _ _ rfl hr e0 (hbind s₁ (.ref a)) (.cons rfl .nil) (hsp H hO hS)) fun r s' h => ?_
    match r, h with
    | .ok (.ret u), h =>
      obtain ⟨v, H', os, bare, un, hok', r', q⟩ := h
      obtain rfl : v = .bl true := q
      obtain rfl : u = Value.bool true := r'
      refine ⟨rfl, OldK.of_keep fun b o e => ?_, os, bare⟩
      cases q : H b with
      | none => exact un.keep b o e q (fun z => absurd (show b ∈ ([] : List Addr) from z) (by simp)) (by simp)
      | some u =>
        rcases hO b with z | ⟨ob, xs, z⟩
        · exact absurd (q.symm.trans z) (by simp)
        · have e1 := (hok b _ z).1
          have e2 := (hok' b _ (un.frzs b ob _ z)).1
          rw [e] at e1
          cases e1
          exact e2
    | .ok .next, h => exact False.elim h
    | .ok .brk, h => exact False.elim h
    | .ok .cont, h => exact False.elim h
    | .error _, h => exact False.elim h
  cases hk : K.lookup a with
  | some o =>
    have e := KX a o hk
    rw [ha] at e
    cases e
    exact main (fun _ => none) (fun _ => .inl rfl) (.inr ⟨_, vs.toArray, _, hk, rfl, rfl, rfl, by rw [List.size_toArray, hi.length]; exact hl, by simpa using vals_ints hi⟩) (fun b u z => nomatch (show (none : Option HO) = some u from z)) fun b z => absurd rfl z
  | none =>
    have here : (if a = a then some (HO.frz { cls := .type "list", data := .seq vs.toArray } (.lst (ns.map V.int))) else none) = some (HO.frz { cls := .type "list", data := .seq vs.toArray } (.lst (ns.map V.int))) := if_pos rfl
    refine main (fun b => if b = a then some (.frz { cls := .type "list", data := .seq vs.toArray } (.lst (ns.map V.int))) else none) (fun b => ?_) (.inl (.inr ⟨_, here⟩)) (fun b u z => ?_) (fun b z => ?_)
    · by_cases hb : b = a
      · exact .inr ⟨_, _, if_pos hb⟩
      · exact .inl (if_neg hb)
    · by_cases hb : b = a
      · subst hb
        cases here.symm.trans z
        exact ⟨ha, by rw [List.length_map]; exact hl, vs, _, vals_ints hi, ha⟩
      · exact absurd z (by simp [hb])
    · by_cases hb : b = a
      · exact ⟨hb, hk⟩
      · exact absurd (if_neg hb) z
theorem walkG {l : OpenLaw} {n k : Nat} {q : Program} {loose : List Str} {XP : (Str → Option Value) → Heap → Prop} {YP : World → Heap → Prop} {d : DefRec} {K : Params → Frag} {sp : World → Sp} {x : Str}
    (hn : l.most = some n) (hn2 : n ≤ sizeLine) (hdf : d.params.defaults = []) (hr : Room k callerA) (hY : ∀ (w : World) (h : Heap), YP w h → (K w.params).In h)
    (F : ∀ (w : World) (mg : Str → Option Value) (fa : Addr) (h : Heap), (K w.params).In h → h.Ns mainGlobals mg → mg d.name = some (.ref fa) →
      ∃ fd : FuncData, (∀ (s : Shared) (u : Value), BindsTo s fd ⟨[u], []⟩ [(x, u)]) ∧ ∀ base : Heap, (K w.params).In base → base.Ns mainGlobals mg → FnG l.prog w (K w.params) mg base k fa fd [x] (sp w))
    (hsp : ∀ (w : World) (H : Hp) (a : Addr) (ns : List Int), ns.length ≤ n → Only H → SqL (K w.params) H a (ns.map V.int) → sp w [.ref a] H (fun v _ => v = .bl true) fun _ _ _ => False) :
    WalkO q loose XP YP l.row.toRowW d [] (fun f vs => PySem.call f vs) := by
  refine Att.attach_call hn hdf fun w s₀ s₁ mg mb fa o pm cd doc a vs ns G Y ho hd hcd hmg hobj hints hlen hg => ?_
  obtain ⟨fd, hb, hF⟩ := F w mg fa _ (hY w _ Y) G.T.g hmg
  exact lawG (hY w _ Y) G.T.g G.T.b G.T.builtins G.T.nolimit hg hobj hints (Nat.le_trans hlen hn2) hr hF hb fun H hO hS => hsp w H a ns hlen hO hS
end Cb

/-! Comprehensions with three for. -/
namespace Cb
open PySem PySem.Spec PyProof.Rows L2 PySem.W
section turns
variable {prog : Program} {w : World} {A : Around} {R : Result → Shared → Prop} {elt tg i1 : Expr} {gs : List Comprehension} {sc : Scope} {pos : Pos} {k : Nat} {fs : List Expr} {p : Pos} {it acc : Value} {env : Env} {bd : Sem PySem.Fin → Sem PySem.Fin} {s : Shared}
/-- what a turn of clause k does: bd stands for what lies behind its tests, ahead of the next turn -/
def TurnIs (c tg : Expr) (k : Nat) (fs : List Expr) (p : Pos) (it acc : Value) (env : Env) (bd : Sem PySem.Fin → Sem PySem.Fin) : Prop :=
  compTurn c k it acc env = (do
    standAt p
    match ← pyNext it with
    | none => pure (.done .next)
    | some v =>
      letOwnedTupleGo tg it v
      assign tg env v
      let mut ok := true
      for f in fs do
        if ok then ok ← isTrue f env (eval f env)
      if ok then bd (again (.compLoop c k it acc env)) else again (.compLoop c k it acc env))
/-- bd comes to its end, where Z holds -/
def Ends3 (prog : Program) (w : World) (A : Around) (bd : Sem PySem.Fin → Sem PySem.Fin) (Z : Shared → Prop) (s : Shared) : Prop :=
  ∀ (n : Sem PySem.Fin) (Q : PySem.Fin → Shared → Prop) (E : Value → Shared → Prop), (∀ s', Z s' → wpAny (model prog w) A n Q E s') → wpAny (model prog w) A (bd n) Q E s
theorem loopB (ht : TurnIs (.ListComp elt gs sc pos) tg k fs p it acc env bd) (I : Nat → Shared → Prop)
    (turn : ∀ n s, I n s → wpAny (model prog w) A (pyNext it) (fun r s1 => match r with
      | none => R (.ok .next) s1
      | some v => wpAny (model prog w) A (letOwnedTupleGo tg it v) (fun _ s2 => wpAny (model prog w) A (assign tg env v) (fun _ s3 =>
          wpAny (model prog w) A (forIn fs true fun f r => if r = true then do let ok ← isTrue f env (eval f env); pure (ForInStep.yield ok) else pure (ForInStep.yield r)) (fun ok s4 =>
            if ok = true then Ends3 prog w A bd (fun s5 => ∃ m, m < n ∧ I m s5) s4 else ∃ m, m < n ∧ I m s4) (fun _ _ => False) s3) (fun _ _ => False) s2) (fun _ _ => False) s1) (fun _ _ => False) s)
    (n : Nat) (s : Shared) (h : I n s) : codeAny (model prog w) A (.compLoop (.ListComp elt gs sc pos) k it acc env) R s := by
  refine codeAny_loop rfl I (fun n s hI => ?_) n h
  show wpAny _ A ((compTurn (.ListComp elt gs sc pos) k it acc env).onRaise (fun x => do noteFrame x env; theTreesLotGoes x)) _ _ s
  refine wpAny_noted ?_
  rw [show compTurn (.ListComp elt gs sc pos) k it acc env = _ from ht]
  refine wpAny_bind (wpAny_standAt (wpAny_bind (thnF (turn n s hI) fun r s1 h1 => ?_)))
  match r, h1 with
  | none, h1 => exact wpAny_pure h1
  | some v, h1 =>
    refine wpAny_bind (thnF h1 fun _ s2 h2 => wpAny_bind (thnF h2 fun _ s3 h3 => wpAny_bind (thnF h3 fun ok s4 h4 => ?_)))
    cases ok with
    | false => exact wpAny_pure ⟨rfl, h4⟩
    | true => exact h4 _ _ _ fun s5 h5 => wpAny_pure ⟨rfl, h5⟩
/-- where a later clause begins -/
def NextIs (c i1 : Expr) (k : Nat) (acc : Value) (env : Env) (n : Sem PySem.Fin) : Sem PySem.Fin := do
  let x ← eval i1 env
  standAt i1.pos
  let x ← foldedSetIterable i1 env x
  let _ ← runOwn (.compStart c k (← holding [x] (pyIter x)) acc env) env
  n
def LastIs (elt : Expr) (acc : Value) (env : Env) (n : Sem PySem.Fin) : Sem PySem.Fin := do
  (do let _ ← call (.builtin "list.append") [acc, ← eval elt env])
  n
theorem last_ok {Z : Shared → Prop} (h : wpAny (model prog w) A (eval elt env) (fun x s1 => wpAny (model prog w) A (call (.builtin "list.append") [acc, x]) (fun _ s2 => Z s2) (fun _ _ => False) s1) (fun _ _ => False) s) : Ends3 prog w A (LastIs elt acc env) Z s := by
  intro n Q E hn
  unfold LastIs
  exact wpAny_bind (wpAny_bind (thnF h fun x s1 h1 => wpAny_bind (thnF h1 fun _ s2 h2 => wpAny_pure (hn s2 h2))))
theorem next_ok {c : Expr} {Z : Shared → Prop} (hs : ∀ x, foldedSetIterable i1 env x = pure x)
    (h : wpAny (model prog w) A (eval i1 env) (fun x s1 => wpAny (model prog w) A (pyIter x) (fun it1 s2 => codeAny (model prog w) A (.compStart c k it1 acc env) (fun r s3 => match r with
      | .ok _ => Z s3
      | .error _ => False) s2) (fun _ _ => False) s1) (fun _ _ => False) s) : Ends3 prog w A (NextIs c i1 k acc env) Z s := by
  intro n Q E hn
  unfold NextIs
  refine wpAny_bind (thnF h fun x s1 h1 => wpAny_bind (wpAny_standAt (wpAny_bind (wpAny_of_eq (hs x) (wpAny_bind (wpAny_holding (thnF h1 fun it1 s2 h2 => ?_)))))))
  refine wpAny_bind (wpAny_runOwn ?_)
  rw [Around.mark_none]
  refine codeAny_mono h2 fun r s3 hr => ?_
  match r, hr with
  | .ok f, hr => exact hn s3 hr
  | .error e, hr => exact False.elim hr
/-- a later clause's iterator gives itself -/
theorem start_ok (hc : ((gs)[k]?).elim false (fun g => g.is_async != 0) = false) (h0 : codeAny (model prog w) A (.compLoop (.ListComp elt gs sc pos) k it acc env) R s)
    (h : wpAny (model prog w) A (pyIter it) (fun it' s' => codeAny (model prog w) A (.compLoop (.ListComp elt gs sc pos) k it' acc env) R s') (fun _ _ => False) s) :
    codeAny (model prog w) A (.compStart (.ListComp elt gs sc pos) k it acc env) R s := by
  refine codeAny_of_tree ?_
  show wpAny _ _ ((compStart (.ListComp elt gs sc pos) k it acc env).onRaise (fun x => do noteFrame x env; standAt theWindowsPlace)) _ _ s
  refine wpAny_notedAt ?_
  unfold compStart
  rw [show ((clausesOf (.ListComp elt gs sc pos))[k]?).elim false (fun g => g.is_async != 0) = false from hc]
  show wpAny _ _ (ask >>= _) _ _ s
  refine wpAny_bind (wpAny_askSetting (wpAny_ite ?_))
  split
  · exact wpAny_pure (And.intro rfl h0)
  · refine wpAny_bind (wpAny_rule ?_)
    have jp : wpAny (model prog w) A (pyIter it >>= fun l => again (.compLoop (.ListComp elt gs sc pos) k l acc env)) (fun f s' => match f with
        | .done f => R (.ok f) s'
        | .again c' => c'.quiet = true ∧ codeAny (model prog w) A c' R s') (fun _ _ => False) s := wpAny_bind (thnF h fun it' s' h' => wpAny_pure ⟨rfl, h'⟩)
    show wpAny _ _ (match (clausesOf (.ListComp elt gs sc pos))[k]? with
      | some g => standAt g.iter.pos >>= fun _ => (pyIter it >>= fun l => again (.compLoop (.ListComp elt gs sc pos) k l acc env))
      | _ => (pyIter it >>= fun l => again (.compLoop (.ListComp elt gs sc pos) k l acc env))) _ _ s
    split
    · exact wpAny_bind (wpAny_standAt (thnF jp fun _ _ z => z))
    · exact thnF jp fun _ _ z => z
end turns
section forms
variable (elt t0 i0 t1 i1 t2 i2 : Expr) (f0 f1 f2 : List Expr) (sc : Scope) (pos : Pos) (it acc : Value) (env : Env)
abbrev c3 : Expr := .ListComp elt [⟨t0, i0, f0, 0⟩, ⟨t1, i1, f1, 0⟩, ⟨t2, i2, f2, 0⟩] sc pos
theorem turn3_0 : TurnIs (c3 elt t0 i0 t1 i1 t2 i2 f0 f1 f2 sc pos) t0 0 f0 i0.pos it acc env (NextIs (c3 elt t0 i0 t1 i1 t2 i2 f0 f1 f2 sc pos) i1 1 acc env) := by
  unfold TurnIs NextIs
  rfl
theorem turn3_1 : TurnIs (c3 elt t0 i0 t1 i1 t2 i2 f0 f1 f2 sc pos) t1 1 f1 i1.pos it acc env (NextIs (c3 elt t0 i0 t1 i1 t2 i2 f0 f1 f2 sc pos) i2 2 acc env) := by
  unfold TurnIs NextIs
  rfl
theorem turn3_2 : TurnIs (c3 elt t0 i0 t1 i1 t2 i2 f0 f1 f2 sc pos) t2 2 f2 i2.pos it acc env (LastIs elt acc env) := by
  unfold TurnIs LastIs
  rfl
end forms
end Cb

namespace Cb
open PySem PySem.Spec PyProof.Rows L2 PySem.W
abbrev Stt := List (Option V)
abbrev TB := Stt → Hp → (Hp → Prop) → Prop
/-- what a clause's end asks: the element, laid behind the list at D -/
def tEnd (te : TE) (D : Addr) : TB := fun σ H N => te σ H fun y H1 => ∃ acc, H1 D = some (.lst acc) ∧ acc.length < sizeLine ∧ N (upd H1 D (.lst (acc ++ [y])))
/-- what a later clause asks -/
def tCl (wi : TI) (g : TG) (tt : TT) (tb : TB) (vs : List Nat) : TB := fun σ H N => wi σ H fun J H1 => ∃ W : Nat → Nat → Hp → Prop, (∃ m, W 0 m H1) ∧ ∀ j m H, W j m H →
  (J.stop j H ∧ N H) ∨ (J.go j H ∧ ∃ N1 : Hp → Prop, (∀ H', N1 H' → ∃ m', m' < m ∧ W (j + 1) m' H') ∧ ∀ x H', J.yld j H x H' → g x (wipe σ vs) H' fun σ2 H2 => wipe σ2 vs = wipe σ vs ∧ tt σ2 H2 fun b H3 => if b = true then tb σ2 H3 N1 else N1 H3)
section
variable {Y : Cx} {elt tg i1 : Expr} {gs : List Comprehension} {sc : Scope} {pos p : Pos} {k : Nat} {fs : List Expr} {D : Addr} {bd : Sem PySem.Fin → Sem PySem.Fin} {wi : TI} {g : TG} {tt : TT} {te : TE} {tb : TB} {vI vs : List Nat}
/-- bd keeps the block and does what tb asks; the slots vI are forgotten behind it -/
def Bd (Y : Cx) (bd : Sem PySem.Fin → Sem PySem.Fin) (tb : TB) (vI : List Nat) : Prop := ∀ (pins : List (Addr × Obj)) (σ : Stt) (H : Hp) (s : Shared) (N : Hp → Prop), Inv Y pins σ H s → tb σ H N →
  Ends3 Y.prog Y.w Y.A bd (fun s' => ∃ H', Inv Y pins (wipe σ vI) H' s' ∧ N H') s
theorem bd_last (hx : Y.xe = fun _ _ => False) (he : PE Y elt te) : Bd Y (LastIs elt (.ref D) Y.env) (tEnd te D) [] := by
  intro pins σ H s N I h
  have q := he.run pins s σ H _ I h
  rw [hx] at q
  refine last_ok (thnF q fun x s1 hz => ?_)
  obtain ⟨yv, H1, I1, r1, acc, hD, hl, nx⟩ := hz
  exact app_ok I1 hD hl r1 fun s2 I2 => ⟨_, I2, nx⟩
theorem bd_clause (hx : Y.xe = fun _ _ => False) (hc : Y.calm = true) (tu : ∀ it, TurnIs (.ListComp elt gs sc pos) tg k fs p it (.ref D) Y.env bd) (hgs : ((gs)[k]?).elim false (fun g => g.is_async != 0) = false)
    (hs : ∀ x, foldedSetIterable i1 Y.env x = pure x) (hi : PI Y tg i1 wi) (hg : PG Y tg g) (ht : PTs Y fs tt) (hb : Bd Y bd tb vI) (hv : ∀ i ∈ vI, i ∈ vs) :
    Bd Y (NextIs (.ListComp elt gs sc pos) i1 k (.ref D) Y.env) (tCl wi g tt tb vs) vs := by
  intro pins σ H s N I h
  have q := hi.run pins s σ H _ I h
  rw [hx] at q
  refine next_ok hs (thnF q fun xv s1 hz => thnF hz fun itv s2 h2 => ?_)
  obtain ⟨it, fp, tn, J, H2, rfl, I2, T, st2, f2, W, ⟨m0, w0⟩, tr⟩ := h2
  have fpk : ∀ {H' : Hp}, (∀ b ∈ fp, H' b = none) → ∀ b ∈ fp, FpOk Y pins H' b := fun n b hb => ⟨n b hb, (f2 b hb).2⟩
  have lp : codeAny (model Y.prog Y.w) Y.A (.compLoop (.ListComp elt gs sc pos) k (.ref it) (.ref D) Y.env) (fun r s3 => match r with
      | .ok _ => ∃ H', Inv Y pins (wipe σ vs) H' s3 ∧ N H'
      | .error _ => False) s2 := by
    refine loopB (tu _) (fun n s' => ∃ j H', Inv Y pins (wipe σ vs) H' s' ∧ tn j s'.heap ∧ (∀ b ∈ fp, H' b = none) ∧ W j n H') (fun n s3 h3 => ?_) m0 s2 ⟨0, H2, I2.weak (wipe_length _ _) (fun _ _ e => (wipe_some e).1), st2, fun b hb => (f2 b hb).1, w0⟩
    obtain ⟨j, H3, I3, st3, n3, w3⟩ := h3
    rcases tr j n H3 w3 with ⟨stop, nx⟩ | ⟨go, N1, hN, step⟩
    · refine thnF (T.done Y rfl rfl rfl hc j pins s3 _ H3 (fun _ _ => False) I3 (fpk n3) st3 stop) fun r s4 hr => ?_
      obtain ⟨rfl, I4⟩ := hr
      exact ⟨H3, I4, nx⟩
    · refine thnF (T.item Y rfl rfl rfl hc j pins s3 _ H3 (fun _ _ => False) I3 (fpk n3) st3 go) fun r s4 hr => ?_
      obtain ⟨u, rfl, h4⟩ := hr
      refine thnF h4 fun _ s5 h5 => ?_
      obtain ⟨x, H5, I5, r5, y5, st5, n5⟩ := h5
      have a1 := hg.run _ s5 _ H5 x u _ (I5.pinned (fpk n5) (T.obj _ _ st5)) r5 (step x H5 y5)
      rw [hx] at a1
      refine thnF a1 fun _ s6 h6 => ?_
      obtain ⟨σ6, H6, I6, e6, q6⟩ := h6
      have a2 := ht.run _ s6 σ6 H6 _ I6 q6
      rw [hx] at a2
      refine thnF a2 fun b s7 h7 => ?_
      obtain ⟨H7, I7, q7⟩ := h7
      have back : ∀ {σ8 : Stt} {s' : Shared} {H' : Hp}, Inv Y (pins ++ pinsAt fp s5.heap) σ8 H' s' → σ8.length = σ6.length → (∀ (i : Nat) v, (wipe σ vs)[i]? = some (some v) → σ8[i]? = some (some v)) → N1 H' →
          ∃ m, m < n ∧ ∃ j H', Inv Y pins (wipe σ vs) H' s' ∧ tn j s'.heap ∧ (∀ b ∈ fp, H' b = none) ∧ W j m H' := fun {σ8 s' H'} I' hl hk nx => by
        obtain ⟨m', hm, w'⟩ := hN H' nx
        have at_ : ∀ b ∈ fp, ∀ o, s5.heap.get? b = some o → s'.heap.get? b = some o ∧ H' b = none := fun b hb o e =>
          ⟨(I'.pin (b, o) (List.mem_append_right _ (List.mem_append_right _ (mem_pinsAt hb e)))).1, (I'.pin (b, o) (List.mem_append_right _ (List.mem_append_right _ (mem_pinsAt hb e)))).2.1⟩
        refine ⟨m', hm, j + 1, H', I'.unpinned.weak (by rw [hl, ← wipe_length σ6 vs, e6]) hk, T.keep _ _ _ st5 fun b hb o e => (at_ b hb o e).1, fun b hb => ?_, w'⟩
        obtain ⟨o, e, _⟩ := T.obj _ _ st5 b hb
        exact (at_ b hb o e).2
      have k6 : ∀ (i : Nat) v, (wipe σ vs)[i]? = some (some v) → σ6[i]? = some (some v) ∧ i ∉ vs := fun i v e => by
        rw [← e6] at e
        exact wipe_some e
      cases b with
      | false => exact back I7 rfl (fun i v e => (k6 i v e).1) q7
      | true =>
        intro nn QQ EE hn
        refine hb _ σ6 H7 s7 N1 I7 q7 nn QQ EE fun s8 h8 => hn s8 ?_
        obtain ⟨H8, I8, nx⟩ := h8
        refine back I8 (wipe_length _ _) (fun i v e => ?_) nx
        rw [wipe_out fun z => (k6 i v e).2 (hv i z)]
        exact (k6 i v e).1
  exact start_ok hgs lp (T.self Y.A 0 _ _ _ st2 lp)
end
section
variable {X : Cx}
/-- [elt for t0 in i0 for t1 in i1 for t2 in i2 ..]: D the new list -/
def tLcN (wi : TI) (g : TG) (tt : TT) (tb : Addr → TB) (vs : List Nat) : TE := fun σ H Q => wi σ H fun J H1 => ∀ D, H1 D = none → ∃ W : Nat → Nat → Hp → Prop, (∃ m, W 0 m (upd H1 D (.lst []))) ∧ ∀ i m H, W i m H →
  (J.stop i H ∧ Q (.ref D) H) ∨ (J.go i H ∧ ∃ N : Hp → Prop, (∀ H', N H' → ∃ m', m' < m ∧ W (i + 1) m' H') ∧ ∀ x H', J.yld i H x H' → g x (wipe σ vs) H' fun σ2 H2 => wipe σ2 vs = wipe σ vs ∧ tt σ2 H2 fun b H3 => if b = true then tb D σ2 H3 N else N H3)
theorem lcN_ok {elt tg iter : Expr} {ifs : List Expr} {rest : List Comprehension} {scope : Scope} {own : List (Str × Nat)} {pos : Pos} {wi : TI} {g : TG} {tt : TT} {tb : Addr → TB} {vI : List Nat} {bd : Addr → Env → Sem PySem.Fin → Sem PySem.Fin}
    (hc : X.calm = true) (hN : X.N.Nodup) (hi : PI X tg iter wi) (ok : BlkOk X.N X.env.scope scope own) (hs : ∀ x, foldedSetIterable iter X.env x = pure x)
    (tu : ∀ (it D : Addr) (env : Env), TurnIs (.ListComp elt (⟨tg, iter, ifs, 0⟩ :: rest) scope pos) tg 0 ifs iter.pos (.ref it) (.ref D) env (bd D env))
    (hg : ∀ (s : Shared) (H : Hp) (C : Addr) (cl : List (Str × Addr)) (fp : List Addr), PG (X.blk s H scope (compEnvC scope cl C X.env) fp) tg g) (ht : ∀ (s : Shared) (H : Hp) (C : Addr) (cl : List (Str × Addr)) (fp : List Addr), PTs (X.blk s H scope (compEnvC scope cl C X.env) fp) ifs tt)
    (hb : ∀ (s : Shared) (H : Hp) (C : Addr) (cl : List (Str × Addr)) (fp : List Addr) (D : Addr), Bd (X.blk s H scope (compEnvC scope cl C X.env) fp) (bd D (compEnvC scope cl C X.env)) (tb D) vI) (hv : ∀ i ∈ vI, i ∈ own.map (·.2)) :
    PE X (.ListComp elt (⟨tg, iter, ifs, 0⟩ :: rest) scope pos) (tLcN wi g tt tb (own.map (·.2))) := by
  refine ⟨fun pins s σ H Q I h => ?_⟩
  rw [eval_ListComp]
  have free_ : ∀ y ∈ scope.names, y.2 = .free → ∃ c, X.env.cells.lookup y.1 = some c := fun y hy e => I.ok.has _ (ok.free y hy e)
  refine wpAny_comprehension_free (use := none) rfl hs (closure_ok free_) ok.kind (fun y hy e => by rw [ok.uniq y hy, e]) (thn (hi.run pins s σ H _ I h) fun xv s1 hz => thn hz fun itv s2 h2 => ?_)
  obtain ⟨it, fp, tn, J, H2, rfl, I2, T, st2, f2, q⟩ := h2
  refine wpAny_newObj_type (newEnv_comp ?_) (by show 0 ≤ sizeLine; decide)
  generalize hD : s2.heap.objs.size = D
  obtain ⟨W, ⟨m0, w0⟩, tr⟩ := q D (I2.hok.fresh (Nat.le_of_eq hD))
  generalize es : ({ s2 with heap := s2.heap.push { cls := .type "list", data := .seq ([] : List Value).toArray } } : Shared) = s3
  have h3 : s3.heap = s2.heap.push { cls := .type "list", data := .seq ([] : List Value).toArray } := by rw [← es]
  have I3 : Inv X pins σ (upd H2 D (.lst [])) s3 := by
    rw [← es]
    refine I2.laid (t' := s2.toks) (fun b o e => Heap.get?_push_of_some _ e) (Nat.le_of_eq hD) ⟨Nat.zero_le _, [], 0, .nil, ?_⟩
    rw [← hD]
    exact Heap.get?_push_size _ rfl
  have f3 : ∀ b ∈ fp, FpOk X pins (upd H2 D (.lst [])) b ∧ b < s3.heap.objs.size := fun b hb => by
    obtain ⟨o, e, _⟩ := T.obj _ _ st2 b hb
    have lt_ := Heap.lt_size e
    refine ⟨⟨?_, (f2 b hb).2⟩, by rw [h3, Heap.size_push]; exact Nat.lt_succ_of_lt lt_⟩
    rw [upd_ne (by rw [← hD]; exact Nat.ne_of_lt lt_)]
    exact (f2 b hb).1
  have st3 : tn 0 s3.heap := T.keep _ _ _ st2 fun b _ o e => by rw [h3]; exact Heap.get?_push_of_some _ e
  have I4 := block_start I3 ok hN f3
  have pg := hg s3 (upd H2 D (.lst [])) s3.heap.objs.size (cellsFrom (s3.heap.objs.size + 1) scope.names (cloFrom X.env.cells scope.names [])) fp
  have pt := ht s3 (upd H2 D (.lst [])) s3.heap.objs.size (cellsFrom (s3.heap.objs.size + 1) scope.names (cloFrom X.env.cells scope.names [])) fp
  have pb := hb s3 (upd H2 D (.lst [])) s3.heap.objs.size (cellsFrom (s3.heap.objs.size + 1) scope.names (cloFrom X.env.cells scope.names [])) fp D
  show codeAny _ _ (.compStart (.ListComp elt (⟨tg, iter, ifs, 0⟩ :: rest) scope pos) 0 (.ref it) (.ref D) (compEnvC scope (cellsFrom (s3.heap.objs.size + 1) scope.names (cloFrom X.env.cells scope.names [])) s3.heap.objs.size X.env)) (compPost (model X.prog X.w) X.A X.xe none _ (.ref D) s3.heap.objs.size) { s3 with heap := pushCells (s3.heap.push { cls := .type "dict", data := .dict #[] }) scope.names }
  have nfp : ∀ b ∈ fp, (upd H2 D (.lst [])) b = none := fun b hb => (f3 b hb).1.1
  have tu0 := tu it D (compEnvC scope (cellsFrom (s3.heap.objs.size + 1) scope.names (cloFrom X.env.cells scope.names [])) s3.heap.objs.size X.env)
  generalize ec : compEnvC scope (cellsFrom (s3.heap.objs.size + 1) scope.names (cloFrom X.env.cells scope.names [])) s3.heap.objs.size X.env = ce at I4 pg pt pb tu0 ⊢
  have cL : ce.locals = s3.heap.objs.size := by subst ec; rfl
  generalize eH : upd H2 D (.lst []) = H3 at I3 I4 pg pt pb w0 nfp f3
  generalize e4 : ({ s3 with heap := pushCells (s3.heap.push { cls := .type "dict", data := .dict #[] }) scope.names } : Shared) = s4 at I4 ⊢
  have st4 : tn 0 s4.heap := T.keep _ _ _ st3 fun b _ o e => by rw [← e4]; exact pushCells_keeps _ _ _ _ (Heap.get?_push_of_some _ e)
  have fpk : ∀ {σ' : Stt} {H' : Hp} {s' : Shared}, Inv (X.blk s3 H3 scope ce fp) [] σ' H' s' → (∀ b ∈ fp, H' b = none) → ∀ b ∈ fp, FpOk (X.blk s3 H3 scope ce fp) [] H' b := fun {σ' H' s'} I' hn b hb =>
    ⟨hn b hb, (I'.ok.exf b hb).1, I'.ok.exfs b hb, .inl hb, fun x c e => (I'.ok.exf b hb).2 x c e, fun p hp => absurd (show p ∈ ([] : List (Addr × Obj)) ++ [] from hp) (by simp)⟩
  have lp : codeAny (model X.prog X.w) X.A (.compLoop (.ListComp elt (⟨tg, iter, ifs, 0⟩ :: rest) scope pos) 0 (.ref it) (.ref D) ce)
      (compPost (model X.prog X.w) X.A X.xe none (EP X pins σ Q) (.ref D) s3.heap.objs.size) s4 := by
    refine loopB tu0 (fun n s' => ∃ i H', Inv (X.blk s3 H3 scope ce fp) [] (wipe σ (own.map (·.2))) H' s' ∧ tn i s'.heap ∧ (∀ b ∈ fp, H' b = none) ∧ W i n H') (fun n s5 h5 => ?_) m0 s4 ⟨0, H3, I4, st4, nfp, w0⟩
    obtain ⟨i, H5, I5, st5, n5, w5⟩ := h5
    rcases tr i n H5 w5 with ⟨stop, qq⟩ | ⟨go, N1, hN1, step⟩
    · refine thnF (T.done (X.blk s3 H3 scope ce fp) rfl rfl rfl hc i [] s5 _ H5 (fun _ _ => False) I5 (fpk I5 n5) st5 stop) fun r s6 hr => ?_
      obtain ⟨rfl, I6⟩ := hr
      have I7 : Inv X pins σ H5 s6 := I3.call' (ch := fp) I6.os I6.base I6.hok I6.bare fun b hb => ⟨(f3 b hb).1.2.2.2.1, (f3 b hb).1.2.1, (f3 b hb).1.2.2.2.2.1, (f3 b hb).1.2.2.2.2.2⟩
      have nC : H5 s3.heap.objs.size = none := by
        rw [← cL]
        exact I6.free
      obtain ⟨m, hn, _⟩ := I6.loc
      have hn : s6.heap.Ns ce.locals m := hn
      rw [cL] at hn
      obtain ⟨g0, g1, _, g3, g4, g5⟩ := I3.fpOk (H' := H5) (Nat.le_refl _) nC
      exact ⟨m, hn, fun h'' sb => ⟨.ref D, H5, I7.turned (t' := s6.toks) (fun b o hb e => (sb.2 b hb).trans e) g0 g1 (by assumption) (by assumption) (by assumption), rfl, qq⟩⟩
    · refine thnF (T.item (X.blk s3 H3 scope ce fp) rfl rfl rfl hc i [] s5 _ H5 (fun _ _ => False) I5 (fpk I5 n5) st5 go) fun r s6 hr => ?_
      obtain ⟨u, rfl, h6⟩ := hr
      refine thnF h6 fun _ s7 h7 => ?_
      obtain ⟨x, H7, I7, r7, y7, st7, n7⟩ := h7
      refine thnF (pg.run _ s7 _ H7 x u _ (I7.pinned (fpk I7 n7) (T.obj _ _ st7)) r7 (step x H7 y7)) fun _ s8 h8 => ?_
      obtain ⟨σ8, H8, I8, e8, q8⟩ := h8
      refine thnF (pt.run _ s8 σ8 H8 _ I8 q8) fun b s9 h9 => ?_
      obtain ⟨H9, I9, q9⟩ := h9
      have back : ∀ {σ9 : Stt} {s' : Shared} {H' : Hp}, Inv (X.blk s3 H3 scope ce fp) ([] ++ pinsAt fp s7.heap) σ9 H' s' → σ9.length = σ8.length → (∀ (j : Nat) v, (wipe σ (own.map (·.2)))[j]? = some (some v) → σ9[j]? = some (some v)) → N1 H' →
          ∃ m, m < n ∧ ∃ i H', Inv (X.blk s3 H3 scope ce fp) [] (wipe σ (own.map (·.2))) H' s' ∧ tn i s'.heap ∧ (∀ b ∈ fp, H' b = none) ∧ W i m H' := fun {σ9 s' H'} I' hl hk nx => by
        obtain ⟨m', hm, w'⟩ := hN1 H' nx
        have at_ : ∀ b ∈ fp, ∀ o, s7.heap.get? b = some o → s'.heap.get? b = some o ∧ H' b = none := fun b hb o e =>
          ⟨(I'.pin (b, o) (List.mem_append_right _ (List.mem_append_right _ (mem_pinsAt hb e)))).1, (I'.pin (b, o) (List.mem_append_right _ (List.mem_append_right _ (mem_pinsAt hb e)))).2.1⟩
        refine ⟨m', hm, i + 1, H', (I'.unpinned (pins := [])).weak (by rw [hl, ← wipe_length σ8 (own.map (·.2)), e8]) hk, T.keep _ _ _ st7 fun b hb o e => (at_ b hb o e).1, fun b hb => ?_, w'⟩
        obtain ⟨o, e, _⟩ := T.obj _ _ st7 b hb
        exact (at_ b hb o e).2
      have k8 : ∀ (j : Nat) v, (wipe σ (own.map (·.2)))[j]? = some (some v) → σ8[j]? = some (some v) ∧ j ∉ own.map (·.2) := fun j v e => by
        rw [← e8] at e
        exact wipe_some e
      cases b with
      | false => exact back I9 rfl (fun j v e => (k8 j v e).1) q9
      | true =>
        intro nn QQ EE hn
        refine pb _ σ8 H9 s9 N1 I9 q9 nn QQ EE fun s10 h10 => hn s10 ?_
        obtain ⟨H10, I10, nx⟩ := h10
        refine back I10 (wipe_length _ _) (fun j v e => ?_) nx
        rw [wipe_out fun z => (k8 j v e).2 (hv j z)]
        exact (k8 j v e).1
  exact codeAny_compStart_list lp (T.self X.A 0 _ _ _ st4 lp)
end
end Cb

/-! Sets of people and lists of crews as data; what a draw may change. -/
namespace Cb
open PySem PySem.Spec PyProof.Rows L2 PySem.W
abbrev PD := PyData
/-! ### pairs of lists -/
theorem prd_get {α β : Type} {F : α → β → Prop} : ∀ {xs : List α} {ys : List β} {i : Nat} {y : β}, Paired F xs ys → ys[i]? = some y → ∃ x, xs[i]? = some x ∧ F x y
  | _, _, _, _, .nil, e => by simp at e
  | _, _, 0, _, .cons r _, e => by simp at e; subst e; exact ⟨_, rfl, r⟩
  | _, _, i + 1, y, .cons _ t, e => by
    obtain ⟨x, h1, h2⟩ := prd_get (i := i) (y := y) t (by simpa using e)
    exact ⟨x, by simpa using h1, h2⟩
theorem prd_getL {α β : Type} {F : α → β → Prop} : ∀ {xs : List α} {ys : List β} {i : Nat} {x : α}, Paired F xs ys → xs[i]? = some x → ∃ y, ys[i]? = some y ∧ F x y
  | _, _, _, _, .nil, e => by simp at e
  | _, _, 0, _, .cons r _, e => by simp at e; subst e; exact ⟨_, rfl, r⟩
  | _, _, i + 1, y, .cons _ t, e => by
    obtain ⟨x, h1, h2⟩ := prd_getL (i := i) (x := y) t (by simpa using e)
    exact ⟨x, by simpa using h1, h2⟩
theorem prd_mono {α β : Type} {F G : α → β → Prop} (h : ∀ a b, F a b → G a b) : ∀ {xs : List α} {ys : List β}, Paired F xs ys → Paired G xs ys
  | _, _, .nil => .nil
  | _, _, .cons r t => .cons (h _ _ r) (prd_mono h t)
theorem prd_app {α β : Type} {F : α → β → Prop} : ∀ {xs : List α} {ys : List β} {xs' : List α} {ys' : List β}, Paired F xs ys → Paired F xs' ys' → Paired F (xs ++ xs') (ys ++ ys')
  | _, _, _, _, .nil, s => s
  | _, _, _, _, .cons r t, s => .cons r (prd_app t s)
theorem prd_take {α β : Type} {F : α → β → Prop} : ∀ {xs : List α} {ys : List β} (n : Nat), Paired F xs ys → Paired F (xs.take n) (ys.take n)
  | _, _, 0, _ => .nil
  | _, _, _ + 1, .nil => .nil
  | _, _, n + 1, .cons r t => .cons r (prd_take n t)
theorem prd_drop {α β : Type} {F : α → β → Prop} : ∀ {xs : List α} {ys : List β} (n : Nat), Paired F xs ys → Paired F (xs.drop n) (ys.drop n)
  | _, _, 0, h => h
  | _, _, _ + 1, .nil => .nil
  | _, _, n + 1, .cons r t => prd_drop n t
theorem prd_len {α β : Type} {F : α → β → Prop} : ∀ {xs : List α} {ys : List β}, Paired F xs ys → xs.length = ys.length
  | _, _, .nil => rfl
  | _, _, .cons r t => congrArg Nat.succ (prd_len t)
theorem prd_map {α β γ δ : Type} {F : γ → δ → Prop} (f : α → γ) (g : β → δ) : ∀ {xs : List α} {ys : List β}, Paired (fun a b => F (f a) (g b)) xs ys → Paired F (xs.map f) (ys.map g)
  | _, _, .nil => .nil
  | _, _, .cons r t => .cons r (prd_map f g t)
theorem prd_fst {α β : Type} {F : α → β → Prop} : ∀ {xs : List α} {ys : List β}, Paired F xs ys → ∃ zs : List (α × β), zs.map (·.1) = xs ∧ zs.map (·.2) = ys ∧ ∀ z ∈ zs, F z.1 z.2
  | _, _, .nil => ⟨[], rfl, rfl, fun _ h => by simp at h⟩
  | _, _, .cons (a := a) (b := b) r t => by
    obtain ⟨zs, h1, h2, h3⟩ := prd_fst t
    refine ⟨(a, b) :: zs, by rw [List.map_cons, h1], by rw [List.map_cons, h2], fun z hz => ?_⟩
    rcases List.mem_cons.mp hz with e | hz
    · rw [e]
      exact r
    · exact h3 z hz
theorem prd_of {α β : Type} {F : α → β → Prop} : ∀ {zs : List (α × β)}, (∀ z ∈ zs, F z.1 z.2) → Paired F (zs.map (·.1)) (zs.map (·.2))
  | [], _ => .nil
  | z :: zs, h => .cons (h z List.mem_cons_self) (prd_of fun y hy => h y (List.mem_cons_of_mem _ hy))

/-! ### sets of people, lists of crews -/
def sD (ns : List Str) : PD := .tuple (ns.map .str)
def tD (ts : List (List Str)) : PD := .tuple (ts.map sD)
def S1 (K : Frag) (H : Hp) (v : V) (ns : List Str) : Prop := ∃ a, v = .ref a ∧ SqT K H a (ns.map V.str)
def S2 (K : Frag) (H : Hp) (v : V) (ts : List (List Str)) : Prop := ∃ a xs, v = .ref a ∧ SqT K H a xs ∧ Paired (S1 K H) xs ts
section
variable {K : Frag} {H H' H0 : Hp}
theorem dpStrs : ∀ ns : List Str, DpAll K H (ns.map V.str) (ns.map PyData.str)
  | [] => .nil
  | n :: ns => .cons (.str n) (dpStrs ns)
theorem S1.dp {v : V} {ns : List Str} (h : S1 K H v ns) : Dp K H v (sD ns) := by
  obtain ⟨a, rfl, h⟩ := h
  exact .tup h (dpStrs ns)
theorem s1s_dp : ∀ {xs : List V} {ts : List (List Str)}, Paired (S1 K H) xs ts → DpAll K H xs (ts.map sD)
  | _, _, .nil => .nil
  | _, _, .cons r t => .cons r.dp (s1s_dp t)
theorem S2.dp {v : V} {ts : List (List Str)} (h : S2 K H v ts) : Dp K H v (tD ts) := by
  obtain ⟨a, xs, rfl, h, t⟩ := h
  exact .tup h (s1s_dp t)
theorem S1.same {v : V} {ns : List Str} (e : Same H H') (h : S1 K H v ns) : S1 K H' v ns := by
  obtain ⟨a, rfl, h⟩ := h
  exact ⟨a, rfl, sameT e h⟩
theorem S2.same {v : V} {ts : List (List Str)} (e : Same H H') (h : S2 K H v ts) : S2 K H' v ts := by
  obtain ⟨a, xs, rfl, h, t⟩ := h
  exact ⟨a, xs, rfl, sameT e h, prd_mono (fun _ _ z => z.same e) t⟩
theorem same_upd {p : Addr} {o : HO} (h : H p = none) : Same H (upd H p o) := fun b x e => by
  rw [upd_ne (ne_of_none e h)]
  exact e
theorem same_mut {p : Addr} {o : HO} (e : Same H0 H) (h : H0 p = none) : Same H0 (upd H p o) := fun b x z => by
  rw [upd_ne (ne_of_none z h)]
  exact e b x z
theorem st_ (h : H' a = some (.tup xs)) : SqT K H' a xs := .inl (.inl h)
theorem sl_ (h : H' a = some (.lst xs)) : SqL K H' a xs := .inl (.inl h)

/-! ### the dict at r may change, all else stands -/
def Ch (r : Addr) (H H' : Hp) : Prop := ∀ b o, H b = some o → H' b = some o ∨ (b = r ∧ (∃ k, o = .dK k) ∧ ∃ k, H' b = some (.dK k))
variable {r : Addr}
theorem Ch.refl : Ch r H H := fun _ _ h => .inl h
theorem Ch.of (e : Same H H') : Ch r H H' := fun b o h => .inl (e b o h)
theorem Ch.trans (h1 : Ch r H0 H) (h2 : Ch r H H') : Ch r H0 H' := fun b o h => by
  rcases h1 b o h with e | ⟨rfl, k, k', e⟩
  · exact h2 b o e
  · rcases h2 _ _ e with e2 | ⟨_, _, k2, e2⟩
    · exact .inr ⟨rfl, k, k', e2⟩
    · exact .inr ⟨rfl, k, k2, e2⟩
theorem Ch.at (h : Ch r H H') {b : Addr} {o : HO} (e : H b = some o) (n : ∀ k, o ≠ .dK k) : H' b = some o := by
  rcases h b o e with z | ⟨_, ⟨k, z⟩, _⟩
  · exact z
  · exact absurd z (n k)
theorem Ch.lst (h : Ch r H H') {b : Addr} {xs : List V} (e : H b = some (.lst xs)) : H' b = some (.lst xs) := h.at e fun _ z => by cases z
theorem Ch.sqT (h : Ch r H H') {a : Addr} {xs : List V} (e : SqT K H a xs) : SqT K H' a xs := by
  rcases e with (e | ⟨o, e⟩) | e
  · exact .inl (.inl (h.at e fun _ z => by cases z))
  · exact .inl (.inr ⟨o, h.at e fun _ z => by cases z⟩)
  · exact .inr e
theorem Ch.sqL (h : Ch r H H') {a : Addr} {xs : List V} (e : SqL K H a xs) : SqL K H' a xs := by
  rcases e with (e | ⟨o, e⟩) | e
  · exact .inl (.inl (h.at e fun _ z => by cases z))
  · exact .inl (.inr ⟨o, h.at e fun _ z => by cases z⟩)
  · exact .inr e
theorem Ch.s1 (h : Ch r H H') {v : V} {ns : List Str} (e : S1 K H v ns) : S1 K H' v ns := by
  obtain ⟨a, rfl, e⟩ := e
  exact ⟨a, rfl, h.sqT e⟩
theorem Ch.s1s (h : Ch r H H') {xs : List V} {ts : List (List Str)} (e : Paired (S1 K H) xs ts) : Paired (S1 K H') xs ts := prd_mono (fun _ _ z => h.s1 z) e
theorem Ch.s2 (h : Ch r H H') {v : V} {ts : List (List Str)} (e : S2 K H v ts) : S2 K H' v ts := by
  obtain ⟨a, xs, rfl, e, t⟩ := e
  exact ⟨a, xs, rfl, h.sqT e, h.s1s t⟩
theorem Ch.free (h : Ch r H H') {l : Addr} (e : H' l = none) : H l = none := by
  cases q : H l with
  | none => rfl
  | some o =>
    rcases h l o q with z | ⟨_, _, k, z⟩
    · rw [e] at z; cases z
    · rw [e] at z; cases z
theorem Ch.upd (h : Ch r H0 H) {l : Addr} {o : HO} (n : H0 l = none) : Ch r H0 (L2.upd H l o) := fun b x e => by
  have nb := ne_of_none e n
  rw [upd_ne nb]
  exact h b x e
theorem Ch.new {l : Addr} {o : HO} (n : H l = none) : Ch r H (L2.upd H l o) := Ch.refl.upd n
theorem Ch.put {k k' : List (Key × V)} (e : H r = some (.dK k)) : Ch r H (L2.upd H r (.dK k')) := fun b o h => by
  by_cases hb : b = r
  · subst hb
    rw [e] at h
    cases h
    exact .inr ⟨rfl, ⟨_, rfl⟩, k', upd_same⟩
  · exact .inl (by rw [upd_ne hb]; exact h)
end

/-! ### sorted -/
/-- texts in order -/
def srt (ns : List Str) : List Str := ns.mergeSort (dataLe false PyData.str)
theorem srt_perm (ns : List Str) : (srt ns).Perm ns := List.mergeSort_perm ns _
theorem srt_len (ns : List Str) : (srt ns).length = ns.length := (srt_perm ns).length_eq
/-- crews in order -/
def srtT (ts : List (List Str)) : List (List Str) := ts.mergeSort (dataLe false sD)
theorem srtT_perm (ts : List (List Str)) : (srtT ts).Perm ts := List.mergeSort_perm ts _
section
variable {K : Frag} {H : Hp} {Q : VK}
theorem srt_any {a : Addr} {ns : List Str} (h : SqL K H a (ns.map V.str) ∨ SqT K H a (ns.map V.str)) (q : ∀ p, H p = none → Q (.ref p) (upd H p (.lst ((srt ns).map V.str)))) : rSrt K [.ref a] H Q := by
  refine ⟨a, ns.map fun s => (V.str s, PyData.str s), rfl, by rw [List.map_map]; exact h, fun b hb => ?_, fun d hd d' hd' => ?_, .inr fun d hd => ?_, fun b hb => ?_, fun p hp => ?_⟩
  · obtain ⟨s, _, rfl⟩ := List.mem_map.mp hb
    exact .str s
  · rw [List.map_map] at hd hd'
    obtain ⟨s, _, rfl⟩ := List.mem_map.mp hd
    obtain ⟨s', _, rfl⟩ := List.mem_map.mp hd'
    simp [alike]
  · rw [List.map_map] at hd
    obtain ⟨s, _, rfl⟩ := List.mem_map.mp hd
    exact ⟨fun z => (nomatch z), fun _ z => (nomatch z)⟩
  · obtain ⟨s, _, rfl⟩ := List.mem_map.mp hb
    simp [PyData.depth]
  · have e : ordD (ns.map fun s => (V.str s, PyData.str s)) = (srt ns).map fun s => (V.str s, PyData.str s) :=
      (sort_maps (fun s : Str => (V.str s, PyData.str s)) (r := dataLe false PyData.str) (s := dataLe false fun b : V × PD => b.2) fun _ _ _ _ => rfl).symm
    rw [e, List.map_map]
    exact q p hp
theorem srt_strs {a : Addr} {ns : List Str} (h : SqL K H a (ns.map V.str)) (q : ∀ p, H p = none → Q (.ref p) (upd H p (.lst ((srt ns).map V.str)))) : rSrt K [.ref a] H Q := srt_any (.inl h) q
theorem alike_strs : ∀ xs ys : List Str, alikeAll (xs.map PyData.str) (ys.map PyData.str) = true
  | [], _ => by simp [alikeAll]
  | _ :: _, [] => by simp [alikeAll]
  | x :: xs, y :: ys => by
    show alikeAll (PyData.str x :: xs.map PyData.str) (PyData.str y :: ys.map PyData.str) = true
    rw [alikeAll, alike_strs xs ys]
    simp [alike]
theorem depth_strs : ∀ xs : List Str, PyData.depthAll (xs.map PyData.str) = 0
  | [] => by simp [PyData.depthAll]
  | x :: xs => by
    show PyData.depthAll (PyData.str x :: xs.map PyData.str) = 0
    rw [PyData.depthAll, depth_strs xs]
    simp [PyData.depth]
theorem depth_sD (ns : List Str) : (sD ns).depth = 1 := by
  unfold sD
  rw [PyData.depth, depth_strs]
theorem srt_teams {a : Addr} {xs : List V} {ts : List (List Str)} (h : SqL K H a xs) (hp : Paired (S1 K H) xs ts) (h0 : ∀ t ∈ ts, t ≠ []) (q : ∀ p ys, H p = none → Paired (S1 K H) ys (srtT ts) → Q (.ref p) (upd H p (.lst ys))) : rSrt K [.ref a] H Q := by
  obtain ⟨zs, rfl, rfl, hz⟩ := prd_fst hp
  have e1 : (zs.map fun z => (z.1, sD z.2)).map (·.1) = zs.map (·.1) := by rw [List.map_map]; rfl
  refine ⟨a, zs.map fun z => (z.1, sD z.2), rfl, by rw [e1]; exact .inl h, fun b hb => ?_, fun d hd d' hd' => ?_, .inl fun d hd => ?_, fun b hb => ?_, fun p hp => ?_⟩
  · obtain ⟨s, hs, rfl⟩ := List.mem_map.mp hb
    exact (hz s hs).dp
  · rw [List.map_map] at hd hd'
    obtain ⟨s, _, rfl⟩ := List.mem_map.mp hd
    obtain ⟨s', _, rfl⟩ := List.mem_map.mp hd'
    show alike (sD s.2) (sD s'.2) = true
    unfold sD
    rw [alike]
    exact alike_strs _ _
  · rw [List.map_map] at hd
    obtain ⟨s, hs, rfl⟩ := List.mem_map.mp hd
    have n := h0 s.2 (List.mem_map.mpr ⟨s, hs, rfl⟩)
    show ∃ x r, sD s.2 = .tuple (x :: r)
    match e : s.2 with
    | [] => exact absurd e n
    | x :: r => exact ⟨PyData.str x, r.map PyData.str, rfl⟩
  · obtain ⟨s, _, rfl⟩ := List.mem_map.mp hb
    show (sD s.2).depth ≤ 50
    rw [depth_sD]
    decide
  · have e : ordD (zs.map fun z => (z.1, sD z.2)) = (zs.mergeSort (dataLe false fun z : V × List Str => sD z.2)).map fun z => (z.1, sD z.2) :=
      (sort_maps (fun z : V × List Str => (z.1, sD z.2)) (r := dataLe false fun z : V × List Str => sD z.2) (s := dataLe false fun b : V × PD => b.2) fun _ _ _ _ => rfl).symm
    have e2 : (zs.mergeSort (dataLe false fun z : V × List Str => sD z.2)).map (·.2) = srtT (zs.map (·.2)) :=
      sort_maps (fun z : V × List Str => z.2) (r := dataLe false fun z : V × List Str => sD z.2) (s := dataLe false sD) fun _ _ _ _ => rfl
    rw [e, List.map_map]
    refine q p ((zs.mergeSort (dataLe false fun z : V × List Str => sD z.2)).map (·.1)) hp ?_
    rw [← e2]
    exact prd_of fun z m => hz z (List.mem_mergeSort.mp m)
end
/-! ### who is in a set -/
def isIn (x : Str) (ns : List Str) : Bool := ns.any (· == x)
theorem inV_strs (x : Str) (ns : List Str) : inV (.str x) (ns.map V.str) = isIn x ns := by
  unfold inV isIn
  rw [List.any_map]
  rfl
theorem flat_strs (ns : List Str) : (ns.map V.str).all flatV = true := by
  rw [List.all_map]
  simp [flatV]
end Cb

/-! Comprehensions that change nothing; data compared; what a repr comes to. -/
namespace Cb
open PySem PySem.Spec PyProof.Rows L2 PySem.W
theorem take_snoc {α : Type} {xs : List α} {i : Nat} {x : α} (h : xs[i]? = some x) : xs.take (i + 1) = xs.take i ++ [x] := by
  rw [List.take_add_one, h]
  rfl
theorem big (h : n ≤ 100000) : n < sizeLine := Nat.lt_of_le_of_lt h (by decide)
/-! ### what stands whatever lists and dicts do -/
def Fx (H H' : Hp) : Prop := ∀ b o, H b = some o → (∃ xs, o = .lst xs) ∨ (∃ k, o = .dK k) ∨ H' b = some o
section
variable {K : Frag} {H H' H0 : Hp}
theorem Fx.refl : Fx H H := fun _ _ h => .inr (.inr h)
theorem Fx.of (e : Same H H') : Fx H H' := fun b o h => .inr (.inr (e b o h))
theorem Fx.ch {r : Addr} (e : Ch r H H') : Fx H H' := fun b o h => by
  rcases e b o h with z | ⟨_, z, _⟩
  · exact .inr (.inr z)
  · exact .inr (.inl z)
theorem Fx.trans (h1 : Fx H0 H) (h2 : Fx H H') : Fx H0 H' := fun b o h => by
  rcases h1 b o h with z | z | z
  · exact .inl z
  · exact .inr (.inl z)
  · exact h2 b o z
theorem Fx.mut {l : Addr} {xs : List V} {o : HO} (e : H l = some (.lst xs)) : Fx H (upd H l o) := fun b u h => by
  by_cases hb : b = l
  · subst hb
    rw [e] at h
    cases h
    exact .inl ⟨_, rfl⟩
  · exact .inr (.inr (by rw [upd_ne hb]; exact h))
theorem Fx.sqT (h : Fx H H') {a : Addr} {xs : List V} (e : SqT K H a xs) : SqT K H' a xs := by
  rcases e with (e | ⟨o, e⟩) | e
  · rcases h _ _ e with ⟨_, z⟩ | ⟨_, z⟩ | z
    · cases z
    · cases z
    · exact .inl (.inl z)
  · rcases h _ _ e with ⟨_, z⟩ | ⟨_, z⟩ | z
    · cases z
    · cases z
    · exact .inl (.inr ⟨o, z⟩)
  · exact .inr e
theorem Fx.s1 (h : Fx H H') {v : V} {ns : List Str} (e : S1 K H v ns) : S1 K H' v ns := by
  obtain ⟨a, rfl, e⟩ := e
  exact ⟨a, rfl, h.sqT e⟩
theorem Fx.s1s (h : Fx H H') {xs : List V} {ts : List (List Str)} (e : Paired (S1 K H) xs ts) : Paired (S1 K H') xs ts := prd_mono (fun _ _ z => h.s1 z) e
theorem Fx.s2 (h : Fx H H') {v : V} {ts : List (List Str)} (e : S2 K H v ts) : S2 K H' v ts := by
  obtain ⟨a, xs, rfl, e, t⟩ := e
  exact ⟨a, xs, rfl, h.sqT e, h.s1s t⟩
end
section
variable {K : Frag} {xs : List V} {tl : TE} {j : Nat} {vs : List Nat} {σ : Stt} {H : Hp} {Q : VK} {tt : TT} {te : TE}
theorem turn_filter {D : Addr} (f : V → Bool) (g : V → V) (hD : H D = none) (hn : xs.length ≤ 100000)
    (ht : ∀ x ∈ xs, ∀ H1, Same H H1 → ∀ R : Bool → Hp → Prop, R (f x) H1 → tt ((wipe σ vs).set j (some x)) H1 R)
    (he : ∀ x ∈ xs, f x = true → ∀ H1, Same H H1 → ∀ R : VK, (∀ H2, Same H1 H2 → R (g x) H2) → te ((wipe σ vs).set j (some x)) H1 R)
    {i : Nat} {x : V} {H' : Hp} (hi : xs[i]? = some x) (p : Same H H' ∧ H' D = some (.lst (((xs.take i).filter f).map g))) :
    tt ((wipe σ vs).set j (some x)) H' fun b H3 => if b = true then te ((wipe σ vs).set j (some x)) H3 fun y H4 => ∃ acc, H4 D = some (.lst acc) ∧ acc.length < sizeLine ∧
      (Same H (upd H4 D (.lst (acc ++ [y]))) ∧ (upd H4 D (.lst (acc ++ [y]))) D = some (.lst (((xs.take (i + 1)).filter f).map g))) else Same H H3 ∧ H3 D = some (.lst (((xs.take (i + 1)).filter f).map g)) := by
  have hx : x ∈ xs := List.mem_of_getElem? hi
  refine ht x hx H' p.1 _ ?_
  rw [take_snoc hi, List.filter_append, List.map_append]
  by_cases hf : f x = true
  · rw [if_pos hf]
    refine he x hx hf H' p.1 _ fun H2 e2 => ⟨_, e2 _ _ p.2, ?_, same_mut (p.1.trans e2) hD, ?_⟩
    · rw [List.length_map]
      exact big (Nat.le_trans (List.length_filter_le _ _) (by rw [List.length_take]; omega))
    · rw [upd_same, List.filter_cons_of_pos hf]
      rfl
  · rw [if_neg hf]
    refine ⟨p.1, ?_⟩
    rw [p.2, List.filter_cons_of_neg hf]
    simp
/-- [e for x in t if ..], t a tuple, nothing changed -/
theorem lcT_filter (f : V → Bool) (g : V → V) (hl : ∀ R : VK, (∀ a H1, Same H H1 → SqT K H1 a xs → R (.ref a) H1) → tl σ H R) (hn : xs.length ≤ 100000) (hj : ∀ x, wipe ((wipe σ vs).set j (some x)) vs = wipe σ vs)
    (ht : ∀ x ∈ xs, ∀ H1, Same H H1 → ∀ R : Bool → Hp → Prop, R (f x) H1 → tt ((wipe σ vs).set j (some x)) H1 R)
    (he : ∀ x ∈ xs, f x = true → ∀ H1, Same H H1 → ∀ R : VK, (∀ H2, Same H1 H2 → R (g x) H2) → te ((wipe σ vs).set j (some x)) H1 R)
    (q : ∀ D H', H D = none → Same H H' → H' D = some (.lst ((xs.filter f).map g)) → Q (.ref D) H') : tLc (iTup K tl) (gName j) tt te vs σ H Q := by
  refine hl _ fun a H1 e1 hs => ⟨a, rfl, ⟨xs, hs⟩, fun D hD => ?_⟩
  refine lc_tup (K := K) (a := a) (xs := xs) (fun i H' => Same H1 H' ∧ H' D = some (.lst (((xs.take i).filter f).map g))) ⟨same_upd hD, upd_same⟩ (fun i H' _ p => sameT p.1 hs)
    (fun i x H' hi p => ⟨hj x, turn_filter f g hD hn (fun x hx H2 e2 => ht x hx H2 (e1.trans e2)) (fun x hx hf H2 e2 => he x hx hf H2 (e1.trans e2)) hi p⟩) fun H' p => ?_
  refine q D H' (e1.free hD) (e1.trans p.1) ?_
  rw [p.2, List.take_length]
theorem lcL_filter (f : V → Bool) (g : V → V) (hl : ∀ R : VK, (∀ a H1, Same H H1 → SqL K H1 a xs → R (.ref a) H1) → tl σ H R) (hn : xs.length ≤ 100000) (hj : ∀ x, wipe ((wipe σ vs).set j (some x)) vs = wipe σ vs)
    (ht : ∀ x ∈ xs, ∀ H1, Same H H1 → ∀ R : Bool → Hp → Prop, R (f x) H1 → tt ((wipe σ vs).set j (some x)) H1 R)
    (he : ∀ x ∈ xs, f x = true → ∀ H1, Same H H1 → ∀ R : VK, (∀ H2, Same H1 H2 → R (g x) H2) → te ((wipe σ vs).set j (some x)) H1 R)
    (q : ∀ D H', H D = none → Same H H' → H' D = some (.lst ((xs.filter f).map g)) → Q (.ref D) H') : tLc (iList K tl) (gName j) tt te vs σ H Q := by
  refine hl _ fun a H1 e1 hs => ⟨a, rfl, ⟨xs, hs⟩, fun D hD => ?_⟩
  refine lc_list (K := K) (a := a) (xs := xs) (fun i H' => Same H1 H' ∧ H' D = some (.lst (((xs.take i).filter f).map g))) ⟨same_upd hD, upd_same⟩ (fun i H' _ p => p.1.seq hs)
    (fun i x H' hi p => ⟨hj x, turn_filter f g hD hn (fun x hx H2 e2 => ht x hx H2 (e1.trans e2)) (fun x hx hf H2 e2 => he x hx hf H2 (e1.trans e2)) hi p⟩) fun H' p => ?_
  refine q D H' (e1.free hD) (e1.trans p.1) ?_
  rw [p.2, List.take_length]
/-- every item gives one element, which stands for b -/
theorem turn_rel {β : Type} {F : Hp → V → β → Prop} (mono : ∀ H1 H2 v b, Fx H1 H2 → F H1 v b → F H2 v b) {bs : List β} {D : Addr} (hD : H D = none) (hn : xs.length ≤ 100000) (hlen : xs.length = bs.length)
    (he : ∀ (i : Nat) (x : V) (b : β), xs[i]? = some x → bs[i]? = some b → ∀ H1, Same H H1 → ∀ R : VK, (∀ v H2, Same H1 H2 → F H2 v b → R v H2) → te ((wipe σ vs).set j (some x)) H1 R)
    {i : Nat} {x : V} {H' : Hp} (hi : xs[i]? = some x) (p : Same H H' ∧ ∃ us, H' D = some (.lst us) ∧ Paired (F H') us (bs.take i)) :
    te ((wipe σ vs).set j (some x)) H' fun y H4 => ∃ acc, H4 D = some (.lst acc) ∧ acc.length < sizeLine ∧ (Same H (upd H4 D (.lst (acc ++ [y]))) ∧ ∃ us, (upd H4 D (.lst (acc ++ [y]))) D = some (.lst us) ∧ Paired (F (upd H4 D (.lst (acc ++ [y])))) us (bs.take (i + 1))) := by
  have hlt := (List.getElem?_eq_some_iff.mp hi).1
  obtain ⟨b, hb⟩ : ∃ b, bs[i]? = some b := ⟨bs[i]'(by omega), List.getElem?_eq_getElem (by omega)⟩
  obtain ⟨e1, us, hu, hp⟩ := p
  have hl := prd_len hp
  rw [List.length_take] at hl
  refine he i x b hi hb H' e1 _ fun v H2 e2 hv => ⟨us, e2 _ _ hu, big (by omega), same_mut (e1.trans e2) hD, us ++ [v], upd_same, ?_⟩
  have f2 : Fx H2 (upd H2 D (.lst (us ++ [v]))) := Fx.mut (e2 _ _ hu)
  rw [take_snoc hb]
  exact prd_app (prd_mono (fun _ _ z => mono _ _ _ _ ((Fx.of e2).trans f2) z) hp) (.cons (mono _ _ _ _ f2 hv) .nil)
theorem lcL_rel {β : Type} {F : Hp → V → β → Prop} (mono : ∀ H1 H2 v b, Fx H1 H2 → F H1 v b → F H2 v b) (bs : List β) (hl : ∀ R : VK, (∀ a H1, Same H H1 → SqL K H1 a xs → R (.ref a) H1) → tl σ H R) (hn : xs.length ≤ 100000) (hlen : xs.length = bs.length)
    (hj : ∀ x, wipe ((wipe σ vs).set j (some x)) vs = wipe σ vs)
    (he : ∀ (i : Nat) (x : V) (b : β), xs[i]? = some x → bs[i]? = some b → ∀ H1, Same H H1 → ∀ R : VK, (∀ v H2, Same H1 H2 → F H2 v b → R v H2) → te ((wipe σ vs).set j (some x)) H1 R)
    (q : ∀ D us H', H D = none → Same H H' → H' D = some (.lst us) → Paired (F H') us bs → Q (.ref D) H') : tLc (iList K tl) (gName j) tYes te vs σ H Q := by
  refine hl _ fun a H1 e1 hs => ⟨a, rfl, ⟨xs, hs⟩, fun D hD => ?_⟩
  refine lc_list (K := K) (a := a) (xs := xs) (fun i H' => Same H1 H' ∧ ∃ us, H' D = some (.lst us) ∧ Paired (F H') us (bs.take i)) ⟨same_upd hD, [], upd_same, .nil⟩ (fun i H' _ p => p.1.seq hs)
    (fun i x H' hi p => ⟨hj x, turn_rel mono hD hn hlen (fun i x b h1 h2 H2 e2 => he i x b h1 h2 H2 (e1.trans e2)) hi p⟩) fun H' p => ?_
  obtain ⟨e2, us, hu, hp⟩ := p
  rw [hlen, List.take_length] at hp
  exact q D us H' (e1.free hD) (e1.trans e2) hu hp
theorem lcT_rel {β : Type} {F : Hp → V → β → Prop} (mono : ∀ H1 H2 v b, Fx H1 H2 → F H1 v b → F H2 v b) (bs : List β) (hl : ∀ R : VK, (∀ a H1, Same H H1 → SqT K H1 a xs → R (.ref a) H1) → tl σ H R) (hn : xs.length ≤ 100000) (hlen : xs.length = bs.length)
    (hj : ∀ x, wipe ((wipe σ vs).set j (some x)) vs = wipe σ vs)
    (he : ∀ (i : Nat) (x : V) (b : β), xs[i]? = some x → bs[i]? = some b → ∀ H1, Same H H1 → ∀ R : VK, (∀ v H2, Same H1 H2 → F H2 v b → R v H2) → te ((wipe σ vs).set j (some x)) H1 R)
    (q : ∀ D us H', H D = none → Same H H' → H' D = some (.lst us) → Paired (F H') us bs → Q (.ref D) H') : tLc (iTup K tl) (gName j) tYes te vs σ H Q := by
  refine hl _ fun a H1 e1 hs => ⟨a, rfl, ⟨xs, hs⟩, fun D hD => ?_⟩
  refine lc_tup (K := K) (a := a) (xs := xs) (fun i H' => Same H1 H' ∧ ∃ us, H' D = some (.lst us) ∧ Paired (F H') us (bs.take i)) ⟨same_upd hD, [], upd_same, .nil⟩ (fun i H' _ p => sameT p.1 hs)
    (fun i x H' hi p => ⟨hj x, turn_rel mono hD hn hlen (fun i x b h1 h2 H2 e2 => he i x b h1 h2 H2 (e1.trans e2)) hi p⟩) fun H' p => ?_
  obtain ⟨e2, us, hu, hp⟩ := p
  rw [hlen, List.take_length] at hp
  exact q D us H' (e1.free hD) (e1.trans e2) hu hp
end

/-! ### data compared -/
theorem eqv_strs : ∀ xs ys : List Str, PyData.eqvAll (xs.map .str) (ys.map .str) = decide (xs = ys)
  | [], [] => by simp [PyData.eqvAll]
  | [], _ :: _ => by simp [PyData.eqvAll]
  | _ :: _, [] => by simp [PyData.eqvAll]
  | x :: xs, y :: ys => by
    show PyData.eqvAll (.str x :: xs.map .str) (.str y :: ys.map .str) = _
    rw [PyData.eqvAll, eqv_strs xs ys, PyData.eqv]
    by_cases h : x = y <;> by_cases h2 : xs = ys <;> simp [h, h2]
theorem eqv_sD (xs ys : List Str) : PyData.eqv (sD xs) (sD ys) = decide (xs = ys) := by
  unfold sD
  rw [PyData.eqv, eqv_strs]
/-- whether a set is one of these -/
def isOne (x : List Str) (ts : List (List Str)) : Bool := ts.any fun t => decide (t = x)
theorem any_sD (x : List Str) (ts : List (List Str)) : ((ts.map sD).any fun z => PyData.eqv z (sD x)) = isOne x ts := by
  unfold isOne
  rw [List.any_map]
  congr 1
  funext t
  exact eqv_sD t x
theorem eqv_strs_nil (xs : List Str) : PyData.eqv (.list (xs.map .str)) (.list []) = xs.isEmpty := by
  cases xs <;> simp [PyData.eqv, PyData.eqvAll]
theorem eqv_list_nil (xs : List PD) : PyData.eqv (.list xs) (.list []) = xs.isEmpty := by
  cases xs <;> simp [PyData.eqv, PyData.eqvAll]

/-! ### names that may stand in data -/
def okS (s : Str) : Prop := PyData.strOk s = true ∧ (reprText s).length ≤ 20
theorem lay_strs : ∀ ns : List Str, (∀ n ∈ ns, okS n) → PyData.canLayAll0 (ns.map .str) = true
  | [], _ => by simp [PyData.canLayAll0]
  | n :: ns, h => by
    show PyData.canLayAll0 (.str n :: ns.map .str) = true
    rw [PyData.canLayAll0, lay_strs ns fun m hm => h m (List.mem_cons_of_mem _ hm), PyData.canLay0, (h n List.mem_cons_self).1]
    rfl
theorem shaped_sD {ns : List Str} (h : ∀ n ∈ ns, okS n) : SeqAt.shaped (sD ns) = true := by
  unfold SeqAt.shaped
  rw [depth_sD]
  unfold sD
  rw [PyData.canLay0, lay_strs ns h]
  rfl
theorem shaped_strs {ns : List Str} (h : ∀ n ∈ ns, okS n) : SeqAt.shaped (.list (ns.map .str)) = true := by
  unfold SeqAt.shaped
  rw [PyData.canLay0, lay_strs ns h, PyData.depth, depth_strs]
  rfl
theorem lay_teams : ∀ ts : List (List Str), (∀ t ∈ ts, ∀ n ∈ t, okS n) → PyData.canLayAll0 (ts.map sD) = true
  | [], _ => by simp [PyData.canLayAll0]
  | t :: ts, h => by
    show PyData.canLayAll0 (sD t :: ts.map sD) = true
    rw [PyData.canLayAll0, lay_teams ts fun m hm => h m (List.mem_cons_of_mem _ hm), SeqAt.canLay_of_shaped (shaped_sD (h t List.mem_cons_self))]
    rfl
theorem depth_teams : ∀ ts : List (List Str), PyData.depthAll (ts.map sD) ≤ 1
  | [] => by simp [PyData.depthAll]
  | t :: ts => by
    show PyData.depthAll (sD t :: ts.map sD) ≤ 1
    rw [PyData.depthAll, depth_sD]
    exact Nat.max_le.mpr ⟨Nat.le_refl _, depth_teams ts⟩
theorem shaped_teams {ts : List (List Str)} (h : ∀ t ∈ ts, ∀ n ∈ t, okS n) : SeqAt.shaped (.list (ts.map sD)) = true := by
  unfold SeqAt.shaped
  rw [PyData.canLay0, lay_teams ts h, PyData.depth]
  have := depth_teams ts
  simp
  omega
theorem shaped_tD {ts : List (List Str)} (h : ∀ t ∈ ts, ∀ n ∈ t, okS n) : SeqAt.shaped (tD ts) = true := by
  unfold SeqAt.shaped tD
  rw [PyData.canLay0, lay_teams ts h, PyData.depth]
  have := depth_teams ts
  simp
  omega
/-! ### repr of lists of crews -/
theorem show_sD (ns : List Str) : PyData.showable (sD ns) = true := by
  unfold sD
  rw [PyData.showable]
  exact PyData.showableAll_strs ns
theorem nodict_sD : ∀ ns : List Str, PyData.hasDictAll (ns.map .str) = false
  | [] => by simp [PyData.hasDictAll]
  | n :: ns => by
    show PyData.hasDictAll (.str n :: ns.map .str) = false
    rw [PyData.hasDictAll, nodict_sD ns]
    simp [PyData.hasDict]
theorem nodict_tD : ∀ ts : List (List Str), PyData.hasDictAll (ts.map sD) = false
  | [] => by simp [PyData.hasDictAll]
  | t :: ts => by
    show PyData.hasDictAll (sD t :: ts.map sD) = false
    rw [PyData.hasDictAll, nodict_tD ts]
    unfold sD
    rw [PyData.hasDict, nodict_sD]
    rfl
theorem piled_le (m : Nat) : ∀ {ts : List Str}, (∀ t ∈ ts, t.length ≤ m) → piled ts ≤ ts.length * (m + 2)
  | [], _ => Nat.zero_le _
  | t :: ts, h => by
    have := piled_le m (ts := ts) fun x hx => h x (List.mem_cons_of_mem _ hx)
    have := h t List.mem_cons_self
    rw [piled_cons, List.length_cons, Nat.succ_mul]
    omega
theorem long_sD {ns : List Str} (h : ∀ n ∈ ns, okS n) (hl : ns.length ≤ 8) : (sD ns).shown.length ≤ 178 := by
  unfold sD
  rw [PyData.shown, PyData.shownAll_strs]
  have h1 := fmt_text (ns.map reprText)
  have h2 := piled_le 20 (ts := ns.map reprText) fun t ht => by
    obtain ⟨n, hn, rfl⟩ := List.mem_map.mp ht
    exact (h n hn).2
  rw [List.length_map] at h2
  have : ns.length * 22 ≤ 8 * 22 := Nat.mul_le_mul_right _ hl
  omega
theorem shown_all : ∀ ts : List PD, PyData.shownAll ts = ts.map PyData.shown
  | [] => by simp [PyData.shownAll]
  | t :: ts => by rw [PyData.shownAll, shown_all ts]; rfl
theorem long_tD {ts : List (List Str)} (h : ∀ t ∈ ts, t.length ≤ 8 ∧ ∀ n ∈ t, okS n) (hl : ts.length ≤ 1000) : (tD ts).shown.length ≤ sizeLine := by
  unfold tD
  rw [PyData.shown, shown_all, List.map_map]
  have h1 := fmt_text (ts.map (PyData.shown ∘ sD))
  have h2 := piled_le 178 (ts := ts.map (PyData.shown ∘ sD)) fun t ht => by
    obtain ⟨n, hn, rfl⟩ := List.mem_map.mp ht
    exact long_sD (h n hn).2 (h n hn).1
  rw [List.length_map] at h2
  have h3 : ts.length * 180 ≤ 1000 * 180 := Nat.mul_le_mul_right _ hl
  have h4 : 1000 * 180 + 2 ≤ sizeLine := by decide
  omega
theorem repr_teams {K : Frag} {H : Hp} {Q : VK} {a : Addr} {ts : List (List Str)} (h : S2 K H (.ref a) ts) (ho : ∀ t ∈ ts, t.length ≤ 8 ∧ ∀ n ∈ t, okS n) (hl : ts.length ≤ 1000) (q : Q (.str (tD ts).shown) H) : rRepr K [.ref a] H Q := by
  refine ⟨a, tD ts, rfl, h.dp, ?_, ?_, ?_, long_tD ho hl, q⟩
  · unfold tD
    rw [PyData.showable]
    exact PySem.Spec.showableAll_of fun x hx => by
      obtain ⟨t, _, rfl⟩ := List.mem_map.mp hx
      exact show_sD t
  · unfold tD
    rw [PyData.hasDict, nodict_tD]
  · unfold tD
    rw [PyData.depth]
    have := depth_teams ts
    omega
end Cb

/-! The layer's rules with the written part named, for use within comprehensions. -/
namespace Cb
open PySem PySem.Spec PyProof.Rows L2 PySem.W
section
variable (K : Frag) {X : Cx}
theorem o_nin (e : X.K = K := by rfl) : OpR X (compareOp .NotIn) (rIn K true) := by subst e; exact op_notIn_seq
theorem o_in (e : X.K = K := by rfl) : OpR X (compareOp .In) (rIn K false) := by subst e; exact op_in_seq
theorem o_inT (hu : X.A.units + 65 < cLine) (e : X.K = K := by rfl) : OpR X (compareOp .In) (rInT K) := by subst e; exact op_inT hu
theorem o_eqD (hu : X.A.units + 64 < cLine) (e : X.K = K := by rfl) : OpR X (compareOp .Eq) (rEqD K) := by subst e; exact op_eqD hu
theorem o_neD (hu : X.A.units + 64 < cLine) (e : X.K = K := by rfl) : OpR X (compareOp .NotEq) (rNeD K) := by subst e; exact op_neD hu
theorem o_catA (e : X.K = K := by rfl) : OpR X (binaryOp .Add) (rCatA K) := by subst e; exact op_catA
theorem i_list (e : X.K = K := by rfl) : IxR X (rIxL K) := by subst e; exact ix_list
theorem i_tup (e : X.K = K := by rfl) : IxR X (rIxT K) := by subst e; exact ix_tup
theorem s_list (e : X.K = K := by rfl) : SlR X (rSlL K) := by subst e; exact sl_list
theorem s_tupA (e : X.K = K := by rfl) : SlR X (rSlA K) := by subst e; exact sl_tupA
def rTupleOf (K : Frag) : List V → Hp → VK → Prop := fun xs H Q => ∃ p ys, xs = [.ref p] ∧ ((SqL K H p ys ∧ ∀ l, H l = none → Q (.ref l) (upd H l (.tup ys))) ∨ (SqT K H p ys ∧ Q (.ref p) H))
theorem c_tuple (e : X.K = K := by rfl) : CallR X (.type "tuple") (rTupleOf K) := by subst e; exact call_tuple_of
def rListOf (K : Frag) : List V → Hp → VK → Prop := fun xs H Q => ∃ p ys, xs = [.ref p] ∧ (SqL K H p ys ∨ SqT K H p ys) ∧ ∀ l, H l = none → Q (.ref l) (upd H l (.lst ys))
theorem c_list (e : X.K = K := by rfl) : CallR X (.type "list") (rListOf K) := by subst e; exact call_list_of
def rLenOf (K : Frag) : List V → Hp → VK → Prop := fun xs H Q => ∃ p ys, xs = [.ref p] ∧ (SqL K H p ys ∨ SqT K H p ys) ∧ Q (.int ys.length) H
theorem c_len (e : X.K = K := by rfl) : CallR X (.builtin "len") (rLenOf K) := by subst e; exact call_len_seq
theorem c_srt (hu : X.A.units + 64 < cLine) (e : X.K = K := by rfl) : CallR X (.builtin "sorted") (rSrt K) := by subst e; exact cr_srt hu
theorem c_any (hc : X.calm = true := by rfl) (e : X.K = K := by rfl) : CallR X (.builtin "any") (rAny K) := by subst e; exact cr_any hc
theorem c_all (hc : X.calm = true := by rfl) (e : X.K = K := by rfl) : CallR X (.builtin "all") (rAll K) := by subst e; exact cr_all hc
theorem c_repr (hu : X.A.units + 64 < cLine) (hg : Gu X.A) (e : X.K = K := by rfl) : CallR X (.builtin "repr") (rRepr K) := by subst e; exact cr_repr hu hg
theorem p_list {tg l : Expr} {tl : TE} (h : PE X l tl) (e : X.K = K := by rfl) : PI X tg l (iList K tl) := by subst e; exact pi_list h
theorem p_tup {tg l : Expr} {tl : TE} (h : PE X l tl) (e : X.K = K := by rfl) : PI X tg l (iTup K tl) := by subst e; exact pi_tup h
theorem p_app {o a : Expr} {apos cpos : Pos} {to te : TE} (ho : PE X o to) (ha : PE X a te)
    (h : PE X (.Call (.Attribute o "append" apos) [a] [] cpos) (tBM X.K "list" rAppend to (tCons te tNil))) (e : X.K = K := by rfl) :
    PE X (.Call (.Attribute o "append" apos) [a] [] cpos) (tBM K "list" rAppend to (tCons te tNil)) := by subst e; exact h
end
end Cb
namespace Cb
open PySem PySem.Spec PyProof.Rows L2 PySem.W
section
variable {K : Frag} {xs : List V} {tl : TE} {j : Nat} {vs : List Nat} {σ : Stt} {H : Hp} {tb : TB} {N : Hp → Prop}
/-- a later clause over a tuple -/
theorem cl_tup (Pv : Hp → Nat → Hp → Prop) (hl : ∀ R : VK, (∀ a H1, Same H H1 → SqT K H1 a xs → R (.ref a) H1) → tl σ H R) (hj : ∀ x, wipe ((wipe σ vs).set j (some x)) vs = wipe σ vs) (h0 : ∀ H1, Same H H1 → Pv H1 0 H1)
    (hst : ∀ i H1 H2, Pv H1 i H2 → Fx H1 H2) (hs : ∀ i x H0 H1, Same H H0 → xs[i]? = some x → Pv H0 i H1 → tb ((wipe σ vs).set j (some x)) H1 (Pv H0 (i + 1))) (hd : ∀ H0 H1, Same H H0 → Pv H0 xs.length H1 → N H1) : tCl (iTup K tl) (gName j) tYes tb vs σ H N := by
  refine hl _ fun a H1 e1 ht => ⟨a, rfl, ⟨xs, ht⟩, fun i m H' => m = xs.length - i ∧ i ≤ xs.length ∧ Pv H1 i H', ⟨xs.length, by simp, Nat.zero_le _, h0 H1 e1⟩, ?_⟩
  rintro i m H2 ⟨rfl, hi, p⟩
  have q := (hst i H1 H2 p).sqT ht
  by_cases hlt : i < xs.length
  · refine .inr ⟨⟨xs, xs[i], q, by simp [hlt]⟩, Pv H1 (i + 1), fun H' p' => ⟨xs.length - (i + 1), by omega, rfl, hlt, p'⟩, fun x H' y => ?_⟩
    obtain ⟨e, y⟩ := y
    subst e
    exact ⟨hj x, hs i x H1 _ e1 (y xs q) p⟩
  · obtain rfl : i = xs.length := by omega
    exact .inl ⟨⟨xs, q, Nat.le_refl _⟩, hd H1 H2 e1 p⟩
/-- the first clause over a tuple that stands -/
theorem lcN_tup {Q : VK} {a : Addr} {tbD : Addr → TB} (Pv : Addr → Nat → Hp → Prop) (hl : ∀ R : VK, R (.ref a) H → tl σ H R) (ht : SqT K H a xs) (hj : ∀ x, wipe ((wipe σ vs).set j (some x)) vs = wipe σ vs)
    (h0 : ∀ D, H D = none → Pv D 0 (upd H D (.lst []))) (hst : ∀ D i H2, Pv D i H2 → Fx H H2) (hs : ∀ D i x H1, xs[i]? = some x → Pv D i H1 → tbD D ((wipe σ vs).set j (some x)) H1 (Pv D (i + 1)))
    (hd : ∀ D H1, Pv D xs.length H1 → Q (.ref D) H1) : tLcN (iTup K tl) (gName j) tYes tbD vs σ H Q := by
  refine hl _ ⟨a, rfl, ⟨xs, ht⟩, fun D hD => ⟨fun i m H' => m = xs.length - i ∧ i ≤ xs.length ∧ Pv D i H', ⟨xs.length, by simp, Nat.zero_le _, h0 D hD⟩, ?_⟩⟩
  rintro i m H2 ⟨rfl, hi, p⟩
  have q := (hst D i H2 p).sqT ht
  by_cases hlt : i < xs.length
  · refine .inr ⟨⟨xs, xs[i], q, by simp [hlt]⟩, Pv D (i + 1), fun H' p' => ⟨xs.length - (i + 1), by omega, rfl, hlt, p'⟩, fun x H' y => ?_⟩
    obtain ⟨e, y⟩ := y
    subst e
    exact ⟨hj x, hs D i x _ (y xs q) p⟩
  · obtain rfl : i = xs.length := by omega
    exact .inl ⟨⟨xs, q, Nat.le_refl _⟩, hd D H2 p⟩
end
end Cb
namespace Cb
open PySem PySem.Spec PyProof.Rows L2 PySem.W
section
variable {K : Frag} {tl : TE} {j : Nat} {vs : List Nat} {σ : Stt} {H : Hp} {tt : TT} {g : TG} {tb : TS} {D : Ends} {Q : VK}
/-- for x in [s for s in t if ..], t a set of people -/
theorem for_names {ns : List Str} (p : Str → Bool) (hl : ∀ R : VK, (∀ a H1, Same H H1 → SqT K H1 a (ns.map V.str) → R (.ref a) H1) → tl σ H R) (hn : ns.length ≤ 1000) (hj : ∀ x, wipe ((wipe σ vs).set j (some x)) vs = wipe σ vs)
    (hv : ∀ x, ((wipe σ vs).set j (some x))[j]? = some (some x)) (ht : ∀ s ∈ ns, ∀ H1, Same H H1 → ∀ R : Bool → Hp → Prop, R (p s) H1 → tt ((wipe σ vs).set j (some (.str s))) H1 R)
    (lp : ∀ L H', H L = none → Same H H' → H' L = some (.lst ((ns.filter p).map V.str)) → ∃ Pv : Nat → Stt → Hp → Prop, Pv 0 σ H' ∧ (∀ i σ' H2, Pv i σ' H2 → H2 L = some (.lst ((ns.filter p).map V.str))) ∧
      (∀ i s σ' H2, (ns.filter p)[i]? = some s → Pv i σ' H2 → g (.str s) σ' H2 fun σ2 H3 => tb { D with nx := Pv (i + 1), ct := Pv (i + 1), bk := D.nx } σ2 H3) ∧ ∀ σ' H2, Pv (ns.filter p).length σ' H2 → D.nx σ' H2) :
    tFor (iList K (tLc (iTup K tl) (gName j) tt (tVar j) vs)) g tb D σ H := by
  unfold tFor iList
  refine lcT_filter (xs := ns.map V.str) (fun v => match v with | .str s => p s | _ => false) id hl (by rw [List.length_map]; omega) hj (fun v m H1 e1 R hR => ?_) (fun v m _ H1 e1 R hR => ⟨v, hv v, hR H1 (Same.refl H1)⟩) fun L H' nL e hL => ?_
  · obtain ⟨s, hs, rfl⟩ := List.mem_map.mp m
    exact ht s hs H1 e1 R hR
  · have e2 : ((ns.map V.str).filter (fun v => match v with | .str s => p s | _ => false)).map id = (ns.filter p).map V.str := by
      rw [List.map_id, List.filter_map]
      rfl
    rw [e2] at hL
    obtain ⟨Pv, h0, hst, hs, hd⟩ := lp L H' nL e hL
    refine ⟨L, rfl, ⟨_, sl_ hL⟩, for_list (xs := (ns.filter p).map V.str) Pv h0 (fun i σ' H2 _ z => sl_ (hst i σ' H2 z)) (fun i x σ' H2 hi z => ?_) fun σ' H2 z => ?_⟩
    · rw [List.getElem?_map] at hi
      obtain ⟨s, h1, rfl⟩ := Option.map_eq_some_iff.mp hi
      exact hs i s σ' H2 h1 z
    · rw [List.length_map] at z
      exact hd σ' H2 z
/-- t + u, sets of people -/
theorem cat_names {a b : Addr} {xs ys : List Str} (h1 : SqT K H a (xs.map V.str)) (h2 : SqT K H b (ys.map V.str)) (hn : xs.length + ys.length ≤ 100000) (q : ∀ z H', Same H H' → SqT K H' z ((xs ++ ys).map V.str) → Q (.ref z) H') : rCatA K (.ref a) (.ref b) H Q := by
  refine ⟨a, b, xs.map V.str, ys.map V.str, rfl, rfl, h1, h2, by rw [List.length_map, List.length_map]; exact Nat.le_of_lt (big hn), fun e => ?_, fun _ e => ?_, fun _ _ z nz => ?_⟩
  · have e' : xs = [] := List.map_eq_nil_iff.mp e
    subst e'
    exact q b H (Same.refl H) h2
  · have e' : ys = [] := List.map_eq_nil_iff.mp e
    subst e'
    refine q a H (Same.refl H) ?_
    rw [List.append_nil]
    exact h1
  · refine q z _ (same_upd nz) (st_ ?_)
    rw [upd_same, List.map_append]
end
end Cb
namespace Cb
open PySem PySem.Spec PyProof.Rows L2 PySem.W
/-- x = [], then the rest -/
theorem sq_lst {i : Nat} {rest : TS} {D : Ends} {σ : Stt} {H : Hp} (h : ∀ p, H p = none → rest D (σ.set i (some (.ref p))) (upd H p (.lst []))) : tSeq (tAsg (tLst tNil) (gName i)) rest D σ H := ⟨Nat.zero_le _, fun p hp => h p hp⟩
theorem sq_for {wi : TI} {g : TG} {tb u : TS} {D : Ends} {σ : Stt} {H : Hp} (h : tFor wi g tb { D with nx := u D } σ H) : tSeq (tFor wi g tb) u D σ H := h
theorem sq_while {tc : TT} {tb u : TS} {D : Ends} {σ : Stt} {H : Hp} (h : tWhile tc tb { D with nx := u D } σ H) : tSeq (tWhile tc tb) u D σ H := h
end Cb
namespace Cb
open PySem PySem.Spec PyProof.Rows L2 PySem.W
/-- sorted(xs, key=len), xs a list of sets of people -/
def tSrtLen (K : Frag) (ta : TE) : TE := fun σ H Q => ta σ H fun x H1 => ∃ (a : Addr) (bs : List (V × List Str)), x = .ref a ∧ SqL K H1 a (bs.map (·.1)) ∧ (∀ b ∈ bs, S1 K H1 b.1 b.2) ∧
  ∀ p, H1 p = none → Q (.ref p) (upd H1 p (.lst ((bs.mergeSort (dataLe false fun b : V × List Str => PyData.int b.2.length)).map (·.1))))
theorem pe_srtLen {X : Cx} {p q pos kpos : Pos} {e : Expr} {ta : TE} (hu : X.A.units + 64 < cLine) (ms : X.mg "sorted" = none) (ml : X.mg "len" = none) (gs : Gl X "sorted") (gl : Gl X "len") (ha : PE X e ta)
    (he : backTo pos (starEach [e] X.env) = (false, eval e X.env) :: backTo pos (starEach [] X.env) := by rfl) (hpl : (backTo pos (starEach [e] X.env)).any (·.1) = false := by rfl)
    (hall : (backToKw pos (keywordEach [⟨some "key", .Name "len" q, kpos⟩] X.env)).all (·.1.isSome) = true := by rfl) (hnone : (backToKw pos (keywordEach [⟨some "key", .Name "len" q, kpos⟩] X.env)).any (·.1.isNone) = false := by rfl)
    (hks : (backToKw pos (keywordEach [⟨some "key", .Name "len" q, kpos⟩] X.env)).filterMap (·.1) = [Str.ofString "key"] := by rfl)
    (hst : starEach [e] X.env = (false, eval e X.env) :: starEach [] X.env := by rfl) : PE X (.Call (.Name "sorted" p) [e] [⟨some "key", .Name "len" q, kpos⟩] pos) (tSrtLen X.K ta) := by
  refine ⟨fun pins s σ H Q I h => wpAny_Call_Name_kw (ld_blt I gs ms (u := .builtin "sorted") (by decide +kernel) ?_)⟩
  refine PyProof.Rows.callWith_kw (thn ((pa_cons ha pa_nil hst).run pos pins s σ H (fun vs H1 => ∃ x, vs = [x] ∧ ∃ (a : Addr) (bs : List (V × List Str)), x = .ref a ∧ SqL X.K H1 a (bs.map (·.1)) ∧ (∀ b ∈ bs, S1 X.K H1 b.1 b.2) ∧
    ∀ p, H1 p = none → Q (.ref p) (upd H1 p (.lst ((bs.mergeSort (dataLe false fun b : V × List Str => PyData.int b.2.length)).map (·.1))))) I ?_) fun us s1 hz => ?_) he hpl hall hnone
  · unfold tSrtLen at h
    exact (show ta σ H (fun x H1 => ∃ y, [x] = [y] ∧ _) from by
      have h2 : ta σ H (fun x H1 => ∃ (a : Addr) (bs : List (V × List Str)), x = .ref a ∧ SqL X.K H1 a (bs.map (·.1)) ∧ (∀ b ∈ bs, S1 X.K H1 b.1 b.2) ∧
        ∀ p, H1 p = none → Q (.ref p) (upd H1 p (.lst ((bs.mergeSort (dataLe false fun b : V × List Str => PyData.int b.2.length)).map (·.1))))) := h
      have e : (fun (x : V) (H1 : Hp) => ∃ y, [x] = [y] ∧ ∃ (a : Addr) (bs : List (V × List Str)), y = .ref a ∧ SqL X.K H1 a (bs.map (·.1)) ∧ (∀ b ∈ bs, S1 X.K H1 b.1 b.2) ∧
        ∀ p, H1 p = none → Q (.ref p) (upd H1 p (.lst ((bs.mergeSort (dataLe false fun b : V × List Str => PyData.int b.2.length)).map (·.1))))) =
          fun x H1 => ∃ (a : Addr) (bs : List (V × List Str)), x = .ref a ∧ SqL X.K H1 a (bs.map (·.1)) ∧ (∀ b ∈ bs, S1 X.K H1 b.1 b.2) ∧
        ∀ p, H1 p = none → Q (.ref p) (upd H1 p (.lst ((bs.mergeSort (dataLe false fun b : V × List Str => PyData.int b.2.length)).map (·.1)))) := by
        funext x H1
        apply propext
        constructor
        · rintro ⟨y, e, z⟩
          cases e
          exact z
        · exact fun z => ⟨x, rfl, z⟩
      rw [e]
      exact h2)
  · obtain ⟨vs, H1, I1, r1, x, rfl, a, bs, rfl, hs, hb, q1⟩ := hz
    rw [Vals.ref1 r1]
    show wpAny _ _ (evalAll [(do let v ← eval (.Name "len" q) X.env; standAt pos; pure v)]) _ _ s1
    refine wpAny_evalAll_cons (wpAny_bind (ld_blt I1 gl ml (u := .builtin "len") (by decide +kernel) (wpAny_bind (wpAny_standAt (wpAny_pure (wpAny_evalAll_nil ?_))))))
    rw [hks]
    obtain ⟨its, rv, hl, hz⟩ := I1.list hs
    have e0 := each_in (fun b : V × List Str => b.1) rv
    have hn := line63
    refine sorted_key_data (R := fun u b => RelV b.1 u) (b := false) (f := .builtin "len") (kw := [("key", .builtin "len")]) (fun b : V × List Str => PyData.int b.2.length) hl.isList e0 (fun d hd d' hd' => ?_) (.inr fun d hd => ?_) (by rw [List.length_map] at hz; exact hz) (fun b _ => ?_) (ksk_s1 _ _) (fun x => ksk_l1 _ _) (fun x => ksk_t4 "len" x) (fun v b hr hbm h tk keep => ?_) fun out c h' tk keep _ hat h1 h2 => ?_
    · obtain ⟨b, _, rfl⟩ := List.mem_map.mp hd
      obtain ⟨b', _, rfl⟩ := List.mem_map.mp hd'
      simp [alike]
    · obtain ⟨b, _, rfl⟩ := List.mem_map.mp hd
      exact ⟨fun z => (nomatch z), fun _ z => (nomatch z)⟩
    · simp [PyData.depth]
      omega
    · obtain ⟨t, e, ht⟩ := hb b hbm
      rw [e] at hr
      cases hr
      obtain ⟨ws, r', ⟨o, ho, hc, n, hd⟩, hz'⟩ := I1.tuple ht
      have hlen := r'.length
      rw [List.length_map] at hlen hz'
      exact len_tuple (items := ws.toArray) ⟨o, keep _ _ ho, hc, n, hd⟩ (by simp only [List.size_toArray]; omega) ⟨h, tk + 1 + 1, rfl, fun _ _ e => e, by rw [List.size_toArray, ← hlen]; exact .int _ _⟩
    · have ro := each_out (fun b : V × List Str => b.1) h2
      have hl2 : ((bs.mergeSort (dataLe false fun b : V × List Str => PyData.int b.2.length)).map (·.1)).length ≤ sizeLine := by
        rw [List.length_map, List.length_mergeSort, ← List.length_map (f := (·.1))]
        exact hz
      exact ⟨.ref _, upd H1 (s1.heap.objs.size + 1) (.lst ((bs.mergeSort (dataLe false fun b : V × List Str => PyData.int b.2.length)).map (·.1))), I1.laid (t' := tk) keep (Nat.le_succ _) ⟨hl2, out, c, ro, hat⟩, rfl, q1 _ (I1.hok.fresh (Nat.le_succ _))⟩
end Cb

/-! A def called by its one parameter's name; slices and sums of lists of crews. -/
namespace Cb
open PySem PySem.Spec PyProof.Rows L2 PySem.W
theorem sq_set {i : Nat} {te : TE} {rest : TS} {D : Ends} {σ : Stt} {H : Hp} (h : te σ H fun x H1 => rest D (σ.set i (some x)) H1) : tSeq (tAsg te (gName i)) rest D σ H := h
section
variable {X : Cx} {k : Nat} {f : Addr} {fd : FuncData} {CX : CXT} {ps : List Str} {sp : Sp} {x y : Str} {p pos : Pos} {kws : List Keyword} {tk : TA} {E : XK}
/-- f(y = e) -/
theorem pe_callK1 (F : FnOk X.prog X.w X.K X.mg X.base CX k f fd [y] sp) (hr : Room k X.A) (hg : Gl X x) (hm : X.mg x = some (.ref f)) (hk : keepIn X.K (.ref f) = true) (hb : ∀ (s : Shared) (u : Value), BindsTo s fd ⟨[], [(y, u)]⟩ [(y, u)]) (hx : Passes CX X E) (hkw : PK X kws tk)
    (hall : (backToKw pos (keywordEach kws X.env)).all (·.1.isSome) = true := by rfl) (hks : (backToKw pos (keywordEach kws X.env)).filterMap (·.1) = [y] := by rfl) (hdb : (x == ("__debug__" : Str)) = false := by decide)
    (hpl : ((backTo pos (starEach [] X.env)).any (·.1) || (backToKw pos (keywordEach kws X.env)).any (·.1.isNone)) = false := by rfl) :
    PE X (.Call (.Name x p) [] kws pos) (tCall sp [] E tk) := by
  refine ⟨fun pins s σ H Q I h => ?_⟩
  refine wpAny_Call_Name_kw (ld_glob I hg hm ?_ hdb)
  refine PySem.W.callWith_KW0 (h₀ := X.base) I.ok.mod.kin hk hall ?_ hpl
  refine thn (hkw.run pos pins s σ H _ I h) fun ws s2 ⟨zs, H2, I2, rz, q2⟩ => ⟨I2.kIn, ?_⟩
  rw [hks]
  have q3 : sp (zs ++ []) H2 Q E := q2
  rw [List.append_nil] at q3
  have hl := F.len _ _ _ _ q3
  have hl2 := rz.length
  obtain ⟨u, rfl⟩ : ∃ u, ws = [u] := by
    match ws, hl2 with
    | [], e => rw [hl] at e; simp at e
    | [u], _ => exact ⟨u, rfl⟩
    | _ :: _ :: _, e => rw [hl] at e; simp at e
  refine wpAny_call (codeAny_mono (F.run X.A X.stack s2 H2 ⟨[], [(y, u)]⟩ [u] zs Q E hr I2.env0 (hb s2 u) rz q3) fun r s' hq => ?_)
  cases r with
  | error e => exact hx pins σ _ _ e s' I2 hq
  | ok fl =>
    cases fl with
    | ret u => exact I2.after hq
    | next => exact False.elim hq
    | brk => exact False.elim hq
    | cont => exact False.elim hq
end
section
variable {K : Frag} {H : Hp} {Q : VK}
theorem slA_teams {x : V} {ts : List (List Str)} {lo hi : Option Int} (h : S2 K H x ts) (q : ∀ v H' ts', Same H H' → S2 K H' v ts' → ts'.length ≤ HT.sIx ts.length ts.length hi - HT.sIx ts.length 0 lo → (∀ t ∈ ts', t ∈ ts) → Q v H') : rSlA K x lo hi H Q := by
  obtain ⟨a, xs, rfl, ha, hp⟩ := h
  have hl := prd_len hp
  refine ⟨a, xs, rfl, ha, fun hw => q _ H ts (Same.refl _) ⟨a, xs, rfl, ha, hp⟩ (by rw [← hl, hw.1, hw.2]; omega) (fun _ z => z), fun _ p np => ?_⟩
  have s := same_upd (o := .tup (cutV xs lo hi)) np
  refine q (.ref p) _ ((ts.drop (HT.sIx xs.length 0 lo)).take (HT.sIx xs.length xs.length hi - HT.sIx xs.length 0 lo)) s ⟨p, _, rfl, st_ upd_same, prd_mono (fun _ _ z => z.same s) (prd_take _ (prd_drop _ hp))⟩ ?_ fun t ht => List.mem_of_mem_drop (List.mem_of_mem_take ht)
  rw [List.length_take, ← hl]
  omega
theorem cat_teams {x y : V} {ts us : List (List Str)} (h1 : S2 K H x ts) (h2 : S2 K H y us) (hn : ts.length + us.length ≤ 100000) (q : ∀ v H', Same H H' → S2 K H' v (ts ++ us) → Q v H') : rCatA K x y H Q := by
  have g1 := h1
  have g2 := h2
  obtain ⟨a, xs, rfl, ha, hp⟩ := h1
  obtain ⟨b, ys, rfl, hb, hq⟩ := h2
  have l1 := prd_len hp
  have l2 := prd_len hq
  refine ⟨a, b, xs, ys, rfl, rfl, ha, hb, Nat.le_of_lt (big (by omega)), fun e => ?_, fun _ e => ?_, fun _ _ p np => ?_⟩
  · subst e
    have : ts = [] := List.eq_nil_of_length_eq_zero (by simpa using l1.symm)
    subst this
    exact q _ H (Same.refl _) g2
  · subst e
    have : us = [] := List.eq_nil_of_length_eq_zero (by simpa using l2.symm)
    subst this
    refine q _ H (Same.refl _) ?_
    rw [List.append_nil]
    exact g1
  · have s := same_upd (o := .tup (xs ++ ys)) np
    exact q _ _ s ⟨p, _, rfl, st_ upd_same, prd_mono (fun _ _ z => z.same s) (prd_app hp hq)⟩
theorem shaped_nilT : SeqAt.shaped (.tuple []) = true := by
  unfold SeqAt.shaped
  simp [PyData.canLay0, PyData.canLayAll0, PyData.depth, PyData.depthAll]
end
end Cb

/-! Sets of texts: made, added to, sorted. -/
namespace Cb
open PySem PySem.Spec PyProof.Rows L2 PySem.W
section
variable (P : Program) (w : World)
/-- the set at a holds just the texts of l -/
structure TxS (h : Heap) (a : Addr) (l : List Str) (D : Froz.SD) : Prop where
  ob : h.get? a = some (Froz.sObj "set" D)
  ok : Froz.TxOk P w D l
  nd : l.Nodup
  few : l.length < scanBound
  up : Ris D.2.2.place.toList
  led : w.params.followText "set-order" = true ∨ D.2.2.led = true
def SetS (h : Heap) (a : Addr) (l : List Str) : Prop := ∃ D, TxS P w h a l D
/-- as a thing of the heap -/
def SetSO (a : Addr) (l : List Str) : HO := .ext fun h => SetS P w h a l
end
section
variable {P : Program} {w : World} {A : Around} {E : Value → Shared → Prop} {s : Shared} {a : Addr} {l : List Str} {D : Froz.SD}
theorem ris_tail {ep : Nat} {es : Array (Int × Value)} {t : SetTable} (b : Bool) (h : Ris t.place.toList) : Ris (Froz.tailTx ep es t b).2.2.place.toList := by
  unfold Froz.tailTx
  by_cases c : (!b && t.tooFull) = true
  · rw [if_pos c]
    exact relayAll_ris t es _
  · rw [if_neg c]
    exact h
theorem led_tail {ep : Nat} {es : Array (Int × Value)} {t : SetTable} (b : Bool) : (Froz.tailTx ep es t b).2.2.led = t.led := by
  unfold Froz.tailTx
  by_cases c : (!b && t.tooFull) = true
  · rw [if_pos c]
    exact relayAll_led t es _
  · rw [if_neg c]
theorem ris_add {h : Int} {v : Value} (r : Ris D.2.2.place.toList) : Ris (Froz.addTx h v D).2.2.place.toList := by
  have r1 := layNew_ris D.2.2 D.1 h v r
  unfold Froz.addTx
  refine ris_tail _ ?_
  by_cases c : (layNew D.2.2 D.1 h v).2.1.plain = true
  · rw [if_pos c]
    exact r1
  · rw [if_neg c]
    exact r1
theorem led_add {h : Int} {v : Value} : (Froz.addTx h v D).2.2.led = D.2.2.led := by
  have r1 := layNew_led D.2.2 D.1 h v
  unfold Froz.addTx
  rw [led_tail]
  by_cases c : (layNew D.2.2 D.1 h v).2.1.plain = true
  · rw [if_pos c]
    exact r1
  · rw [if_neg c]
    exact r1
theorem SetS.at {h h' : Heap} (x : SetS P w h a l) (k : ∀ o, h.get? a = some o → h'.get? a = some o) : SetS P w h' a l := by
  obtain ⟨D, t⟩ := x
  exact ⟨D, k _ t.ob, t.ok, t.nd, t.few, t.up, t.led⟩
theorem setSO_ok {H : Hp} {h : Heap} (x : SetS P w h a l) : ObjOk P w H h a (SetSO P w a l) := by
  obtain ⟨D, t⟩ := x
  exact ⟨⟨D, t⟩, ⟨_, t.ob⟩, fun h1 h2 y k => y.at k⟩
theorem setSO_get {X : Cx} {pins : List (Addr × Obj)} {σ : Stt} {H : Hp} {s : Shared} (I : Inv X pins σ H s) (e : H a = some (SetSO X.prog X.w a l)) : SetS X.prog X.w s.heap a l := (I.hok a _ e).1
/-- a new set -/
theorem setS_new (P : Program) (w : World) (h : Heap) : SetS P w (h.push { cls := .type "set", dict := none, data := .set #[] 0 (.fresh 0 0 (!w.params.followText "set-order")) }) h.objs.size [] := by
  refine ⟨(#[], 0, .fresh 0 0 (!w.params.followText "set-order")), Heap.get?_push_size _ rfl, .nil (by rfl), .nil, by decide, .nil, ?_⟩
  show _ ∨ (!w.params.followText "set-order") = true
  cases w.params.followText "set-order" with
  | true => exact .inl rfl
  | false => exact .inr rfl
/-- l with k -/
def put1 (l : List Str) (k : Str) : List Str := if k ∈ l then l else k :: l
theorem put1_nd {l : List Str} (h : l.Nodup) (k : Str) : (put1 l k).Nodup := by
  unfold put1
  by_cases c : k ∈ l
  · rw [if_pos c]
    exact h
  · rw [if_neg c]
    exact List.nodup_cons.mpr ⟨c, h⟩
theorem put1_mem {l : List Str} {k x : Str} : x ∈ put1 l k ↔ x ∈ l ∨ x = k := by
  unfold put1
  by_cases c : k ∈ l
  · rw [if_pos c]
    exact ⟨.inl, fun z => z.elim id fun e => e ▸ c⟩
  · rw [if_neg c, List.mem_cons]
    exact Or.comm
theorem put1_len (l : List Str) (k : Str) : (put1 l k).length ≤ l.length + 1 := by
  unfold put1
  split
  · omega
  · simp
theorem addS_hashed {k : Str} {u : Tok} {Q : Bool → Shared → Prop} (T : TxS P w s.heap a l D) (room : l.length + 1 < scanBound) (q : ∀ h' b, Heap.SameBut a s.heap h' → SetS P w h' a (put1 l k) → Q b { s with heap := h' }) :
    wpAny (model P w) A (setAddHashed a (.str k u) (hashStr w k)) Q E s := by
  by_cases c : k ∈ l
  · obtain ⟨es, ep, t⟩ := D
    have key : (strKind P w).is k (.str k u) = true := Froz.is_str k u
    have few : es.size < scanBound := by rw [show es.size = l.length from T.ok.sz]; exact T.few
    have el : ElemsOf (strKind P w) es.toList := T.ok.el
    have dt : (Froz.sObj "set" (es, ep, t)).data = .set es ep t := rfl
    have ft : t.fits es.size = true := T.ok.fit
    unfold setAddHashed setAddHashedIn
    refine wpAny_holding (wpAny_bind (wpAny_setState_of T.ob dt ft ?_))
    dsimp only
    rw [byScan_of rfl few el]
    simp only [↓reduceIte]
    unfold setAddByScan
    refine wpAny_bind (wpAny_bind (wpAny_rule (wpAny_bind (wpAny_setScan_of (knd := strKind P w) (k := k) key T.ob dt ft el ?_))))
    cases hf : List.findIdx? (fun e => (strKind P w).is k e.2) es.toList with
    | none =>
      obtain ⟨e, he, z⟩ := (T.ok.mem k).mp c
      have z2 := List.findIdx?_eq_none_iff.mp hf e he
      rw [z] at z2
      cases z2
    | some j =>
      dsimp only
      refine wpAny_pure (wpAny_pure (q s.heap false (.refl a s.heap) ?_))
      unfold put1
      rw [if_pos c]
      exact ⟨(es, ep, t), T⟩
  · refine Froz.add_x T.ob T.ok c room (q _ true (.update s.heap a _) ?_)
    unfold put1
    rw [if_neg c]
    refine ⟨_, Froz.get_upd _ T.ob rfl, Froz.add_ok u T.ok, List.nodup_cons.mpr ⟨c, T.nd⟩, room, ris_add T.up, ?_⟩
    rw [led_add]
    exact T.led
/-- set.add of a text -/
theorem addS_call {k : Str} {u : Tok} {Q : Value → Shared → Prop} (T : TxS P w s.heap a l D) (room : l.length + 1 < scanBound) (q : ∀ h', Heap.SameBut a s.heap h' → SetS P w h' a (put1 l k) → Q .none { s with heap := h', toks := s.toks + 1 }) :
    wpAny (model P w) A (call (.builtin "set.add") [.ref a, .str k u]) Q E s := by
  refine wpAny_call_entry F.slot_set_add (show s.TypeIs (.ref a) "set" from ⟨_, T.ob, rfl⟩) F.entry_set_add ?_ (F.args_set_add_2 _ _)
  unfold Builtin.«set.add» Builtin.Frozenset.oneOther
  simp only [List.isEmpty_nil, bind_assoc]
  unfold Builtin.Frozenset.addrOf setAdd
  refine wpAny_bind (wpAny_pure ?_)
  try dsimp only
  refine wpAny_bind (wpAny_pure ?_)
  try dsimp only
  refine wpAny_bind (wpAny_holding (wpAny_bind ((strKind P w).pyHash (Froz.is_str k u) ?_)))
  refine addS_hashed (s := { s with toks := s.toks + 1 }) ⟨T.ob, T.ok, T.nd, T.few, T.up, T.led⟩ room fun h' b sb x => ?_
  show wpAny _ _ (ret Value.none) _ _ _
  exact wpAny_pure ⟨_, rfl, q h' sb x⟩
end
section
variable {X : Cx} {pins : List (Addr × Obj)} {σ : Stt} {H : Hp} {s : Shared} {E : Value → Shared → Prop} {D : Addr} {l : List Str}
theorem addS_ok {k : Str} {u : Tok} {Q : Value → Shared → Prop} (I : Inv X pins σ H s) (hD : H D = some (SetSO X.prog X.w D l)) (room : l.length + 1 < scanBound)
    (q : ∀ s', Inv X pins σ (upd H D (SetSO X.prog X.w D (put1 l k))) s' → Q .none s') : wpAny (model X.prog X.w) X.A (call (.builtin "set.add") [.ref D, .str k u]) Q E s := by
  obtain ⟨T0, T⟩ := setSO_get I hD
  refine addS_call T room fun h' sb x => ?_
  obtain ⟨T1, t1⟩ := id x
  exact q _ (I.write (e := D) (t' := s.toks + 1) (by rw [hD]; trivial) (.inl rfl) (fun b u hb hu => (sb.2 b hb).trans hu) ⟨_, t1.ob⟩ (setSO_ok x))
/-! ### sorted of a set of texts -/
def rSrtS (P : Program) (w : World) : List V → Hp → VK → Prop := fun vs H Q => ∃ (a : Addr) (l : List Str), vs = [.ref a] ∧ H a = some (SetSO P w a l) ∧ ∀ p ks, H p = none → ks.Perm l → Q (.ref p) (upd H p (.lst ((srt ks).map V.str)))
theorem perm_of_sub : ∀ {l L : List Str}, l.Nodup → (∀ x ∈ l, x ∈ L) → L.length ≤ l.length → L.Perm l
  | [], L, _, _, h => by
    have : L = [] := List.eq_nil_of_length_eq_zero (Nat.le_zero.mp h)
    rw [this]
  | x :: l, L, nd, sub, h => by
    obtain ⟨n1, n2⟩ := List.nodup_cons.mp nd
    have hx := sub x List.mem_cons_self
    have p := List.perm_cons_erase hx
    refine p.trans ((perm_of_sub n2 (fun y hy => ?_) ?_).cons x)
    · exact (List.mem_erase_of_ne fun e => n1 (by rw [← e]; exact hy)).mpr (sub y (List.mem_cons_of_mem _ hy))
    · rw [List.length_erase_of_mem hx]
      simp at h
      omega
/-- the text of a value -/
def txt : Value → Str
  | .str k _ => k
  | _ => ""
theorem txt_each : ∀ vs : List Value, (∀ v ∈ vs, ∃ k tk, v = Value.str k tk) → EachIs (fun v k => ∃ tk, v = Value.str k tk) vs (vs.map txt)
  | [], _ => .nil
  | v :: vs, h => by
    obtain ⟨k, tk, rfl⟩ := h v List.mem_cons_self
    exact .cons ⟨tk, rfl⟩ (txt_each vs fun u hu => h u (List.mem_cons_of_mem _ hu))
theorem cr_srtS (hc : X.calm = true) (hu : X.A.units + 64 < cLine) : CallR X (.builtin "sorted") (rSrtS X.prog X.w) := by
  intro pins s σ H vs us Q I r h
  obtain ⟨a, l, rfl, hD, q⟩ := h
  rw [Vals.ref1 r]
  obtain ⟨⟨es, ep, t⟩, T⟩ := setSO_get I hD
  refine call_function_entry_kw kind_sorted plain_sorted entry_sorted (args_sorted1 _) ?_
  unfold Builtin.«sorted»
  refine wpAny_bind (m := checkCount "sorted" 1 1 _) (wpAny_pure (wpAny_bind ?_))
  have few : es.size < scanBound := by rw [show es.size = l.length from T.ok.sz]; exact T.few
  refine collect_set (a := a) (es := es) (ep := ep) (t := t) (I.ok.hd hc) ⟨_, T.ob, rfl, rfl⟩ T.ok.fit few T.up T.led fun s1 vs k1 z1 g1 o1 pm => ?_
  have each : ∀ v ∈ vs, ∃ k tk, v = Value.str k tk := fun v hv => by
    obtain ⟨e, he, z⟩ := List.mem_map.mp (pm.mem_iff.mp hv)
    obtain ⟨⟨k, hk, _⟩, _⟩ := T.ok.el e he
    obtain ⟨tk, e2⟩ := Value.isStrOf_shape hk
    exact ⟨k, tk, by rw [← z]; exact e2⟩
  have few2 : vs.length ≤ sizeLine := by
    rw [pm.length_eq, List.length_map, Array.length_toList]
    exact fits_of_scanBound few
  have ke : EachIs (fun v k => ∃ tk, v = Value.str k tk) vs (vs.map txt) := txt_each vs each
  have pk : (vs.map txt).Perm l := by
    refine perm_of_sub T.nd (fun k hk => ?_) ?_
    · obtain ⟨e, he, z⟩ := (T.ok.mem k).mp hk
      obtain ⟨tk, e2⟩ := Value.isStrOf_shape z
      refine List.mem_map.mpr ⟨e.2, pm.mem_iff.mpr (List.mem_map.mpr ⟨e, he, rfl⟩), ?_⟩
      rw [e2]
      rfl
    · rw [List.length_map, pm.length_eq, List.length_map, Array.length_toList]
      exact Nat.le_of_eq T.ok.sz
  have at1 : (s1.heap.push (seqObj "list" vs.toArray 0)).get? s1.heap.objs.size = some (seqObj "list" vs.toArray 0) := Heap.get?_push_size _ rfl
  refine wpAny_bind (wpAny_newList ?_ few2)
  refine wpAny_bind (wpAny_holding (wpAny_call_entry_kw slot_list_sort ⟨_, at1, rfl⟩ entry_list_sort ?_ (args_list_sort _)))
  have er : EachIs (fun v k => ∃ as, Reads (sortingHeap (s1.heap.push (seqObj "list" vs.toArray 0)) s1.heap.objs.size vs) v (PyData.str k) as) vs (vs.map txt) := ke.mono fun v k ⟨tk, e⟩ => ⟨[], by rw [e]; exact .str _ _⟩
  have hal : AllAlike ((vs.map txt).map PyData.str) := fun d hd d' hd' => by
    obtain ⟨k, _, rfl⟩ := List.mem_map.mp hd
    obtain ⟨k', _, rfl⟩ := List.mem_map.mp hd'
    simp [alike]
  have hso : Sortable ((vs.map txt).map PyData.str) := .inr fun d hd => by
    obtain ⟨k, _, rfl⟩ := List.mem_map.mp hd
    exact ⟨fun z => (nomatch z), fun _ z => (nomatch z)⟩
  refine list_sort_vals (s := { s1 with heap := s1.heap.push (seqObj "list" vs.toArray 0) }) at1
    (SortsAt.data (s := { s1 with heap := sortingHeap (s1.heap.push (seqObj "list" vs.toArray 0)) s1.heap.objs.size vs }) (each_map (R := fun v d => ∃ as, Reads (sortingHeap (s1.heap.push (seqObj "list" vs.toArray 0)) s1.heap.objs.size vs) v d as) PyData.str er) hal hso (bound_map (A := X.A.in1.in1) (enc := PyData.str) (bs := vs.map txt) fun k _ => by simp only [PyData.depth]; show X.A.units + 1 + 1 + 0 < cLine; omega)) few2 ?_
  have outs : EachIs (fun v k => ∃ tk, v = Value.str k tk) (sortVals (dataKind (sortingHeap (s1.heap.push (seqObj "list" vs.toArray 0)) s1.heap.objs.size vs) ((vs.map txt).map PyData.str)) false vs vs) (srt (vs.map txt)) := sortVals_data false ke er hal
  generalize sortVals (dataKind (sortingHeap (s1.heap.push (seqObj "list" vs.toArray 0)) s1.heap.objs.size vs) ((vs.map txt).map PyData.str)) false vs vs = out at outs
  refine ⟨_, rfl, wpAny_pure ⟨_, rfl, ?_⟩⟩
  obtain ⟨c, hc2⟩ := sortedHeap_at (out := out.toArray) at1
  have keep : ∀ b o, s.heap.get? b = some o → (sortedHeap (s1.heap.push (seqObj "list" vs.toArray 0)) s1.heap.objs.size vs out.toArray).get? b = some o := fun b o e => by
    have e1 := k1 b o e
    have lt := Heap.lt_size e1
    rw [sortedHeap_old (Nat.ne_of_lt lt) (by rw [size_push']; exact Nat.lt_succ_of_lt lt)]
    exact Heap.get?_push_of_some _ e1
  have hn := I.hok.fresh z1
  have ro : Vals ((srt (vs.map txt)).map V.str) out := each_out (fun k => V.str k) outs
  have small : ((srt (vs.map txt)).map V.str).length ≤ sizeLine := by
    rw [List.length_map, srt_len, List.length_map]
    exact few2
  exact ⟨.ref _, upd H s1.heap.objs.size (.lst ((srt (vs.map txt)).map V.str)), I.call' (ch := []) o1 (Un.laid keep z1 hn) (I.hok.laid keep z1 ⟨small, out, c, ro, hc2⟩) (by rw [g1]; exact I.bare) (fun _ z => nomatch z), rfl, q _ _ hn pk⟩
end
end Cb

/-! Set comprehensions with several for: sets of texts. -/
namespace Cb
open PySem PySem.Spec PyProof.Rows L2 PySem.W
section turns
variable {prog : Program} {w : World} {A : Around} {R : Result → Shared → Prop} {elt tg i1 : Expr} {gs : List Comprehension} {sc : Scope} {pos : Pos} {k : Nat} {fs : List Expr} {p : Pos} {it acc : Value} {env : Env} {bd : Sem PySem.Fin → Sem PySem.Fin} {s : Shared}
theorem loopC (ht : TurnIs (.SetComp elt gs sc pos) tg k fs p it acc env bd) (I : Nat → Shared → Prop)
    (turn : ∀ n s, I n s → wpAny (model prog w) A (pyNext it) (fun r s1 => match r with
      | none => R (.ok .next) s1
      | some v => wpAny (model prog w) A (letOwnedTupleGo tg it v) (fun _ s2 => wpAny (model prog w) A (assign tg env v) (fun _ s3 =>
          wpAny (model prog w) A (forIn fs true fun f r => if r = true then do let ok ← isTrue f env (eval f env); pure (ForInStep.yield ok) else pure (ForInStep.yield r)) (fun ok s4 =>
            if ok = true then Ends3 prog w A bd (fun s5 => ∃ m, m < n ∧ I m s5) s4 else ∃ m, m < n ∧ I m s4) (fun _ _ => False) s3) (fun _ _ => False) s2) (fun _ _ => False) s1) (fun _ _ => False) s)
    (n : Nat) (s : Shared) (h : I n s) : codeAny (model prog w) A (.compLoop (.SetComp elt gs sc pos) k it acc env) R s := by
  refine codeAny_loop rfl I (fun n s hI => ?_) n h
  show wpAny _ A ((compTurn (.SetComp elt gs sc pos) k it acc env).onRaise (fun x => do noteFrame x env; theTreesLotGoes x)) _ _ s
  refine wpAny_noted ?_
  rw [show compTurn (.SetComp elt gs sc pos) k it acc env = _ from ht]
  refine wpAny_bind (wpAny_standAt (wpAny_bind (thnF (turn n s hI) fun r s1 h1 => ?_)))
  match r, h1 with
  | none, h1 => exact wpAny_pure h1
  | some v, h1 =>
    refine wpAny_bind (thnF h1 fun _ s2 h2 => wpAny_bind (thnF h2 fun _ s3 h3 => wpAny_bind (thnF h3 fun ok s4 h4 => ?_)))
    cases ok with
    | false => exact wpAny_pure ⟨rfl, h4⟩
    | true => exact h4 _ _ _ fun s5 h5 => wpAny_pure ⟨rfl, h5⟩
def LastS (elt : Expr) (acc : Value) (env : Env) (n : Sem PySem.Fin) : Sem PySem.Fin := do
  (do let v ← eval elt env; standAt elt.pos; let _ ← call (.builtin "set.add") [acc, v])
  n
theorem lastS_ok {Z : Shared → Prop} (h : wpAny (model prog w) A (eval elt env) (fun x s1 => wpAny (model prog w) A (call (.builtin "set.add") [acc, x]) (fun _ s2 => Z s2) (fun _ _ => False) s1) (fun _ _ => False) s) : Ends3 prog w A (LastS elt acc env) Z s := by
  intro n Q E hn
  unfold LastS
  exact wpAny_bind (wpAny_bind (thnF h fun x s1 h1 => wpAny_bind (wpAny_standAt (wpAny_bind (thnF h1 fun _ s2 h2 => wpAny_pure (hn s2 h2))))))
/-- a later clause's iterator gives itself -/
theorem startC_ok (hc : ((gs)[k]?).elim false (fun g => g.is_async != 0) = false) (h0 : codeAny (model prog w) A (.compLoop (.SetComp elt gs sc pos) k it acc env) R s)
    (h : wpAny (model prog w) A (pyIter it) (fun it' s' => codeAny (model prog w) A (.compLoop (.SetComp elt gs sc pos) k it' acc env) R s') (fun _ _ => False) s) :
    codeAny (model prog w) A (.compStart (.SetComp elt gs sc pos) k it acc env) R s := by
  refine codeAny_of_tree ?_
  show wpAny _ _ ((compStart (.SetComp elt gs sc pos) k it acc env).onRaise (fun x => do noteFrame x env; standAt theWindowsPlace)) _ _ s
  refine wpAny_notedAt ?_
  unfold compStart
  rw [show ((clausesOf (.SetComp elt gs sc pos))[k]?).elim false (fun g => g.is_async != 0) = false from hc]
  show wpAny _ _ (ask >>= _) _ _ s
  refine wpAny_bind (wpAny_askSetting (wpAny_ite ?_))
  split
  · exact wpAny_pure (And.intro rfl h0)
  · refine wpAny_bind (wpAny_rule ?_)
    have jp : wpAny (model prog w) A (pyIter it >>= fun l => again (.compLoop (.SetComp elt gs sc pos) k l acc env)) (fun f s' => match f with
        | .done f => R (.ok f) s'
        | .again c' => c'.quiet = true ∧ codeAny (model prog w) A c' R s') (fun _ _ => False) s := wpAny_bind (thnF h fun it' s' h' => wpAny_pure ⟨rfl, h'⟩)
    show wpAny _ _ (match (clausesOf (.SetComp elt gs sc pos))[k]? with
      | some g => standAt g.iter.pos >>= fun _ => (pyIter it >>= fun l => again (.compLoop (.SetComp elt gs sc pos) k l acc env))
      | _ => (pyIter it >>= fun l => again (.compLoop (.SetComp elt gs sc pos) k l acc env))) _ _ s
    split
    · exact wpAny_bind (wpAny_standAt (thnF jp fun _ _ z => z))
    · exact thnF jp fun _ _ z => z
end turns
section forms
variable (elt t0 i0 t1 i1 : Expr) (f0 f1 : List Expr) (sc : Scope) (pos : Pos) (it acc : Value) (env : Env)
abbrev s1c : Expr := .SetComp elt [⟨t0, i0, f0, 0⟩] sc pos
theorem turnS1 : TurnIs (s1c elt t0 i0 f0 sc pos) t0 0 f0 i0.pos it acc env (LastS elt acc env) := by
  unfold TurnIs LastS
  rfl
abbrev s2c : Expr := .SetComp elt [⟨t0, i0, f0, 0⟩, ⟨t1, i1, f1, 0⟩] sc pos
theorem turnS2_0 : TurnIs (s2c elt t0 i0 t1 i1 f0 f1 sc pos) t0 0 f0 i0.pos it acc env (NextIs (s2c elt t0 i0 t1 i1 f0 f1 sc pos) i1 1 acc env) := by
  unfold TurnIs NextIs
  rfl
theorem turnS2_1 : TurnIs (s2c elt t0 i0 t1 i1 f0 f1 sc pos) t1 1 f1 i1.pos it acc env (LastS elt acc env) := by
  unfold TurnIs LastS
  rfl
end forms
/-- the element, put into the set at D -/
def tEndS (P : Program) (w : World) (te : TE) (D : Addr) : TB := fun σ H N => te σ H fun y H1 => ∃ (x : Str) (l : List Str), y = .str x ∧ H1 D = some (SetSO P w D l) ∧ l.length + 1 < scanBound ∧ N (upd H1 D (SetSO P w D (put1 l x)))
section
variable {Y : Cx} {elt tg i1 : Expr} {gs : List Comprehension} {sc : Scope} {pos p : Pos} {k : Nat} {fs : List Expr} {D : Addr} {bd : Sem PySem.Fin → Sem PySem.Fin} {wi : TI} {g : TG} {tt : TT} {te : TE} {tb : TB} {vI vs : List Nat}
theorem bd_lastS (P : Program) (w : World) (hx : Y.xe = fun _ _ => False) (he : PE Y elt te) (eP : Y.prog = P := by rfl) (ew : Y.w = w := by rfl) : Bd Y (LastS elt (.ref D) Y.env) (tEndS P w te D) [] := by
  subst eP ew
  intro pins σ H s N I h
  have q := he.run pins s σ H _ I h
  rw [hx] at q
  refine lastS_ok (thnF q fun x s1 hz => ?_)
  obtain ⟨yv, H1, I1, r1, x, l, rfl, hD, hl, nx⟩ := hz
  obtain ⟨tk, rfl⟩ := r1
  exact addS_ok I1 hD hl fun s2 I2 => ⟨_, I2, nx⟩
theorem bdC_clause (hx : Y.xe = fun _ _ => False) (hc : Y.calm = true) (tu : ∀ it, TurnIs (.SetComp elt gs sc pos) tg k fs p it (.ref D) Y.env bd) (hgs : ((gs)[k]?).elim false (fun g => g.is_async != 0) = false)
    (hs : ∀ x, foldedSetIterable i1 Y.env x = pure x) (hi : PI Y tg i1 wi) (hg : PG Y tg g) (ht : PTs Y fs tt) (hb : Bd Y bd tb vI) (hv : ∀ i ∈ vI, i ∈ vs) :
    Bd Y (NextIs (.SetComp elt gs sc pos) i1 k (.ref D) Y.env) (tCl wi g tt tb vs) vs := by
  intro pins σ H s N I h
  have q := hi.run pins s σ H _ I h
  rw [hx] at q
  refine next_ok hs (thnF q fun xv s1 hz => thnF hz fun itv s2 h2 => ?_)
  obtain ⟨it, fp, tn, J, H2, rfl, I2, T, st2, f2, W, ⟨m0, w0⟩, tr⟩ := h2
  have fpk : ∀ {H' : Hp}, (∀ b ∈ fp, H' b = none) → ∀ b ∈ fp, FpOk Y pins H' b := fun n b hb => ⟨n b hb, (f2 b hb).2⟩
  have lp : codeAny (model Y.prog Y.w) Y.A (.compLoop (.SetComp elt gs sc pos) k (.ref it) (.ref D) Y.env) (fun r s3 => match r with
      | .ok _ => ∃ H', Inv Y pins (wipe σ vs) H' s3 ∧ N H'
      | .error _ => False) s2 := by
    refine loopC (tu _) (fun n s' => ∃ j H', Inv Y pins (wipe σ vs) H' s' ∧ tn j s'.heap ∧ (∀ b ∈ fp, H' b = none) ∧ W j n H') (fun n s3 h3 => ?_) m0 s2 ⟨0, H2, I2.weak (wipe_length _ _) (fun _ _ e => (wipe_some e).1), st2, fun b hb => (f2 b hb).1, w0⟩
    obtain ⟨j, H3, I3, st3, n3, w3⟩ := h3
    rcases tr j n H3 w3 with ⟨stop, nx⟩ | ⟨go, N1, hN, step⟩
    · refine thnF (T.done Y rfl rfl rfl hc j pins s3 _ H3 (fun _ _ => False) I3 (fpk n3) st3 stop) fun r s4 hr => ?_
      obtain ⟨rfl, I4⟩ := hr
      exact ⟨H3, I4, nx⟩
    · refine thnF (T.item Y rfl rfl rfl hc j pins s3 _ H3 (fun _ _ => False) I3 (fpk n3) st3 go) fun r s4 hr => ?_
      obtain ⟨u, rfl, h4⟩ := hr
      refine thnF h4 fun _ s5 h5 => ?_
      obtain ⟨x, H5, I5, r5, y5, st5, n5⟩ := h5
      have a1 := hg.run _ s5 _ H5 x u _ (I5.pinned (fpk n5) (T.obj _ _ st5)) r5 (step x H5 y5)
      rw [hx] at a1
      refine thnF a1 fun _ s6 h6 => ?_
      obtain ⟨σ6, H6, I6, e6, q6⟩ := h6
      have a2 := ht.run _ s6 σ6 H6 _ I6 q6
      rw [hx] at a2
      refine thnF a2 fun b s7 h7 => ?_
      obtain ⟨H7, I7, q7⟩ := h7
      have back : ∀ {σ8 : Stt} {s' : Shared} {H' : Hp}, Inv Y (pins ++ pinsAt fp s5.heap) σ8 H' s' → σ8.length = σ6.length → (∀ (i : Nat) v, (wipe σ vs)[i]? = some (some v) → σ8[i]? = some (some v)) → N1 H' →
          ∃ m, m < n ∧ ∃ j H', Inv Y pins (wipe σ vs) H' s' ∧ tn j s'.heap ∧ (∀ b ∈ fp, H' b = none) ∧ W j m H' := fun {σ8 s' H'} I' hl hk nx => by
        obtain ⟨m', hm, w'⟩ := hN H' nx
        have at_ : ∀ b ∈ fp, ∀ o, s5.heap.get? b = some o → s'.heap.get? b = some o ∧ H' b = none := fun b hb o e =>
          ⟨(I'.pin (b, o) (List.mem_append_right _ (List.mem_append_right _ (mem_pinsAt hb e)))).1, (I'.pin (b, o) (List.mem_append_right _ (List.mem_append_right _ (mem_pinsAt hb e)))).2.1⟩
        refine ⟨m', hm, j + 1, H', I'.unpinned.weak (by rw [hl, ← wipe_length σ6 vs, e6]) hk, T.keep _ _ _ st5 fun b hb o e => (at_ b hb o e).1, fun b hb => ?_, w'⟩
        obtain ⟨o, e, _⟩ := T.obj _ _ st5 b hb
        exact (at_ b hb o e).2
      have k6 : ∀ (i : Nat) v, (wipe σ vs)[i]? = some (some v) → σ6[i]? = some (some v) ∧ i ∉ vs := fun i v e => by
        rw [← e6] at e
        exact wipe_some e
      cases b with
      | false => exact back I7 rfl (fun i v e => (k6 i v e).1) q7
      | true =>
        intro nn QQ EE hn
        refine hb _ σ6 H7 s7 N1 I7 q7 nn QQ EE fun s8 h8 => hn s8 ?_
        obtain ⟨H8, I8, nx⟩ := h8
        refine back I8 (wipe_length _ _) (fun i v e => ?_) nx
        rw [wipe_out fun z => (k6 i v e).2 (hv i z)]
        exact (k6 i v e).1
  exact startC_ok hgs lp (T.self Y.A 0 _ _ _ st2 lp)
end
section
variable {X : Cx}
/-- {elt for t0 in i0 for t1 in i1 ..}: D the new set -/
def tScN (P : Program) (w : World) (wi : TI) (g : TG) (tt : TT) (tb : Addr → TB) (vs : List Nat) : TE := fun σ H Q => wi σ H fun J H1 => ∀ D, H1 D = none → ∃ W : Nat → Nat → Hp → Prop, (∃ m, W 0 m (upd H1 D (SetSO P w D []))) ∧ ∀ i m H, W i m H →
  (J.stop i H ∧ Q (.ref D) H) ∨ (J.go i H ∧ ∃ N : Hp → Prop, (∀ H', N H' → ∃ m', m' < m ∧ W (i + 1) m' H') ∧ ∀ x H', J.yld i H x H' → g x (wipe σ vs) H' fun σ2 H2 => wipe σ2 vs = wipe σ vs ∧ tt σ2 H2 fun b H3 => if b = true then tb D σ2 H3 N else N H3)
theorem scN_ok {elt tg iter : Expr} {ifs : List Expr} {rest : List Comprehension} {scope : Scope} {own : List (Str × Nat)} {pos : Pos} {wi : TI} {g : TG} {tt : TT} {tb : Addr → TB} {vI : List Nat} {bd : Addr → Env → Sem PySem.Fin → Sem PySem.Fin}
    (hc : X.calm = true) (hN : X.N.Nodup) (hi : PI X tg iter wi) (ok : BlkOk X.N X.env.scope scope own) (hs : ∀ x, foldedSetIterable iter X.env x = pure x)
    (tu : ∀ (it D : Addr) (env : Env), TurnIs (.SetComp elt (⟨tg, iter, ifs, 0⟩ :: rest) scope pos) tg 0 ifs iter.pos (.ref it) (.ref D) env (bd D env))
    (hg : ∀ (s : Shared) (H : Hp) (C : Addr) (cl : List (Str × Addr)) (fp : List Addr), PG (X.blk s H scope (compEnvC scope cl C X.env) fp) tg g) (ht : ∀ (s : Shared) (H : Hp) (C : Addr) (cl : List (Str × Addr)) (fp : List Addr), PTs (X.blk s H scope (compEnvC scope cl C X.env) fp) ifs tt)
    (hb : ∀ (s : Shared) (H : Hp) (C : Addr) (cl : List (Str × Addr)) (fp : List Addr) (D : Addr), Bd (X.blk s H scope (compEnvC scope cl C X.env) fp) (bd D (compEnvC scope cl C X.env)) (tb D) vI) (hv : ∀ i ∈ vI, i ∈ own.map (·.2)) :
    PE X (.SetComp elt (⟨tg, iter, ifs, 0⟩ :: rest) scope pos) (tScN X.prog X.w wi g tt tb (own.map (·.2))) := by
  refine ⟨fun pins s σ H Q I h => ?_⟩
  rw [PpSet.eval_SetComp]
  have free_ : ∀ y ∈ scope.names, y.2 = .free → ∃ c, X.env.cells.lookup y.1 = some c := fun y hy e => I.ok.has _ (ok.free y hy e)
  refine wpAny_comprehension_free (use := none) rfl hs (closure_ok free_) ok.kind (fun y hy e => by rw [ok.uniq y hy, e]) (thn (hi.run pins s σ H _ I h) fun xv s1 hz => thn hz fun itv s2 h2 => ?_)
  obtain ⟨it, fp, tn, J, H2, rfl, I2, T, st2, f2, q⟩ := h2
  refine PpSet.newSet_ok (newEnv_comp ?_)
  generalize hD : s2.heap.objs.size = D
  obtain ⟨W, ⟨m0, w0⟩, tr⟩ := q D (I2.hok.fresh (Nat.le_of_eq hD))
  generalize es : ({ s2 with heap := s2.heap.push { cls := .type "set", dict := none, data := .set #[] 0 (.fresh 0 0 (!X.w.params.followText "set-order")) } } : Shared) = s3
  have h3 : s3.heap = s2.heap.push { cls := .type "set", dict := none, data := .set #[] 0 (.fresh 0 0 (!X.w.params.followText "set-order")) } := by rw [← es]
  have I3 : Inv X pins σ (upd H2 D (SetSO X.prog X.w D [])) s3 := by
    rw [← es]
    refine I2.laid (t' := s2.toks) (fun b o e => Heap.get?_push_of_some _ e) (Nat.le_of_eq hD) ?_
    rw [← hD]
    exact setSO_ok (setS_new X.prog X.w s2.heap)
  have f3 : ∀ b ∈ fp, FpOk X pins (upd H2 D (SetSO X.prog X.w D [])) b ∧ b < s3.heap.objs.size := fun b hb => by
    obtain ⟨o, e, _⟩ := T.obj _ _ st2 b hb
    have lt_ := Heap.lt_size e
    refine ⟨⟨?_, (f2 b hb).2⟩, by rw [h3, Heap.size_push]; exact Nat.lt_succ_of_lt lt_⟩
    rw [upd_ne (by rw [← hD]; exact Nat.ne_of_lt lt_)]
    exact (f2 b hb).1
  have st3 : tn 0 s3.heap := T.keep _ _ _ st2 fun b _ o e => by rw [h3]; exact Heap.get?_push_of_some _ e
  have I4 := block_start I3 ok hN f3
  have pg := hg s3 (upd H2 D (SetSO X.prog X.w D [])) s3.heap.objs.size (cellsFrom (s3.heap.objs.size + 1) scope.names (cloFrom X.env.cells scope.names [])) fp
  have pt := ht s3 (upd H2 D (SetSO X.prog X.w D [])) s3.heap.objs.size (cellsFrom (s3.heap.objs.size + 1) scope.names (cloFrom X.env.cells scope.names [])) fp
  have pb := hb s3 (upd H2 D (SetSO X.prog X.w D [])) s3.heap.objs.size (cellsFrom (s3.heap.objs.size + 1) scope.names (cloFrom X.env.cells scope.names [])) fp D
  show codeAny _ _ (.compStart (.SetComp elt (⟨tg, iter, ifs, 0⟩ :: rest) scope pos) 0 (.ref it) (.ref D) (compEnvC scope (cellsFrom (s3.heap.objs.size + 1) scope.names (cloFrom X.env.cells scope.names [])) s3.heap.objs.size X.env)) (compPost (model X.prog X.w) X.A X.xe none _ (.ref D) s3.heap.objs.size) { s3 with heap := pushCells (s3.heap.push { cls := .type "dict", data := .dict #[] }) scope.names }
  have nfp : ∀ b ∈ fp, (upd H2 D (SetSO X.prog X.w D [])) b = none := fun b hb => (f3 b hb).1.1
  have tu0 := tu it D (compEnvC scope (cellsFrom (s3.heap.objs.size + 1) scope.names (cloFrom X.env.cells scope.names [])) s3.heap.objs.size X.env)
  generalize ec : compEnvC scope (cellsFrom (s3.heap.objs.size + 1) scope.names (cloFrom X.env.cells scope.names [])) s3.heap.objs.size X.env = ce at I4 pg pt pb tu0 ⊢
  have cL : ce.locals = s3.heap.objs.size := by subst ec; rfl
  generalize eH : upd H2 D (SetSO X.prog X.w D []) = H3 at I3 I4 pg pt pb w0 nfp f3
  generalize e4 : ({ s3 with heap := pushCells (s3.heap.push { cls := .type "dict", data := .dict #[] }) scope.names } : Shared) = s4 at I4 ⊢
  have st4 : tn 0 s4.heap := T.keep _ _ _ st3 fun b _ o e => by rw [← e4]; exact pushCells_keeps _ _ _ _ (Heap.get?_push_of_some _ e)
  have fpk : ∀ {σ' : Stt} {H' : Hp} {s' : Shared}, Inv (X.blk s3 H3 scope ce fp) [] σ' H' s' → (∀ b ∈ fp, H' b = none) → ∀ b ∈ fp, FpOk (X.blk s3 H3 scope ce fp) [] H' b := fun {σ' H' s'} I' hn b hb =>
    ⟨hn b hb, (I'.ok.exf b hb).1, I'.ok.exfs b hb, .inl hb, fun x c e => (I'.ok.exf b hb).2 x c e, fun p hp => absurd (show p ∈ ([] : List (Addr × Obj)) ++ [] from hp) (by simp)⟩
  have lp : codeAny (model X.prog X.w) X.A (.compLoop (.SetComp elt (⟨tg, iter, ifs, 0⟩ :: rest) scope pos) 0 (.ref it) (.ref D) ce)
      (compPost (model X.prog X.w) X.A X.xe none (EP X pins σ Q) (.ref D) s3.heap.objs.size) s4 := by
    refine loopC tu0 (fun n s' => ∃ i H', Inv (X.blk s3 H3 scope ce fp) [] (wipe σ (own.map (·.2))) H' s' ∧ tn i s'.heap ∧ (∀ b ∈ fp, H' b = none) ∧ W i n H') (fun n s5 h5 => ?_) m0 s4 ⟨0, H3, I4, st4, nfp, w0⟩
    obtain ⟨i, H5, I5, st5, n5, w5⟩ := h5
    rcases tr i n H5 w5 with ⟨stop, qq⟩ | ⟨go, N1, hN1, step⟩
    · refine thnF (T.done (X.blk s3 H3 scope ce fp) rfl rfl rfl hc i [] s5 _ H5 (fun _ _ => False) I5 (fpk I5 n5) st5 stop) fun r s6 hr => ?_
      obtain ⟨rfl, I6⟩ := hr
      have I7 : Inv X pins σ H5 s6 := I3.call' (ch := fp) I6.os I6.base I6.hok I6.bare fun b hb => ⟨(f3 b hb).1.2.2.2.1, (f3 b hb).1.2.1, (f3 b hb).1.2.2.2.2.1, (f3 b hb).1.2.2.2.2.2⟩
      have nC : H5 s3.heap.objs.size = none := by
        rw [← cL]
        exact I6.free
      obtain ⟨m, hn, _⟩ := I6.loc
      have hn : s6.heap.Ns ce.locals m := hn
      rw [cL] at hn
      obtain ⟨g0, g1, _, g3, g4, g5⟩ := I3.fpOk (H' := H5) (Nat.le_refl _) nC
      exact ⟨m, hn, fun h'' sb => ⟨.ref D, H5, I7.turned (t' := s6.toks) (fun b o hb e => (sb.2 b hb).trans e) g0 g1 (by assumption) (by assumption) (by assumption), rfl, qq⟩⟩
    · refine thnF (T.item (X.blk s3 H3 scope ce fp) rfl rfl rfl hc i [] s5 _ H5 (fun _ _ => False) I5 (fpk I5 n5) st5 go) fun r s6 hr => ?_
      obtain ⟨u, rfl, h6⟩ := hr
      refine thnF h6 fun _ s7 h7 => ?_
      obtain ⟨x, H7, I7, r7, y7, st7, n7⟩ := h7
      refine thnF (pg.run _ s7 _ H7 x u _ (I7.pinned (fpk I7 n7) (T.obj _ _ st7)) r7 (step x H7 y7)) fun _ s8 h8 => ?_
      obtain ⟨σ8, H8, I8, e8, q8⟩ := h8
      refine thnF (pt.run _ s8 σ8 H8 _ I8 q8) fun b s9 h9 => ?_
      obtain ⟨H9, I9, q9⟩ := h9
      have back : ∀ {σ9 : Stt} {s' : Shared} {H' : Hp}, Inv (X.blk s3 H3 scope ce fp) ([] ++ pinsAt fp s7.heap) σ9 H' s' → σ9.length = σ8.length → (∀ (j : Nat) v, (wipe σ (own.map (·.2)))[j]? = some (some v) → σ9[j]? = some (some v)) → N1 H' →
          ∃ m, m < n ∧ ∃ i H', Inv (X.blk s3 H3 scope ce fp) [] (wipe σ (own.map (·.2))) H' s' ∧ tn i s'.heap ∧ (∀ b ∈ fp, H' b = none) ∧ W i m H' := fun {σ9 s' H'} I' hl hk nx => by
        obtain ⟨m', hm, w'⟩ := hN1 H' nx
        have at_ : ∀ b ∈ fp, ∀ o, s7.heap.get? b = some o → s'.heap.get? b = some o ∧ H' b = none := fun b hb o e =>
          ⟨(I'.pin (b, o) (List.mem_append_right _ (List.mem_append_right _ (mem_pinsAt hb e)))).1, (I'.pin (b, o) (List.mem_append_right _ (List.mem_append_right _ (mem_pinsAt hb e)))).2.1⟩
        refine ⟨m', hm, i + 1, H', (I'.unpinned (pins := [])).weak (by rw [hl, ← wipe_length σ8 (own.map (·.2)), e8]) hk, T.keep _ _ _ st7 fun b hb o e => (at_ b hb o e).1, fun b hb => ?_, w'⟩
        obtain ⟨o, e, _⟩ := T.obj _ _ st7 b hb
        exact (at_ b hb o e).2
      have k8 : ∀ (j : Nat) v, (wipe σ (own.map (·.2)))[j]? = some (some v) → σ8[j]? = some (some v) ∧ j ∉ own.map (·.2) := fun j v e => by
        rw [← e8] at e
        exact wipe_some e
      cases b with
      | false => exact back I9 rfl (fun j v e => (k8 j v e).1) q9
      | true =>
        intro nn QQ EE hn
        refine pb _ σ8 H9 s9 N1 I9 q9 nn QQ EE fun s10 h10 => hn s10 ?_
        obtain ⟨H10, I10, nx⟩ := h10
        refine back I10 (wipe_length _ _) (fun j v e => ?_) nx
        rw [wipe_out fun z => (k8 j v e).2 (hv j z)]
        exact (k8 j v e).1
  exact PpSet.codeAny_compStart_set lp (T.self X.A 0 _ _ _ st4 lp)
end
end Cb

/-! The people of crews: a set of texts out of a list of sets, in order. -/
namespace Cb
open PySem PySem.Spec PyProof.Rows L2 PySem.W
/-! ### texts in order are told by who is among them -/
theorem nodup_le : ∀ {l L : List Str}, l.Nodup → (∀ x ∈ l, x ∈ L) → l.length ≤ L.length
  | [], _, _, _ => Nat.zero_le _
  | x :: l, L, nd, sub => by
    obtain ⟨n1, n2⟩ := List.nodup_cons.mp nd
    have hx := sub x List.mem_cons_self
    have h := nodup_le (l := l) (L := L.erase x) n2 fun y hy => (List.mem_erase_of_ne fun e => n1 (by rw [← e]; exact hy)).mpr (sub y (List.mem_cons_of_mem _ hy))
    rw [List.length_erase_of_mem hx] at h
    have := List.length_pos_of_mem hx
    simp
    omega
theorem same_perm {l L : List Str} (h1 : l.Nodup) (h2 : L.Nodup) (h : ∀ x, x ∈ L ↔ x ∈ l) : L.Perm l := perm_of_sub h1 (fun x hx => (h x).mpr hx) (nodup_le h2 fun x hx => (h x).mp hx)
theorem cps_inj {x y : Str} (h : x.cps.toList = y.cps.toList) : x = y := by
  obtain ⟨a⟩ := x
  obtain ⟨b⟩ := y
  have e : a = b := Array.toList_inj.mp h
  rw [e]
theorem srt_le (l : List Str) : (srt l).Pairwise fun a b => a.cps.toList ≤ b.cps.toList := by
  have h := List.pairwise_mergeSort (le := dataLe false PyData.str) (fun a b c h1 h2 => by
    rw [dataLe_str (fun b : Str => b)] at *
    simp only [decide_eq_true_eq] at *
    exact List.le_trans h1 h2) (fun a b => by
    rw [dataLe_str (fun b : Str => b)]
    simp only [Bool.or_eq_true, decide_eq_true_eq]
    exact List.le_total _ _) l
  refine h.imp fun {a b} z => ?_
  rw [dataLe_str (fun b : Str => b)] at z
  exact of_decide_eq_true z
theorem pair_eq : ∀ {a b : List Str}, a.Perm b → a.Pairwise (fun x y => x.cps.toList ≤ y.cps.toList) → b.Pairwise (fun x y => x.cps.toList ≤ y.cps.toList) → a = b
  | [], b, p, _, _ => p.nil_eq
  | x :: a, [], p, _, _ => absurd p.symm.nil_eq (by simp)
  | x :: a, y :: b, p, h1, h2 => by
    obtain ⟨a1, a2⟩ := List.pairwise_cons.mp h1
    obtain ⟨b1, b2⟩ := List.pairwise_cons.mp h2
    have e : x = y := by
      have hx : x ∈ y :: b := p.mem_iff.mp List.mem_cons_self
      have hy : y ∈ x :: a := p.mem_iff.mpr List.mem_cons_self
      rcases List.mem_cons.mp hx with e | hx
      · exact e
      · rcases List.mem_cons.mp hy with e | hy
        · exact e.symm
        · exact cps_inj (List.le_antisymm (a1 y hy) (b1 x hx))
    subst e
    rw [pair_eq ((List.perm_cons x).mp p) a2 b2]
theorem srt_eq {a b : List Str} (p : a.Perm b) : srt a = srt b := pair_eq (((srt_perm a).trans p).trans (srt_perm b).symm) (srt_le a) (srt_le b)
/-- each once -/
def dd : List Str → List Str
  | [] => []
  | x :: l => put1 (dd l) x
theorem dd_nd : ∀ l : List Str, (dd l).Nodup
  | [] => .nil
  | x :: l => put1_nd (dd_nd l) x
theorem dd_mem {x : Str} : ∀ {l : List Str}, x ∈ dd l ↔ x ∈ l
  | [] => by simp [dd]
  | y :: l => by
    show x ∈ put1 (dd l) y ↔ _
    rw [put1_mem, dd_mem (l := l), List.mem_cons]
    exact Or.comm
/-- each once, in order -/
def once (l : List Str) : List Str := srt (dd l)
theorem once_eq {l ks : List Str} (nd : ks.Nodup) (h : ∀ x, x ∈ ks ↔ x ∈ l) : srt ks = once l := srt_eq (same_perm (dd_nd l) nd fun x => by rw [h, dd_mem])
theorem once_mem {l : List Str} {x : Str} : x ∈ once l ↔ x ∈ l := by
  unfold once
  rw [(srt_perm _).mem_iff, dd_mem]
theorem once_nd (l : List Str) : (once l).Nodup := (srt_perm _).nodup_iff.mpr (dd_nd l)
theorem once_len (l : List Str) : (once l).length ≤ l.length := nodup_le (once_nd l) fun x hx => once_mem.mp hx
/-! ### {x for t in ts for x in t} -/
/-- what tuples do -/
def Tk (K : Frag) (H H' : Hp) : Prop := ∀ a xs, SqT K H a xs → SqT K H' a xs
theorem Tk.of {K : Frag} {H H' : Hp} (e : Same H H') : Tk K H H' := fun _ _ h => sameT e h
theorem Tk.s1 {K : Frag} {H H' : Hp} (e : Tk K H H') {v : V} {t : List Str} (h : S1 K H v t) : S1 K H' v t := by
  obtain ⟨a, rfl, h⟩ := h
  exact ⟨a, rfl, e _ _ h⟩
theorem Tk.upd {P : Program} {w : World} {K : Frag} {H0 H : Hp} {D : Addr} {l : List Str} {o : HO} (h : Tk K H0 H) (e : H D = some (SetSO P w D l)) : Tk K H0 (L2.upd H D o) := fun a xs z => by
  rcases h a xs z with (q | ⟨o2, q⟩) | q
  · have n : a ≠ D := fun c => by
      rw [c, e] at q
      cases q
    exact .inl (.inl (by rw [upd_ne n]; exact q))
  · have n : a ≠ D := fun c => by
      rw [c, e] at q
      cases q
    exact .inl (.inr ⟨o2, by rw [upd_ne n]; exact q⟩)
  · exact .inr q
section
variable {K : Frag} {xs : List V} {tl : TE} {j : Nat} {vs : List Nat} {σ : Stt} {H : Hp} {tb : TB} {N : Hp → Prop} {P : Program} {w : World}
theorem cl_tupT (Pv : Nat → Hp → Prop) {a : Addr} (hl : ∀ R : VK, R (.ref a) H → tl σ H R) (ht : SqT K H a xs) (hj : ∀ x, wipe ((wipe σ vs).set j (some x)) vs = wipe σ vs) (h0 : Pv 0 H)
    (hst : ∀ i H2, Pv i H2 → Tk K H H2) (hs : ∀ i x H1, xs[i]? = some x → Pv i H1 → tb ((wipe σ vs).set j (some x)) H1 (Pv (i + 1))) (hd : ∀ H1, Pv xs.length H1 → N H1) : tCl (iTup K tl) (gName j) tYes tb vs σ H N := by
  refine hl _ ⟨a, rfl, ⟨xs, ht⟩, fun i m H' => m = xs.length - i ∧ i ≤ xs.length ∧ Pv i H', ⟨xs.length, by simp, Nat.zero_le _, h0⟩, ?_⟩
  rintro i m H2 ⟨rfl, hi, p⟩
  have q := hst i H2 p a xs ht
  by_cases hlt : i < xs.length
  · refine .inr ⟨⟨xs, xs[i], q, by simp [hlt]⟩, Pv (i + 1), fun H' p' => ⟨xs.length - (i + 1), by omega, rfl, hlt, p'⟩, fun x H' y => ?_⟩
    obtain ⟨e, y⟩ := y
    subst e
    exact ⟨hj x, hs i x _ (y xs q) p⟩
  · obtain rfl : i = xs.length := by omega
    exact .inl ⟨⟨xs, q, Nat.le_refl _⟩, hd H2 p⟩
theorem scN_tup {Q : VK} {a : Addr} {tbD : Addr → TB} (Pv : Addr → Nat → Hp → Prop) (hl : ∀ R : VK, R (.ref a) H → tl σ H R) (ht : SqT K H a xs) (hj : ∀ x, wipe ((wipe σ vs).set j (some x)) vs = wipe σ vs)
    (h0 : ∀ D, H D = none → Pv D 0 (upd H D (SetSO P w D []))) (hst : ∀ D i H2, Pv D i H2 → Tk K H H2) (hs : ∀ D i x H1, xs[i]? = some x → Pv D i H1 → tbD D ((wipe σ vs).set j (some x)) H1 (Pv D (i + 1)))
    (hd : ∀ D H1, Pv D xs.length H1 → Q (.ref D) H1) : tScN P w (iTup K tl) (gName j) tYes tbD vs σ H Q := by
  refine hl _ ⟨a, rfl, ⟨xs, ht⟩, fun D hD => ⟨fun i m H' => m = xs.length - i ∧ i ≤ xs.length ∧ Pv D i H', ⟨xs.length, by simp, Nat.zero_le _, h0 D hD⟩, ?_⟩⟩
  rintro i m H2 ⟨rfl, hi, p⟩
  have q := hst D i H2 p a xs ht
  by_cases hlt : i < xs.length
  · refine .inr ⟨⟨xs, xs[i], q, by simp [hlt]⟩, Pv D (i + 1), fun H' p' => ⟨xs.length - (i + 1), by omega, rfl, hlt, p'⟩, fun x H' y => ?_⟩
    obtain ⟨e, y⟩ := y
    subst e
    exact ⟨hj x, hs D i x _ (y xs q) p⟩
  · obtain rfl : i = xs.length := by omega
    exact .inl ⟨⟨xs, q, Nat.le_refl _⟩, hd D H2 p⟩
/-- the people of the crews -/
theorem set_flat {x0 : V} {ts : List (List Str)} {Q : VK} (hS : S2 K H x0 ts) (h8 : ∀ t ∈ ts, t.length ≤ 8) (h64 : ts.length ≤ 64)
    (q : ∀ D l H', H D = none → Same H H' → H' D = some (SetSO P w D l) → l.Nodup → (∀ x, x ∈ l ↔ x ∈ ts.flatten) → Q (.ref D) H') :
    tScN P w (iTup K (tVar 0)) (gName 1) tYes (fun D => tCl (iTup K (tVar 1)) (gName 2) tYes (tEndS P w (tVar 2) D) [2]) [1, 2] [some x0, none, none] H Q := by
  obtain ⟨a, xs, rfl, ha, hp⟩ := hS
  have hxl := prd_len hp
  refine scN_tup (xs := xs) (fun D i H' => H D = none ∧ Same H H' ∧ ∃ l, H' D = some (SetSO P w D l) ∧ l.Nodup ∧ (∀ x, x ∈ l ↔ x ∈ (ts.take i).flatten) ∧ l.length ≤ 8 * i) (fun R hR => ⟨_, rfl, hR⟩) ha (fun _ => rfl)
    (fun D nD => ⟨nD, same_upd nD, [], upd_same, .nil, fun x => by simp, Nat.zero_le _⟩) (fun D i H2 z => .of z.2.1) (fun D i x H1 hi z => ?_) fun D H1 z => ?_
  · obtain ⟨nD, e1, l, hl, nd, hm, hz⟩ := z
    obtain ⟨t, ht, hx⟩ := prd_getL hp hi
    obtain ⟨b, rfl, hb⟩ := hx
    have t8 := h8 t (List.mem_of_getElem? ht)
    have i64 := (List.getElem?_eq_some_iff.mp ht).1
    have hb1 := sameT e1 hb
    refine cl_tupT (a := b) (xs := t.map V.str) (fun k H' => Tk K H1 H' ∧ Same H H' ∧ ∃ l, H' D = some (SetSO P w D l) ∧ l.Nodup ∧ (∀ x, x ∈ l ↔ x ∈ (ts.take i).flatten ∨ x ∈ t.take k) ∧ l.length ≤ 8 * i + k) (fun R hR => ⟨_, rfl, hR⟩) hb1 (fun _ => rfl)
      ⟨fun _ _ z => z, e1, l, hl, nd, fun x => by rw [hm]; simp, hz⟩ (fun k H2 z => z.1) (fun k y H2 hk z => ?_) fun H2 z => ?_
    · obtain ⟨tk, e2, l2, hl2, nd2, hm2, hz2⟩ := z
      have kl := (List.getElem?_eq_some_iff.mp hk).1
      rw [List.length_map] at kl
      rw [List.getElem?_map] at hk
      obtain ⟨n, hn, rfl⟩ := Option.map_eq_some_iff.mp hk
      refine ⟨_, rfl, n, l2, rfl, hl2, by show l2.length + 1 < 4096; omega, tk.upd hl2, same_mut e2 nD, put1 l2 n, upd_same, put1_nd nd2 n, fun x => ?_, ?_⟩
      · rw [put1_mem, hm2, take_snoc hn, List.mem_append, List.mem_singleton]
        exact or_assoc
      · have := put1_len l2 n
        omega
    · obtain ⟨_, e2, l2, hl2, nd2, hm2, hz2⟩ := z
      rw [List.length_map] at hm2 hz2
      rw [List.take_length] at hm2
      refine ⟨nD, e2, l2, hl2, nd2, fun x => ?_, by omega⟩
      rw [hm2, take_snoc ht]
      simp
  · obtain ⟨nD, e1, l, hl, nd, hm, hz⟩ := z
    rw [hxl, List.take_length] at hm
    exact q D l H1 nD e1 hl nd hm
end
end Cb

/-! Sets of sets of people (tuples of texts): fewer than 64. -/
namespace Cb
open PySem PySem.Spec PyProof.Rows L2 PySem.W
/-- at b: a tuple of these texts -/
abbrev Tx (P : Program) (w : World) (h : Heap) (k : List Str) (b : Addr) : Prop := IsTupleKey (strKind P w) h k b
/-- its hash -/
abbrev tg (P : Program) (w : World) (k : List Str) : Int := tupleKeyHash (strKind P w) k
section
variable {P : Program} {w : World} {A : Around} {E : Value → Shared → Prop} {s : Shared}
theorem txs_of {k : List Str} {vs : List Value} (h : ItemsAre (strKind P w) k vs) : ∀ v ∈ vs, ∃ x t, v = Value.str x t := by
  induction h with
  | nil => exact fun v hv => absurd hv (by simp)
  | cons one _ ih =>
    intro v hv
    rcases List.mem_cons.mp hv with rfl | hv
    · obtain ⟨t, e⟩ := Value.isStrOf_shape one
      exact ⟨_, t, e⟩
    · exact ih v hv
theorem aClass_txt (n : Nat) (x : Str) (t : Tok) : ofAClassStatement n (.str x t) = pure false := by cases n <;> rfl
theorem hashBy_txt (n : Nat) (x : Str) (t : Tok) : hashByValue n (.str x t) = pure false := by cases n <;> rfl
theorem Tx.aClass {k : List Str} {b : Addr} {Q : Bool → Shared → Prop} (T : Tx P w s.heap k b) (q : Q false s) : wpAny (model P w) A (ofAClassStatement 8 (.ref b)) Q E s := by
  have ty := T.typeIs
  obtain ⟨o, its, n, ho, _, dt, al⟩ := T
  unfold ofAClassStatement
  refine wpAny_bind (wpAny_typeOf ty ?_)
  dsimp only
  simp only [show (("tuple" : String) == "tuple") = true from by decide, if_true, Bool.not_true, Bool.false_eq_true, if_false]
  try refine wpAny_bind (wpAny_pure ?_)
  try simp only [Bool.not_true, Bool.false_eq_true, if_false]
  show wpAny _ _ (seqItems? (.ref b) >>= _) _ _ s
  refine wpAny_bind (wpAny_seqItems ho dt ?_)
  dsimp only
  refine wpAny_bind ?_
  show wpAny _ _ (forIn its _ _) _ _ s
  rw [← Array.forIn_toList]
  refine wpAny_forIn_list _ (fun more acc st => acc.1 = none ∧ st = s ∧ ∀ v ∈ more, ∃ x t, v = Value.str x t) _ (fun v more acc st hz => ?_) (fun acc st hz => ?_) _ _ ⟨rfl, rfl, txs_of al⟩
  · obtain ⟨z, rfl, each⟩ := hz
    obtain ⟨x, t, rfl⟩ := each v List.mem_cons_self
    rw [aClass_txt]
    refine wpAny_bind (wpAny_pure ?_)
    simp only [Bool.false_eq_true, if_false]
    exact wpAny_pure ⟨rfl, rfl, fun u hu => each u (List.mem_cons_of_mem _ hu)⟩
  · obtain ⟨a1, a2⟩ := acc
    obtain ⟨z, rfl, _⟩ := hz
    simp only at z
    subst z
    exact wpAny_pure q
theorem Tx.hashBy {k : List Str} {b : Addr} {Q : Bool → Shared → Prop} (T : Tx P w s.heap k b) (q : ∀ c, Q c s) : wpAny (model P w) A (hashByValue 8 (.ref b)) Q E s := by
  have ty := T.typeIs
  obtain ⟨o, its, n, ho, _, dt, al⟩ := T
  unfold hashByValue
  refine wpAny_bind (wpAny_specialOf ty PySem.F.slot_tuple_hash.lookup ?_)
  show wpAny _ _ (seqItems? (.ref b) >>= _) _ _ s
  refine wpAny_bind (wpAny_seqItems ho dt (wpAny_bind ?_))
  show wpAny _ _ (forIn its _ _) _ _ s
  rw [← Array.forIn_toList]
  refine wpAny_forIn_list _ (fun more acc st => acc.1 = none ∧ st = s ∧ ∀ v ∈ more, ∃ x t, v = Value.str x t) _ (fun v more acc st hz => ?_) (fun acc st hz => ?_) _ _ ⟨rfl, rfl, txs_of al⟩
  · obtain ⟨z, rfl, each⟩ := hz
    obtain ⟨x, t, rfl⟩ := each v List.mem_cons_self
    rw [hashBy_txt]
    refine wpAny_bind (wpAny_pure ?_)
    simp only [Bool.not_false, if_true]
    exact wpAny_pure (wpAny_pure (q false))
  · obtain ⟨a1, a2⟩ := acc
    obtain ⟨z, rfl, _⟩ := hz
    simp only at z
    subst z
    exact wpAny_pure (q true)
/-- nothing of a search among such is seen -/
theorem unseen {k : List Str} {b : Addr} {Q : Bool → Shared → Prop} (T : Tx P w s.heap k b) {ys : List Value} (all : ∀ y ∈ ys, ∃ l c, y = Value.ref c ∧ Tx P w s.heap l c) (q : Q false s) : wpAny (model P w) A (searchCouldBeSeen (.ref b) ys) Q E s := by
  unfold searchCouldBeSeen
  refine wpAny_bind ?_
  refine wpAny_forIn_list _ (fun more acc st => acc.1 = none ∧ st = s ∧ ∀ y ∈ more, ∃ l c, y = Value.ref c ∧ Tx P w s.heap l c) _ (fun v more acc st hz => ?_) (fun acc st hz => ?_) _ _ ⟨rfl, rfl, all⟩
  · obtain ⟨z, rfl, each⟩ := hz
    obtain ⟨l, c, rfl, U⟩ := each v List.mem_cons_self
    have later : ∀ y ∈ more, ∃ l c, y = Value.ref c ∧ Tx P w st.heap l c := fun u hu => each u (List.mem_cons_of_mem _ hu)
    dsimp only
    by_cases same : (b == c || (carriedByValue (.ref b) && carriedByValue (.ref c))) = true
    · exact wp_if_pos same (wpAny_pure ⟨rfl, rfl, later⟩)
    · refine wp_if_neg same (wpAny_bind (wpAny_eqIsQuiet_tuple T ?_))
      simp only [Bool.not_true, Bool.false_eq_true, if_false]
      refine wpAny_bind (wpAny_eqIsQuiet_tuple U ?_)
      simp only [Bool.not_true, Bool.false_eq_true, if_false]
      refine wpAny_bind (T.aClass ?_)
      simp only [Bool.false_eq_true, if_false]
      refine wpAny_bind (U.aClass ?_)
      simp only [Bool.false_eq_true, if_false]
      exact wpAny_pure ⟨rfl, rfl, later⟩
  · obtain ⟨a1, a2⟩ := acc
    obtain ⟨z, rfl, _⟩ := hz
    simp only at z
    subst z
    exact wpAny_pure q
end
/-! ### the set -/
abbrev AK := Addr × List Str
def rowT (P : Program) (w : World) (p : AK) : Int × Value := (tg P w p.2, Value.ref p.1)
/-- the set at a as it stands: its members in the table's order -/
structure TsR (P : Program) (w : World) (h : Heap) (a : Addr) (L : List AK) (es : Array (Int × Value)) (ep : Nat) (t : SetTable) : Prop where
  ob : ∃ o, h.get? a = some o ∧ o.ExactSet ∧ o.data = .set es ep t
  rw_ : es.toList = L.map (rowT P w)
  tab : TabOk t (L.map fun p => tg P w p.2)
  nd : (L.map (·.2)).Nodup
  tx : ∀ p ∈ L, Tx P w h p.2 p.1
  led : w.params.followText "set-order" = true ∨ t.led = true
  room : L.length * 5 < t.mask * 3
  few : L.length < 64
section
variable {P : Program} {w : World} {A : Around} {E : Value → Shared → Prop} {s : Shared} {a : Addr} {L : List AK} {es : Array (Int × Value)} {ep : Nat} {t : SetTable}
theorem TsR.size {h : Heap} (R : TsR P w h a L es ep t) : es.size = L.length := by rw [← Array.length_toList, R.rw_, List.length_map]
theorem TsR.places {h : Heap} (R : TsR P w h a L es ep t) : t.place.size = L.length := by
  have := R.tab.sz
  rwa [List.length_map] at this
theorem TsR.fits {h : Heap} (R : TsR P w h a L es ep t) : t.fits es.size = true := by
  have h1 := R.places
  have h2 := R.size
  have h3 := R.room
  unfold SetTable.fits SetTable.fill
  rw [R.tab.dm, Bool.and_eq_true, beq_iff_eq, decide_eq_true_eq]
  refine ⟨by omega, ?_⟩
  show t.place.size + 0 ≤ t.mask
  omega
theorem TsR.row {h : Heap} (R : TsR P w h a L es ep t) {i : Nat} {p : AK} (e : L[i]? = some p) : es[i]? = some (tg P w p.2, Value.ref p.1) := by
  rw [← Array.getElem?_toList, R.rw_, List.getElem?_map, e]
  rfl
theorem TsR.stands {h : Heap} (R : TsR P w h a L es ep t) : ¬ t.gaveWay = true := by
  unfold SetTable.gaveWay
  rw [mask_odd R.tab.mok]
  decide
/-- where the c-th step of a hash's way stands -/
abbrev stp (t : SetTable) (g : Int) (c : Nat) : SetTable.Probe := nth t.mask (runAt t.mask (SetTable.bits g % (t.mask + 1)) (SetTable.bits g)) c
theorem stp_more (t : SetTable) (g : Int) (c d : Nat) : nth t.mask (stp t g c) d = stp t g (c + d) := (nth_add t.mask c _ d).symm
theorem stp_way (t : SetTable) (g : Int) (c : Nat) : (stp t g c).j = way t.mask g c := rfl
theorem nth_dummy (m : Nat) : ∀ (n : Nat) (p : SetTable.Probe), p.dummy = none → (nth m p n).dummy = none
  | 0, _, h => h
  | n + 1, p, h => nth_dummy m n (adv m p) (by
    unfold adv
    split
    · exact h
    · exact h)
/-- the search of a set of people, from the c-th step on -/
theorem TsR.seek (R : TsR P w s.heap a L es ep t) {x : Addr} {k : List Str} (T : Tx P w s.heap k x) (hu : A.units < cLine) {N : Nat} (hN : N < 10 * SetTable.turns t.mask) (free : way t.mask (tg P w k) N ∉ t.place.toList)
    (full : ∀ c, c < N → way t.mask (tg P w k) c ∈ t.place.toList) {Q : SetFound → Shared → Prop} (yes : k ∈ L.map (·.2) → Q (.there none) s) (no : k ∉ L.map (·.2) → Q (.free (way t.mask (tg P w k) N) false) s) :
    ∀ (f c : Nat) (st : Option SetTable.Probe), st.getD (t.probeStart (tg P w k)) = stp t (tg P w k) c → c ≤ N → N - c < f →
      (∀ (i : Nat) (p : AK), L[i]? = some p → p.2 = k → ∃ d, c ≤ d ∧ d < N ∧ t.place.toList[i]? = some (way t.mask (tg P w k) d)) → wpAny (model P w) A (setSearchFrom a (.ref x) (tg P w k) true f st) Q E s
  | 0, _, _, _, _, hf, _ => absurd hf (Nat.not_lt_zero _)
  | f + 1, c, st, at0, cN, hf, ahead => by
    obtain ⟨o, ho, ex, dt⟩ := R.ob
    generalize hg : tg P w k = g at *
    have wy : ∀ d, (nth t.mask (stp t g c) d).j = way t.mask g (c + d) := fun d => congrArg SetTable.Probe.j (stp_more t g c d)
    have hs : ∀ (i : Nat) (p : AK), L[i]? = some p → ((es[i]?.map (·.1)).getD 0) = tg P w p.2 := fun i p e => by rw [R.row e]; rfl
    rw [setSearchFrom_succ]
    refine wpAny_bind (wpAny_setState_of ho dt R.fits ?_)
    dsimp only
    refine wp_if_neg R.stands ?_
    try refine wpAny_bind (wpAny_pure ?_)
    rcases go_spec t R.tab.ris R.tab.dm (fun i => (es[i]?.map (·.1)).getD 0) g (10 * SetTable.turns t.mask) (N - c) (stp t g c) (nth_dummy _ _ _ rfl) (by omega) (fun d hd => by rw [wy]; exact full (c + d) (by omega)) (by rw [wy, Nat.add_sub_cancel' cN]; exact free) with ⟨d, i, dN, li, hh, before, found⟩ | ⟨before, found⟩
    · -- a row with this hash
      rw [wy] at li
      have pr : t.probe (fun i => (es[i]?.map (·.1)).getD 0) g (st.getD (t.probeStart g)) = some (.candidate (way t.mask g (c + d)) i (stp t g (c + (d + 1)))) := by
        rw [at0, ← wy, ← stp_more]
        exact found
      rw [pr]
      dsimp only
      have iL : i < L.length := by
        have h1 := (List.getElem?_eq_some_iff.mp li).1
        rw [Array.length_toList] at h1
        have h2 := R.places
        omega
      obtain ⟨p, hp⟩ : ∃ p, L[i]? = some p := ⟨L[i], List.getElem?_eq_getElem iL⟩
      have pL := List.mem_of_getElem? hp
      have tail : wpAny (model P w) A (searchRest a (.ref x) g true f es t (way t.mask g (c + d)) i (stp t g (c + (d + 1)))) Q E s := by
        unfold searchRest
        rw [R.row hp]
        dsimp only
        refine wpAny_bind (wpAny_holding (wpAny_eqBool_tuple hu (R.tx p pL) T (wpAny_bind (wpAny_setState_of ho dt R.fits ?_))))
        dsimp only
        by_cases same : p.2 = k
        · exact wp_if_pos (by simp [same]) (wpAny_pure (yes (List.mem_map.mpr ⟨p, pL, same⟩)))
        · refine wp_if_neg (by simp [same]) ?_
          try refine wpAny_bind (wpAny_pure ?_)
          rw [sameMem]
          dsimp only
          have lv : t.slot (way t.mask g (c + d)) = .live i := slot_live R.tab.ris li
          simp only [if_true, lv, R.row hp]
          refine wpAny_bind (wpAny_isSame_ref_self (wpAny_bind (wpAny_pure ?_)))
          simp only [if_true]
          refine wp_if_neg (by simp [same]) ?_
          subst hg
          refine R.seek T hu hN free full yes no f (c + (d + 1)) _ rfl (by omega) (by omega) fun i0 p0 h0 k0 => ?_
          obtain ⟨d0, b1, b2, b3⟩ := ahead i0 p0 h0 k0
          have far : c + d < d0 := by
            rcases Nat.lt_trichotomy d0 (c + d) with z | z | z
            · exact absurd ((hs i0 p0 h0).trans (congrArg (tg P w) k0)) (before (d0 - c) i0 (by omega) (by rw [wy, Nat.add_sub_cancel' b1]; exact b3))
            · rw [z] at b3
              have lv2 := slot_live R.tab.ris b3
              rw [lv] at lv2
              injection lv2 with e
              rw [← e, hp] at h0
              exact absurd ((congrArg Prod.snd (Option.some.inj h0)).trans k0) same
            · exact z
          exact ⟨d0, by omega, b2, b3⟩
      by_cases led : t.led = true
      · refine wp_if_neg (by simp [led]) ?_
        try refine wpAny_bind (wpAny_pure ?_)
        exact tail
      · refine wp_if_pos (by simp [led]) (wpAny_bind (unseen T (fun y hy => ?_) ?_))
        · obtain ⟨e, he, rfl⟩ := List.mem_map.mp hy
          have he2 : e ∈ es.toList := by
            have : e ∈ es ∧ e.1 = g := by simpa using he
            simpa using this.1
          rw [R.rw_] at he2
          obtain ⟨p2, m2, rfl⟩ := List.mem_map.mp he2
          exact ⟨p2.2, p2.1, rfl, R.tx p2 m2⟩
        · refine wp_if_neg (by decide) ?_
          try refine wpAny_bind (wpAny_pure ?_)
          exact tail
    · -- the free place
      have pr : t.probe (fun i => (es[i]?.map (·.1)).getD 0) g (st.getD (t.probeStart g)) = some (.empty (way t.mask g N) none) := by
        have e2 : way t.mask g N = (nth t.mask (stp t g c) (N - c)).j := by rw [wy, Nat.add_sub_cancel' cN]
        rw [at0, e2]
        exact found
      rw [pr]
      dsimp only
      refine wpAny_pure (no fun m => ?_)
      obtain ⟨p0, m0, k0⟩ := List.mem_map.mp m
      obtain ⟨i0, l0, e0⟩ := List.getElem_of_mem m0
      have h0 : L[i0]? = some p0 := by rw [List.getElem?_eq_getElem l0, e0]
      obtain ⟨d0, b1, b2, b3⟩ := ahead i0 p0 h0 k0
      subst hg
      exact before (d0 - c) i0 (by omega) (by rw [wy, Nat.add_sub_cancel' b1]; exact b3) ((hs i0 p0 h0).trans (congrArg (tg P w) k0))
/-- as adding asks -/
theorem TsR.search (R : TsR P w s.heap a L es ep t) {x : Addr} {k : List Str} (T : Tx P w s.heap k x) (hu : A.units < cLine) {Q : SetFound → Shared → Prop} (yes : k ∈ L.map (·.2) → Q (.there none) s)
    (no : ∀ N, k ∉ L.map (·.2) → way t.mask (tg P w k) N ∉ t.place.toList → (∀ c, c < N → way t.mask (tg P w k) c ∈ t.place.toList) → Q (.free (way t.mask (tg P w k) N) false) s) : wpAny (model P w) A (setSearch a (.ref x) (tg P w k) true) Q E s := by
  have rm := R.room
  obtain ⟨N, hN, free, full⟩ := R.tab.first (by rw [List.length_map]; omega) (tg P w k)
  have small : N < 100000 := by
    have : 10 * SetTable.turns t.mask ≤ 1420 := by
      unfold SetTable.turns
      rcases R.tab.mok with e | e | e <;> omega
    omega
  unfold setSearch
  refine R.seek T hu hN free full yes (fun m => no N m free full) 100000 0 none rfl (Nat.zero_le _) (by omega) fun i p e pk => ?_
  have lp := R.places
  have iL := (List.getElem?_eq_some_iff.mp e).1
  have li : t.place.toList[i]? = some (t.place.toList[i]'(by rw [Array.length_toList]; omega)) := List.getElem?_eq_getElem _
  obtain ⟨c, cN, z⟩ := R.tab.before (h := tg P w k) free (i := i) (by rw [List.getElem?_map, e, ← pk]; rfl) li
  exact ⟨c, Nat.zero_le _, cN, by rw [li, z]⟩
end
end Cb

namespace Cb
open PySem PySem.Spec PyProof.Rows L2 PySem.W
theorem picked : ∀ {α : Type} (L : List α) (n : Nat), n ≤ L.length → (List.range n).filterMap (fun i => L[i]?) = L.take n
  | _, _, 0, _ => rfl
  | _, L, n + 1, h => by
    have lt : n < L.length := h
    rw [List.range_succ, List.filterMap_append, picked L n (Nat.le_of_lt lt), List.take_add_one, List.filterMap_cons_some (List.getElem?_eq_getElem lt), List.getElem?_eq_getElem lt]
    rfl
section
variable {P : Program} {w : World} {A : Around} {E : Value → Shared → Prop} {s : Shared} {a : Addr} {L : List AK} {es : Array (Int × Value)} {ep : Nat} {t : SetTable}
theorem tab_off {hs : List Int} (T : TabOk t hs) (b : Bool) : TabOk (if b = true then t else { t with plain := false }) hs := by
  cases b with
  | true => exact T
  | false => exact ⟨T.ris, T.dm, T.sz, T.mok, T.bd, T.reach⟩
/-- the rows in another order -/
theorem rows_by (ord : Array Nat) (hr : es.toList = L.map (rowT P w)) (hp : ord.toList.Perm (List.range L.length)) :
    ∃ L2 : List AK, (ord.filterMap (es[·]?)).toList = L2.map (rowT P w) ∧ L2.Perm L ∧ (L2.map fun p => tg P w p.2) = ord.toList.map fun i => (es.map (·.1)).getD i 0 := by
  have one : ∀ i, es[i]? = (L[i]?).map (rowT P w) := fun i => by rw [← Array.getElem?_toList, hr, List.getElem?_map]
  have third : ∀ l : List Nat, (∀ i ∈ l, i < L.length) → ((l.filterMap fun i => L[i]?).map fun p => tg P w p.2) = l.map fun i => (es.map (·.1)).getD i 0 := by
    intro l
    induction l with
    | nil => exact fun _ => rfl
    | cons i l ih =>
      intro h
      have hi := h i List.mem_cons_self
      rw [List.filterMap_cons_some (List.getElem?_eq_getElem hi), List.map_cons, List.map_cons, ih fun j hj => h j (List.mem_cons_of_mem _ hj)]
      congr 1
      have e : (es.map (·.1))[i]? = some (tg P w (L[i]).2) := by
        rw [Array.getElem?_map, one, List.getElem?_eq_getElem hi]
        rfl
      simp [Array.getD_eq_getD_getElem?, e]
  refine ⟨ord.toList.filterMap fun i => L[i]?, ?_, ?_, third _ fun i hi => List.mem_range.mp (hp.mem_iff.mp hi)⟩
  · have e : (fun i => es[i]?) = fun i => (L[i]?).map (rowT P w) := funext one
    rw [List.map_filterMap, ← e]
    simp
  · refine (hp.filterMap _).trans ?_
    rw [picked L L.length (Nat.le_refl _), List.take_length]
theorem Tx.same {h h' : Heap} {k : List Str} {b : Addr} {o : Obj} (T : Tx P w h k b) (ho : h.get? a = some o) (dt : o.data = .set es ep t) (sb : Heap.SameBut a h h') : Tx P w h' k b := by
  obtain ⟨o2, its, n, h2, c2, d2, al⟩ := T
  have ne : b ≠ a := fun e => by
    rw [e, ho] at h2
    cases h2
    rw [dt] at d2
    cases d2
  exact ⟨o2, its, n, (sb.2 b ne).trans h2, c2, d2, al⟩
theorem Tx.keep {h h' : Heap} {k : List Str} {b : Addr} (T : Tx P w h k b) (kp : ∀ c o, h.get? c = some o → h'.get? c = some o) : Tx P w h' k b := by
  obtain ⟨o, its, n, ho, z⟩ := T
  exact ⟨o, its, n, kp b o ho, z⟩
/-- the table laid again, larger -/
theorem relay_T {o : Obj} (ho : s.heap.get? a = some o) (ex : o.ExactSet) (dt : o.data = .set es ep t) (hr : es.toList = L.map (rowT P w)) (pz : t.place.size = es.size) (dm : t.dummies = #[]) (fl : es.size ≤ t.mask) (nd : (L.map (·.2)).Nodup)
    (tx : ∀ p ∈ L, Tx P w s.heap p.2 p.1) (ld : w.params.followText "set-order" = true ∨ t.led = true) (few : L.length < 64) {want M : Nat} (hw : SetTable.sizeAbove want - 1 = M) (hM : MaskOk M) (h128 : SetTable.sizeAbove want ≤ 128) (room : L.length * 5 < M * 3)
    {Q : Unit → Shared → Prop} (q : ∀ h' L' es' ep' t', Heap.SameBut a s.heap h' → TsR P w h' a L' es' ep' t' → L'.Perm L → Q () { s with heap := h' }) : wpAny (model P w) A (setRelay a want) Q E s := by
  have eL : es.size = L.length := by rw [← Array.length_toList, hr, List.length_map]
  have ft : t.fits es.size = true := by
    unfold SetTable.fits SetTable.fill
    rw [dm, Bool.and_eq_true, beq_iff_eq, decide_eq_true_eq]
    refine ⟨pz, ?_⟩
    show t.place.size + 0 ≤ t.mask
    omega
  obtain ⟨t2, ord, e, perm, T2, m2, l2, p2, d2⟩ := relaid_ok t (hs := es.map (·.1)) (wanted := want) hw hM (by rw [Array.size_map, eL]; omega)
  rw [Array.size_map, eL] at perm
  obtain ⟨L2, r1, r2, r3⟩ := rows_by (P := P) (w := w) ord hr perm
  rw [← r3] at T2
  have z2 : (ord.filterMap (es[·]?)).size = es.size := by rw [← Array.length_toList, r1, List.length_map, r2.length_eq, eL]
  rw [setRelay_eq]
  refine wpAny_bind (wpAny_setState_of ho dt ft ?_)
  dsimp only
  refine wp_if_neg (by rw [sizeLine_eq]; omega) ?_
  try refine wpAny_bind (wpAny_pure ?_)
  rw [e]
  dsimp only
  refine wpAny_bind (wp_if_neg (by rw [z2]; simp) ?_)
  try refine wpAny_bind (wpAny_pure ?_)
  refine wpAny_pure ?_
  dsimp only
  have sb : Heap.SameBut a s.heap (s.heap.update a (Obj.putSet (ord.filterMap (es[·]?)) t2)) := .update ..
  refine wpAny_storeSet_of ho dt (q _ L2 _ (ep + 1) t2 sb ⟨⟨_, store_at ho dt, ⟨ex.1, ex.2.1, ex.2.2⟩, rfl⟩, r1, T2, (r2.map (·.2)).nodup_iff.mpr nd, fun p hp => (tx p (r2.mem_iff.mp hp)).same ho dt sb, by rw [l2]; exact ld, by rw [r2.length_eq, m2]; exact room, by rw [r2.length_eq]; exact few⟩ r2) (by rw [z2, eL, sizeLine_eq]; omega)
theorem off_mask (b : Bool) : (if b = true then t else { t with plain := false }).mask = t.mask := by cases b <;> rfl
theorem off_led (b : Bool) : (if b = true then t else { t with plain := false }).led = t.led := by cases b <;> rfl
theorem off_place (b : Bool) : (if b = true then t else { t with plain := false }).place = t.place := by cases b <;> rfl
theorem off_full (b : Bool) : (if b = true then t else { t with plain := false }).tooFull = t.tooFull := by cases b <;> rfl
theorem put_any {α : Type} (L : List α) (p : Nat) (x : α) : (L.take p ++ x :: L.drop p).Perm (x :: L) := by
  have h : (L.take p ++ x :: L.drop p).Perm (x :: (L.take p ++ L.drop p)) := List.perm_middle
  rwa [List.take_append_drop] at h
theorem by_val {k : List Str} {b : Addr} (T : Tx P w s.heap k b) {α : Type} {c : Prop} [Decidable c] {K : Bool → Sem α} {Q : α → Shared → Prop} (h : ∀ bv, wpAny (model P w) A (K bv) Q E s) :
    wpAny (model P w) A (if c then (hashByValue 8 (.ref b) >>= K) else (pure true >>= K)) Q E s := by
  by_cases z : c
  · exact wp_if_pos z (wpAny_bind (T.hashBy h))
  · exact wp_if_neg z (wpAny_bind (wpAny_pure (h true)))
/-- one more -/
theorem add_T (R : TsR P w s.heap a L es ep t) {x : Addr} {k : List Str} (T : Tx P w s.heap k x) (hu : A.units < cLine) (few2 : L.length + 1 < 64) {Q : Bool → Shared → Prop}
    (q : ∀ b h' L' es' ep' t', Heap.SameBut a s.heap h' → TsR P w h' a L' es' ep' t' → (k ∈ L.map (·.2) → L' = L) → (k ∉ L.map (·.2) → L'.Perm ((x, k) :: L)) → Q b { s with heap := h' }) : wpAny (model P w) A (setAddHashed a (.ref x) (tg P w k)) Q E s := by
  obtain ⟨o, ho, ex, dt⟩ := R.ob
  have eL := R.size
  have rm := R.room
  unfold setAddHashed
  refine wpAny_holding ?_
  rw [show (100000 : Nat) = 99999 + 1 from rfl, setAddHashedIn_succ]
  refine wpAny_bind (wpAny_setState_of ho dt R.fits ?_)
  dsimp only
  refine wp_if_neg (by simp [byScan, Value.scannable]) ?_
  try refine wpAny_bind (wpAny_pure ?_)
  refine wpAny_bind (R.search T hu (fun m => ?_) fun N nm free full => ?_)
  · dsimp only
    exact wpAny_pure (q false s.heap L es ep t (.refl a s.heap) R (fun _ => rfl) fun z => absurd m z)
  · dsimp only
    refine wpAny_bind (wpAny_setState_of ho dt R.fits ?_)
    dsimp only
    obtain ⟨q1, q2, q3, q4, q5, q6, q7, q8, q9⟩ := R.tab.put free full
    generalize hpt : t.put (way t.mask (tg P w k) N) = pt at q1 q3 q4 q5 q9 ⊢
    obtain ⟨t1, at1⟩ := pt
    dsimp only at q1 q3 q4 q5 q9 ⊢
    subst q1
    refine by_val T fun bv => ?_
    have inn : (SetTable.insertAt es (SetTable.below t.place (way t.mask (tg P w k) N)) (tg P w k, Value.ref x)).toList = (L.take (SetTable.below t.place (way t.mask (tg P w k) N)) ++ (x, k) :: L.drop (SetTable.below t.place (way t.mask (tg P w k) N))).map (rowT P w) := by
      rw [SetTable.toList_insertAt, R.rw_, List.map_append, List.map_cons, List.map_take, List.map_drop]
      rfl
    generalize SetTable.below t.place (way t.mask (tg P w k) N) = p at q2 q3 inn ⊢
    have pm := put_any L p (x, k)
    have hlen : (L.take p ++ (x, k) :: L.drop p).length = L.length + 1 := pm.length_eq
    have hh : (L.take p ++ (x, k) :: L.drop p).map (fun p => tg P w p.2) = (L.map fun p => tg P w p.2).take p ++ tg P w k :: (L.map fun p => tg P w p.2).drop p := by rw [List.map_append, List.map_cons, List.map_take, List.map_drop]
    rw [← hh] at q3
    have nd1 : ((L.take p ++ (x, k) :: L.drop p).map (·.2)).Nodup := (pm.map (·.2)).nodup_iff.mpr (by
      rw [List.map_cons]
      exact List.nodup_cons.mpr ⟨nm, R.nd⟩)
    have es1z : (SetTable.insertAt es p (tg P w k, Value.ref x)).size = L.length + 1 := by rw [← Array.length_toList, inn, List.length_map, hlen]
    generalize SetTable.insertAt es p (tg P w k, Value.ref x) = es1 at inn es1z ⊢
    generalize L.take p ++ (x, k) :: L.drop p = L1 at pm hlen q3 nd1 inn
    -- the table as it is stored
    have T1 := tab_off q3 bv
    have em := off_mask (t := t1) bv
    have el := off_led (t := t1) bv
    have ep1 := off_place (t := t1) bv
    have ef := off_full (t := t1) bv
    generalize (if bv = true then t1 else { t1 with plain := false }) = t2 at T1 em el ep1 ef ⊢
    refine wpAny_bind (wpAny_storeSet_of ho dt ?_ (by rw [es1z, sizeLine_eq]; omega))
    have sb : Heap.SameBut a s.heap (s.heap.update a (Obj.putSet es1 t2)) := .update ..
    have ho1 := store_at (es' := es1) (t' := t2) ho dt
    generalize s.heap.update a (Obj.putSet es1 t2) = h1 at sb ho1 ⊢
    have tx1 : ∀ p ∈ L1, Tx P w h1 p.2 p.1 := fun p hp => by
      rcases List.mem_cons.mp (pm.mem_iff.mp hp) with e | hp
      · rw [e]
        exact T.same ho dt sb
      · exact (R.tx p hp).same ho dt sb
    have ld1 : w.params.followText "set-order" = true ∨ t2.led = true := by
      rw [el, q5]
      exact R.led
    have ex1 : ({ o with data := .set es1 (ep + 1) t2 } : Obj).ExactSet := ⟨ex.1, ex.2.1, ex.2.2⟩
    have fullIs : t1.tooFull = decide ((L.length + 1) * 5 ≥ t1.mask * 3) := by
      unfold SetTable.tooFull
      rw [q9, List.length_map]
    by_cases hf : t2.tooFull = true
    · have hf1 := hf
      rw [ef, fullIs, decide_eq_true_eq, q4] at hf1
      have two : (t.mask = 7 ∧ L.length = 4) ∨ (t.mask = 31 ∧ L.length = 18) := by
        rcases R.tab.mok with e | e | e
        · exact .inl ⟨e, by rw [e] at hf1 rm; omega⟩
        · exact .inr ⟨e, by rw [e] at hf1 rm; omega⟩
        · exfalso
          rw [e] at hf1
          omega
      have go : ∀ M, SetTable.sizeAbove (SetTable.grown (L.length + 1)) - 1 = M → MaskOk M → SetTable.sizeAbove (SetTable.grown (L.length + 1)) ≤ 128 → (L.length + 1) * 5 < M * 3 →
          wpAny (model P w) A (setRelay a (SetTable.grown (L.length + 1))) (fun _ s2 => wpAny (model P w) A (pure true) Q E s2) E { s with heap := h1 } := fun M h1' h2' h3' h4' => by
        refine relay_T (s := { s with heap := h1 }) ho1 ex1 rfl inn ?_ T1.dm ?_ nd1 tx1 ld1 (by rw [hlen]; exact few2) h1' h2' h3' (by rw [hlen]; exact h4') fun h2 L2 es2 e2 t3 sb2 R2 pm2 => ?_
        · have := T1.sz
          rw [List.length_map, hlen] at this
          rw [this, es1z]
        · rw [es1z, em, q4]
          rcases two with ⟨z1, z2⟩ | ⟨z1, z2⟩ <;> omega
        · exact wpAny_pure (q true h2 L2 es2 e2 t3 (sb.trans sb2) R2 (fun z => absurd z nm) fun _ => pm2.trans pm)
      have fin : wpAny (model P w) A (setRelay a (SetTable.grown (L.length + 1))) (fun _ s2 => wpAny (model P w) A (pure true) Q E s2) E { s with heap := h1 } := by
        rcases two with ⟨_, e2⟩ | ⟨_, e2⟩
        · exact go 31 (by rw [e2, size_20]) (.inr (.inl rfl)) (by rw [e2, size_20]; decide) (by omega)
        · exact go 127 (by rw [e2, size_76]) (.inr (.inr rfl)) (by rw [e2, size_76]; decide) (by omega)
      rw [eL]
      first
        | (refine wpAny_bind ?_; exact wp_if_pos (by simp [hf]) fin)
        | (refine wp_if_pos (by simp [hf]) ?_; exact wpAny_bind fin)
    · have hf1 := hf
      rw [ef, fullIs, decide_eq_true_eq, q4] at hf1
      have R1 : TsR P w h1 a L1 es1 (ep + 1) t2 := ⟨⟨_, ho1, ex1, rfl⟩, inn, T1, nd1, tx1, ld1, by rw [hlen, em, q4]; omega, by rw [hlen]; exact few2⟩
      have fin : wpAny (model P w) A (pure true) Q E { s with heap := h1 } := wpAny_pure (q true h1 L1 es1 (ep + 1) t2 sb R1 (fun z => absurd z nm) fun _ => pm)
      first
        | (refine wp_if_neg (by simp [hf]) ?_; exact fin)
        | (refine wpAny_bind ?_; refine wp_if_neg (by simp [hf]) ?_; exact wpAny_pure fin)
end
end Cb

/-! set(xs), whatever the items are: told by what is known turn by turn. -/
namespace Cb
open PySem PySem.Spec PyProof.Rows L2 PySem.W
section
variable {P : Program} {w : World} {A : Around} {E : Value → Shared → Prop} {s : Shared}
/-- a set that is new -/
abbrev set0 (w : World) : Obj := { cls := .type "set", dict := none, data := .set #[] 0 (.fresh 0 0 (!w.params.followText "set-order")) }
theorem set_loop {I S : Addr} {fp wr : List Addr} {G : Array GenState → Array GenState → Prop} {n : Nat} {Pv : Nat → Value → Prop} {St : Nat → Shared → Prop} {R : Result → Shared → Prop} (W : WalksS P w A.in1 I fp wr G n Pv St) (out : S ∉ fp) (J : Nat → Heap → Prop)
    (keep : ∀ i h h', J i h → (∀ b o, b ∉ wr → h.get? b = some o → h'.get? b = some o) → J i h')
    (add : ∀ i v (st : Shared) (Q : Bool → Shared → Prop) (E : Value → Shared → Prop), Pv i v → i < n → J i st.heap → (∀ b h' tk, st.toks ≤ tk → Heap.SameBut S st.heap h' → J (i + 1) h' → Q b { st with heap := h', toks := tk }) → wpAny (model P w) A.in1 (setAdd S v) Q E st) :
    ∀ (m i : Nat) (s : Shared), n - i = m → i ≤ n → St i s → J i s.heap → (∀ s', Moved (S :: wr) G s s' → J n s'.heap → R (.ok (.ret .none)) s') → codeAny (model P w) A (.builtin "set.update.loop" ⟨[.ref S, .ref I], []⟩) R s := by
  have sub : ∀ b ∈ wr, b ∈ S :: wr := fun b hb => List.mem_cons_of_mem _ hb
  intro m
  induction m with
  | zero =>
    intro i s hm hi st j r
    obtain rfl : i = n := by omega
    refine codeAny_builtin F.entry_set_update_loop ?_
    rw [Around.under_plainId F.plain_set_update_loop _]
    show wpAny _ A.in1 (pyNext (.ref I) >>= _) _ _ s
    refine wpAny_bind (W.done s _ _ st fun s1 mv => ?_)
    show wpAny _ A.in1 (ret Value.none) _ _ s1
    exact wpAny_pure (r s1 (mv.mono sub) (keep _ _ _ j fun b o nb e => mv.heap b o nb e))
  | succ m ih =>
    intro i s hm hi st j r
    have lt : i < n := by omega
    refine codeAny_builtin F.entry_set_update_loop ?_
    rw [Around.under_plainId F.plain_set_update_loop _]
    show wpAny _ A.in1 (pyNext (.ref I) >>= _) _ _ s
    refine wpAny_bind (W.item i s _ _ lt st fun v s1 pv st1 mv => ?_)
    show wpAny _ A.in1 (holding [v] (setAdd S v) >>= _) _ _ s1
    refine wpAny_bind (wpAny_holding (add i v s1 _ _ pv lt (keep _ _ _ j fun b o nb e => mv.heap b o nb e) fun b h2 tk le sb j2 => ?_))
    refine wpAny_pure ⟨plainId_quiet F.plain_set_update_loop _, ih (i + 1) _ (by omega) lt (W.frame _ s1 _ _ st1 le fun c hc o e => ?_) j2 fun s3 mv3 j3 => ?_⟩
    · exact (sb.2 c fun z => out (by rw [← z]; exact hc)).trans e
    · refine r s3 (Moved.trans W.gtrans ((mv.mono sub).then_heap le fun c o hc e => ?_) mv3) j3
      exact (sb.2 c fun z => hc (by rw [z]; exact List.mem_cons_self)).trans e
set_option maxHeartbeats 8000000 in
theorem call_set_of {l : Addr} {items : Array Value} (hh : A.handled = none) (hl : s.heap.IsList l items) (J : Nat → Heap → Prop)
    (j0 : ∀ h, (∀ b o, s.heap.get? b = some o → h.get? b = some o) → h.get? s.heap.objs.size = some (set0 w) → J 0 h) (keep : ∀ i h h', J i h → (∀ b o, b ≠ s.heap.objs.size + 1 → h.get? b = some o → h'.get? b = some o) → J i h')
    (add : ∀ (B : Around) i v (st : Shared) (Q : Bool → Shared → Prop) (E : Value → Shared → Prop), B.units ≤ A.units + 3 → items[i]? = some v → J i st.heap → (∀ b h' tk, st.toks ≤ tk → Heap.SameBut s.heap.objs.size st.heap h' → J (i + 1) h' → Q b { st with heap := h', toks := tk }) → wpAny (model P w) B (setAdd s.heap.objs.size v) Q E st)
    {Q : Value → Shared → Prop} (q : ∀ (h' : Heap) (tk : Nat), J items.size h' → (∀ b o, s.heap.get? b = some o → h'.get? b = some o) → Q (.ref s.heap.objs.size) { s with heap := h', toks := tk }) : wpAny (model P w) A (call (.type "set") [.ref l]) Q E s := by
  obtain ⟨c, tl, hmro⟩ := PySem.F.called_set.mro
  have hmade := PySem.F.called_set.made
  have hsub := PySem.F.called_set.sub
  refine wpAny_call (codeAny_of_tree ?_)
  show wpAny _ _ (callAny (.type "set") _) _ _ _
  refine wpAny_pure ⟨Code.quiet_builtin _ (by decide +kernel), codeAny_builtin PySem.F.entry_type_call ?_⟩
  rw [Around.under_plain (weight_type_call_type "set" [.ref l] []) rfl]
  have h1 := PySem.F.called_set.notType
  have h2 := PySem.F.called_set.canCreate
  have hct := PySem.F.typeCall_set_1 (.ref l)
  repeat any_goals first | assumption | wp_step
  refine codeAny_mono (code_set_led1 (.ref l) (E := E) (Q₁ := fun ob s1 => ob = .ref s.heap.objs.size ∧ s1 = { s with heap := s.heap.push (set0 w) }) ⟨rfl, rfl⟩) fun r s1 hr => ?_
  cases r with
  | error e => exact hr
  | ok fl =>
    cases fl with
    | ret ob =>
      obtain ⟨rfl, rfl⟩ := hr
      have hS : (s.heap.push (set0 w)).get? s.heap.objs.size = some (set0 w) := Heap.get?_push_size _ rfl
      have hT : Shared.TypeIs { s with heap := s.heap.push (set0 w) } (.ref s.heap.objs.size) "set" := ⟨_, hS, rfl⟩
      have hli := PySem.F.called_set.init.lookup
      have hbi := PySem.F.called_set.init.bind (.ref s.heap.objs.size)
      repeat any_goals first | assumption | wp_step
      refine codeAny_mono (codeAny_call_builtin (R := wants (fun r s2 => r = .none ∧ ∃ h' tk, s2 = { s with heap := h', toks := tk } ∧ J items.size h' ∧ ∀ b o, s.heap.get? b = some o → h'.get? b = some o) E) PySem.F.called_set.init.plain PySem.F.entry_set_init (check_set_init_1 hT ?_)) fun r2 s2 hr2 => ?_
      · obtain ⟨ol, hol, hcl, nl, hdl⟩ := hl
        obtain ⟨kcls, kdict, kdata, kslots⟩ := ol
        simp only at hcl hdl
        subst hcl hdl
        have hol2 : (s.heap.push (set0 w)).get? l = some { cls := .type "list", dict := kdict, data := .seq items nl, slots := kslots } := Heap.get?_push_of_some _ hol
        have n1 := PySem.F.sub_list_set
        have n2 := PySem.F.sub_list_frozenset
        have n3 : (Value.type "list" == Value.type "dict") = false := by decide
        have hl2 : (s.heap.push (set0 w)).IsList l items := ⟨_, hol2, rfl, nl, rfl⟩
        unfold Builtin.«set.__init__» noKeywords Builtin.Frozenset.updateFrom
        generalize hPI : pyIter = PI
        wp_walk
        subst hPI
        refine wpAny_pyIter_list hl2 ?_
        refine wpAny_bind (wpAny_runValue ?_)
        have lS : l < s.heap.objs.size := Heap.lt_size hol
        have z1 : (s.heap.push (set0 w)).objs.size = s.heap.objs.size + 1 := Heap.size_push ..
        have nI : l ≠ (s.heap.push (set0 w)).objs.size := by
          rw [z1]
          exact Nat.ne_of_lt (Nat.lt_succ_of_lt lS)
        have calm : A.in1.in1.in1.handled = none := by simp [hh]
        have outS : s.heap.objs.size ∉ [(s.heap.push (set0 w)).objs.size, l] := by
          rw [z1]
          intro z
          rcases List.mem_cons.mp z with e | z
          · exact absurd e (Nat.ne_of_lt (Nat.lt_succ_self _))
          · exact absurd (List.mem_singleton.mp z) (Nat.ne_of_gt lS)
        refine set_loop (A := A.in1.in1) ((Walks.list calm _ l nI items).toS) outS J (fun i h h' j kp => keep i h h' j fun b o nb e => kp b o (fun z => nb ((List.mem_singleton.mp z).trans z1)) e) (fun i v st Q E pv _ j k => add _ i v st Q E (Nat.le_refl _) pv j k) (items.size - 0) 0 _ rfl (Nat.zero_le _)
          ⟨⟨_, Heap.get?_push_size _ rfl, rfl, rfl⟩, hl2.push _⟩ (j0 _ (fun b o e => Heap.get?_push_of_some _ (Heap.get?_push_of_some _ e)) (Heap.get?_push_of_some _ hS)) fun s' mv j => ?_
        obtain ⟨h', g2, d2, tk2, os2⟩ := s'
        have eg : g2 = s.gens := mv.gens
        have ed : d2 = s.drawn := mv.drawn
        have eo : os2 = s.os := mv.os
        subst eg ed eo
        show wpAny _ _ _ _ _ _
        refine wpAny_pure ?_
        show wpAny _ _ (ret Value.none) _ _ _
        refine wpAny_pure ⟨rfl, h', tk2, rfl, j, fun b o e => ?_⟩
        have lt := Heap.lt_size e
        refine mv.heap b o (fun z => ?_) (Heap.get?_push_of_some _ (Heap.get?_push_of_some _ e))
        rcases List.mem_cons.mp z with z | z
        · exact absurd z (Nat.ne_of_lt lt)
        · rw [List.mem_singleton.mp z, z1] at lt
          exact absurd (Nat.lt_of_succ_lt lt) (Nat.lt_irrefl _)
      · cases r2 with
        | error e => exact hr2
        | ok fl2 =>
          cases fl2 with
          | ret r =>
            obtain ⟨rfl, h', tk, rfl, j, kp⟩ := hr2
            repeat any_goals first | assumption | wp_step
            exact q _ _ j kp
          | _ => exact hr2.elim
    | _ => exact hr.elim
end
end Cb

/-! set(crews) and sorted(set(crews)). -/
namespace Cb
open PySem PySem.Spec PyProof.Rows L2 PySem.W
section
variable {P : Program} {w : World}
/-- the set at a, its members told elsewhere -/
structure Ts0 (P : Program) (w : World) (h : Heap) (a : Addr) (L : List AK) (es : Array (Int × Value)) (ep : Nat) (t : SetTable) : Prop where
  ob : ∃ o, h.get? a = some o ∧ o.ExactSet ∧ o.data = .set es ep t
  rw_ : es.toList = L.map (rowT P w)
  tab : TabOk t (L.map fun p => tg P w p.2)
  nd : (L.map (·.2)).Nodup
  led : w.params.followText "set-order" = true ∨ t.led = true
  room : L.length * 5 < t.mask * 3
  few : L.length < 64
theorem TsR.bare {h : Heap} {a : Addr} {L : List AK} {es : Array (Int × Value)} {ep : Nat} {t : SetTable} (R : TsR P w h a L es ep t) : Ts0 P w h a L es ep t := ⟨R.ob, R.rw_, R.tab, R.nd, R.led, R.room, R.few⟩
theorem Ts0.full {h : Heap} {a : Addr} {L : List AK} {es : Array (Int × Value)} {ep : Nat} {t : SetTable} (R : Ts0 P w h a L es ep t) (tx : ∀ p ∈ L, Tx P w h p.2 p.1) : TsR P w h a L es ep t := ⟨R.ob, R.rw_, R.tab, R.nd, tx, R.led, R.room, R.few⟩
def TsO (P : Program) (w : World) (a : Addr) (L : List AK) : HO := .ext fun h => ∃ es ep t, Ts0 P w h a L es ep t
theorem tsO_ok {H : Hp} {h : Heap} {a : Addr} {L : List AK} {es : Array (Int × Value)} {ep : Nat} {t : SetTable} (R : Ts0 P w h a L es ep t) : ObjOk P w H h a (TsO P w a L) := by
  obtain ⟨o, ho, z⟩ := id R.ob
  refine ⟨⟨es, ep, t, R⟩, ⟨o, ho⟩, fun h1 h2 x k => ?_⟩
  obtain ⟨es2, e2, t2, R2⟩ := x
  obtain ⟨o2, ho2, z2⟩ := id R2.ob
  exact ⟨es2, e2, t2, ⟨⟨o2, k o2 ho2, z2⟩, R2.rw_, R2.tab, R2.nd, R2.led, R2.room, R2.few⟩⟩
theorem ts_new {h : Heap} {a : Addr} (e : h.get? a = some (set0 w)) : TsR P w h a [] #[] 0 (.fresh 0 0 (!w.params.followText "set-order")) where
  ob := ⟨_, e, ⟨rfl, rfl, rfl⟩, rfl⟩
  rw_ := rfl
  tab := ⟨.nil, rfl, rfl, .inl rfl, fun x hx => absurd hx (by simp [SetTable.fresh]), fun i h j hi => absurd hi (by simp)⟩
  nd := .nil
  tx := fun p hp => absurd hp (by simp)
  led := by
    show _ ∨ (!w.params.followText "set-order") = true
    cases w.params.followText "set-order" with
    | true => exact .inl rfl
    | false => exact .inr rfl
  room := by
    show 0 * 5 < 7 * 3
    decide
  few := by decide
theorem items_txt : ∀ {k : List Str} {us : List Value}, Vals (k.map V.str) us → ItemsAre (strKind P w) k us
  | [], _, .nil => .nil
  | x :: k, _, .cons r t => by
    obtain ⟨tk, rfl⟩ := r
    exact .cons (Froz.is_str x tk) (items_txt t)
end
section
variable {X : Cx} {pins : List (Addr × Obj)} {σ : Stt} {H : Hp} {s : Shared}
theorem tx_of (I : Inv X pins σ H s) {b : Addr} {k : List Str} (h : SqT X.K H b (k.map V.str)) : Tx X.prog X.w s.heap k b := by
  obtain ⟨its, r, ⟨o, ho, hc, n, hd⟩, _⟩ := I.tuple h
  exact ⟨o, its.toArray, n, ho, hc, hd, by simpa using items_txt r⟩
theorem refs_ak : ∀ {ks : List AK} {us : List Value}, Vals (ks.map fun p => V.ref p.1) us → us = ks.map fun p => Value.ref p.1
  | [], _, .nil => rfl
  | p :: ks, _, .cons r t => by
    cases r
    rw [refs_ak t, List.map_cons]
theorem ak_refs : ∀ ks : List AK, Vals (ks.map fun p => V.ref p.1) (ks.map fun p => Value.ref p.1)
  | [] => .nil
  | p :: ks => .cons rfl (ak_refs ks)
/-- crews with where they stand -/
theorem ak_of {K : Frag} {H : Hp} : ∀ {xs : List V} {ts : List (List Str)}, Paired (S1 K H) xs ts → ∃ ks : List AK, xs = ks.map (fun p => V.ref p.1) ∧ ts = ks.map (·.2) ∧ ∀ p ∈ ks, SqT K H p.1 (p.2.map V.str)
  | _, _, .nil => ⟨[], rfl, rfl, fun p h => absurd h (by simp)⟩
  | _, _, .cons (b := t) r z => by
    obtain ⟨ks, e1, e2, e3⟩ := ak_of z
    obtain ⟨a, rfl, h⟩ := r
    refine ⟨(a, t) :: ks, by rw [e1]; rfl, by rw [e2]; rfl, fun p hp => ?_⟩
    rcases List.mem_cons.mp hp with rfl | hp
    · exact h
    · exact e3 p hp
/-- set(crews) -/
def rSetTs (K : Frag) (P : Program) (w : World) : List V → Hp → VK → Prop := fun vs H Q => ∃ (l : Addr) (xs : List V) (ts : List (List Str)), vs = [.ref l] ∧ SqL K H l xs ∧ Paired (S1 K H) xs ts ∧ ts.length < 64 ∧
  ∀ a (L : List AK), H a = none → (∀ p ∈ L, SqT K H p.1 (p.2.map V.str)) → (L.map (·.2)).Nodup → (∀ t, t ∈ L.map (·.2) ↔ t ∈ ts) → L.length ≤ ts.length → Q (.ref a) (upd H a (TsO P w a L))
theorem cr_setTs (hc : X.calm = true) (hu : X.A.units + 64 < cLine) : CallR X (.type "set") (rSetTs X.K X.prog X.w) := by
  intro pins s σ H vs us Q I r h
  obtain ⟨l, xs, ts, rfl, hl, hp, few, q⟩ := h
  obtain ⟨ks, rfl, rfl, sq⟩ := ak_of hp
  rw [Vals.ref1 r]
  rw [List.length_map] at few
  obtain ⟨its, rv, pl, hz⟩ := I.list hl
  have hits := refs_ak rv
  have hn : H s.heap.objs.size = none := I.hok.fresh (Nat.le_refl _)
  have tx0 : ∀ p ∈ ks, Tx X.prog X.w s.heap p.2 p.1 := fun p hp => tx_of I (sq p hp)
  have small : ∀ {b : Addr} {o : Obj}, s.heap.get? b = some o → b ≠ s.heap.objs.size ∧ b ≠ s.heap.objs.size + 1 := fun {b o} e => ⟨Nat.ne_of_lt (Heap.lt_size e), Nat.ne_of_lt (Nat.lt_succ_of_lt (Heap.lt_size e))⟩
  refine call_set_of (P := X.prog) (w := X.w) (items := its.toArray) (I.ok.hd hc) pl.isList
    (fun i h => (∀ b o, s.heap.get? b = some o → h.get? b = some o) ∧ ∃ L es ep t, TsR X.prog X.w h s.heap.objs.size L es ep t ∧ (∀ p ∈ L, p ∈ ks.take i) ∧ (∀ p ∈ ks.take i, p.2 ∈ L.map (·.2)) ∧ L.length ≤ i)
    (fun h kp e => ⟨kp, [], _, _, _, ts_new e, fun p hp => absurd hp (by simp), fun p hp => absurd hp (by simp), Nat.le_refl _⟩) (fun i h h' z kp => ?_) (fun B i v st Q E bu hv z k => ?_) fun h' tk z kp => ?_
  · obtain ⟨z1, L, es, ep, t, R, z2, z3, z4⟩ := z
    have up : ∀ b o, s.heap.get? b = some o → h'.get? b = some o := fun b o e => kp b o (small e).2 (z1 b o e)
    obtain ⟨o, ho, zo⟩ := R.ob
    exact ⟨up, L, es, ep, t, ⟨⟨o, kp _ o (Nat.ne_of_lt (Nat.lt_succ_self _)) ho, zo⟩, R.rw_, R.tab, R.nd, fun p hp => (tx0 p (List.mem_of_mem_take (z2 p hp))).keep up, R.led, R.room, R.few⟩, z2, z3, z4⟩
  · obtain ⟨z1, L, es, ep, t, R, z2, z3, z4⟩ := z
    rw [← Array.getElem?_toList, hits] at hv
    simp only [List.getElem?_map] at hv
    obtain ⟨p, hp, rfl⟩ := Option.map_eq_some_iff.mp hv
    have il := (List.getElem?_eq_some_iff.mp hp).1
    have T := (tx0 p (List.mem_of_getElem? hp)).keep z1
    have ub : B.units < cLine := by omega
    unfold setAdd
    refine wpAny_holding (wpAny_bind (wpAny_pyHash_tuple ub T ?_))
    refine add_T (s := { st with toks := st.toks + (p.2.length + 1) }) ⟨R.ob, R.rw_, R.tab, R.nd, R.tx, R.led, R.room, R.few⟩ T ub (by omega) fun b h' L' es' ep' t' sb R' c1 c2 => ?_
    refine k b h' _ (Nat.le_add_right _ _) sb ⟨fun c o e => (sb.2 c (small e).1).trans (z1 c o e), L', es', ep', t', R', ?_⟩
    rw [take_snoc hp]
    by_cases m : p.2 ∈ L.map (·.2)
    · rw [c1 m]
      refine ⟨fun x hx => List.mem_append_left _ (z2 x hx), fun x hx => ?_, by omega⟩
      rcases List.mem_append.mp hx with hx | hx
      · exact z3 x hx
      · rw [List.mem_singleton.mp hx]
        exact m
    · have pm := c2 m
      refine ⟨fun x hx => ?_, fun x hx => ?_, by rw [pm.length_eq]; simp; omega⟩
      · rcases List.mem_cons.mp (pm.mem_iff.mp hx) with rfl | hx
        · exact List.mem_append_right _ (List.mem_singleton.mpr rfl)
        · exact List.mem_append_left _ (z2 x hx)
      · rw [(pm.map (·.2)).mem_iff, List.map_cons]
        rcases List.mem_append.mp hx with hx | hx
        · exact List.mem_cons_of_mem _ (z3 x hx)
        · rw [List.mem_singleton.mp hx]
          exact List.mem_cons_self
  · obtain ⟨_, L, es, ep, t, R, z2, z3, z4⟩ := z
    have ei : its.toArray.size = ks.length := by
      rw [List.size_toArray, hits, List.length_map]
    rw [ei, List.take_length] at z2 z3
    refine ⟨.ref s.heap.objs.size, upd H s.heap.objs.size (TsO X.prog X.w s.heap.objs.size L), I.laid (t' := tk) kp (Nat.le_refl _) (tsO_ok R.bare), rfl, q _ L hn (fun p hp => sq p (z2 p hp)) R.nd (fun t => ?_) (by rw [List.length_map]; omega)⟩
    constructor
    · intro m
      obtain ⟨p, hp, rfl⟩ := List.mem_map.mp m
      exact List.mem_map.mpr ⟨p, z2 p hp, rfl⟩
    · intro m
      obtain ⟨p, hp, rfl⟩ := List.mem_map.mp m
      exact z3 p hp
end
end Cb

namespace Cb
open PySem PySem.Spec PyProof.Rows L2 PySem.W
theorem unmap {α β : Type} (f : α → β) : ∀ (L : List α) (vs : List β), vs.Perm (L.map f) → ∃ L1 : List α, L1.Perm L ∧ vs = L1.map f
  | [], vs, h => ⟨[], .refl _, h.eq_nil⟩
  | p :: L, vs, h => by
    obtain ⟨u, v, rfl⟩ := List.append_of_mem (h.mem_iff.mpr (List.mem_cons_self (a := f p) (l := L.map f)))
    have h2 : (u ++ v).Perm (L.map f) := (List.perm_cons (f p)).mp (List.perm_middle.symm.trans h)
    obtain ⟨L1, p1, e1⟩ := unmap f L (u ++ v) h2
    have eu : u = (L1.take u.length).map f := by
      have := congrArg (List.take u.length) e1
      rwa [List.take_left, ← List.map_take] at this
    have ev : v = (L1.drop u.length).map f := by
      have := congrArg (List.drop u.length) e1
      rwa [List.drop_left, ← List.map_drop] at this
    refine ⟨L1.take u.length ++ p :: L1.drop u.length, (put_any L1 u.length p).trans (p1.cons p), ?_⟩
    rw [List.map_append, List.map_cons, ← eu, ← ev]
theorem prd_maps {α β γ : Type} {F : β → γ → Prop} (f : α → β) (g : α → γ) : ∀ l : List α, (∀ p ∈ l, F (f p) (g p)) → Paired F (l.map f) (l.map g)
  | [], _ => .nil
  | p :: l, h => .cons (h p List.mem_cons_self) (prd_maps f g l fun q hq => h q (List.mem_cons_of_mem _ hq))
theorem each_maps {α : Type} {R : Value → α → Prop} (f : α → Value) : ∀ l : List α, (∀ p ∈ l, R (f p) p) → EachIs R (l.map f) l
  | [], _ => .nil
  | p :: l, h => .cons (h p List.mem_cons_self) (each_maps f l fun q hq => h q (List.mem_cons_of_mem _ hq))
section
variable {X : Cx}
/-- sorted(a set of crews) -/
def rSrtTs (K : Frag) (P : Program) (w : World) : List V → Hp → VK → Prop := fun vs H Q => ∃ (a : Addr) (L : List AK), vs = [.ref a] ∧ H a = some (TsO P w a L) ∧ (∀ p ∈ L, SqT K H p.1 (p.2.map V.str)) ∧ (∀ p ∈ L, p.2 ≠ []) ∧
  ∀ p ys us, H p = none → us.Perm (L.map (·.2)) → Paired (S1 K H) ys (srtT us) → Q (.ref p) (upd H p (.lst ys))
theorem cr_srtTs (hc : X.calm = true) (hu : X.A.units + 64 < cLine) : CallR X (.builtin "sorted") (rSrtTs X.K X.prog X.w) := by
  intro pins s σ H vs us Q I r h
  obtain ⟨a, L, rfl, hD, sq, ne, q⟩ := h
  rw [Vals.ref1 r]
  obtain ⟨es, ep, t, R0⟩ : ∃ es ep t, Ts0 X.prog X.w s.heap a L es ep t := (I.hok a _ hD).1
  have R := R0.full fun p hp => tx_of I (sq p hp)
  obtain ⟨o, ho, ex, dt⟩ := R.ob
  refine call_function_entry_kw kind_sorted plain_sorted entry_sorted (args_sorted1 _) ?_
  unfold Builtin.«sorted»
  refine wpAny_bind (m := checkCount "sorted" 1 1 _) (wpAny_pure (wpAny_bind ?_))
  have few0 := R.few
  have few : es.size < scanBound := by
    rw [R.size]
    show L.length < 4096
    omega
  refine collect_set (a := a) (es := es) (ep := ep) (t := t) (I.ok.hd hc) ⟨o, ho, ex.1, dt⟩ R.fits few R.tab.ris R.led fun s1 vs k1 z1 g1 o1 pm => ?_
  have er0 : es.toList.map (·.2) = L.map fun p => Value.ref p.1 := by
    rw [R.rw_, List.map_map]
    rfl
  rw [er0] at pm
  obtain ⟨L1, p1, rfl⟩ := unmap (fun p : AK => Value.ref p.1) L vs pm
  have vl : (L1.map fun p : AK => Value.ref p.1).length ≤ sizeLine := by
    rw [List.length_map, p1.length_eq]
    exact Nat.le_of_lt (big (by omega))
  generalize hvs : (L1.map fun p : AK => Value.ref p.1) = vs at vl
  have at1 : (s1.heap.push (seqObj "list" vs.toArray 0)).get? s1.heap.objs.size = some (seqObj "list" vs.toArray 0) := Heap.get?_push_size _ rfl
  refine wpAny_bind (wpAny_newList ?_ vl)
  refine wpAny_bind (wpAny_holding (wpAny_call_entry_kw slot_list_sort ⟨_, at1, rfl⟩ entry_list_sort ?_ (args_list_sort _)))
  have up : ∀ b o, s.heap.get? b = some o → (sortingHeap (s1.heap.push (seqObj "list" vs.toArray 0)) s1.heap.objs.size vs).get? b = some o := fun b o e => by
    have e1 := k1 b o e
    exact sortingHeap_old (Nat.ne_of_lt (Heap.lt_size e1)) (Heap.get?_push_of_some _ e1)
  have ke : EachIs (fun v (p : AK) => v = Value.ref p.1) vs L1 := by
    rw [← hvs]
    exact each_maps _ L1 fun p _ => rfl
  have er : EachIs (fun v (p : AK) => ∃ as, Reads (sortingHeap (s1.heap.push (seqObj "list" vs.toArray 0)) s1.heap.objs.size vs) v (sD p.2) as) vs L1 := by
    rw [← hvs]
    refine each_maps _ L1 fun p hp => ?_
    obtain ⟨as, rd⟩ := Dp.reads I (sD p.2) (.ref p.1) (.ref p.1) (S1.dp ⟨p.1, rfl, sq p (p1.mem_iff.mp hp)⟩) rfl
    rw [hvs]
    exact ⟨as, PyProof.Rows.Reads.keeps up rd⟩
  have hal : AllAlike (L1.map fun p : AK => sD p.2) := fun d hd d' hd' => by
    obtain ⟨k, _, rfl⟩ := List.mem_map.mp hd
    obtain ⟨k', _, rfl⟩ := List.mem_map.mp hd'
    show alike (sD k.2) (sD k'.2) = true
    unfold sD
    rw [alike]
    exact alike_strs _ _
  have hso : Sortable (L1.map fun p : AK => sD p.2) := .inl fun d hd => by
    obtain ⟨p, hp, rfl⟩ := List.mem_map.mp hd
    have n := ne p (p1.mem_iff.mp hp)
    show ∃ x r, sD p.2 = .tuple (x :: r)
    match e : p.2 with
    | [] => exact absurd e n
    | x :: r => exact ⟨PyData.str x, r.map PyData.str, rfl⟩
  refine list_sort_vals (s := { s1 with heap := s1.heap.push (seqObj "list" vs.toArray 0) }) at1
    (SortsAt.data (s := { s1 with heap := sortingHeap (s1.heap.push (seqObj "list" vs.toArray 0)) s1.heap.objs.size vs }) (each_map (R := fun v d => ∃ as, Reads (sortingHeap (s1.heap.push (seqObj "list" vs.toArray 0)) s1.heap.objs.size vs) v d as) (fun p : AK => sD p.2) er) hal hso (bound_map (A := X.A.in1.in1) (enc := fun p : AK => sD p.2) (bs := L1) fun p _ => by
      show X.A.units + 1 + 1 + (sD p.2).depth < cLine
      rw [depth_sD]
      omega)) vl ?_
  have outs : EachIs (fun v (p : AK) => v = Value.ref p.1) (sortVals (dataKind (sortingHeap (s1.heap.push (seqObj "list" vs.toArray 0)) s1.heap.objs.size vs) (L1.map fun p : AK => sD p.2)) false vs vs) (L1.mergeSort (dataLe false fun p : AK => sD p.2)) := sortVals_data false ke er hal
  generalize sortVals (dataKind (sortingHeap (s1.heap.push (seqObj "list" vs.toArray 0)) s1.heap.objs.size vs) (L1.map fun p : AK => sD p.2)) false vs vs = out at outs
  refine ⟨_, rfl, wpAny_pure ⟨_, rfl, ?_⟩⟩
  obtain ⟨c, hc2⟩ := sortedHeap_at (out := out.toArray) at1
  have keep : ∀ b o, s.heap.get? b = some o → (sortedHeap (s1.heap.push (seqObj "list" vs.toArray 0)) s1.heap.objs.size vs out.toArray).get? b = some o := fun b o e => by
    have e1 := k1 b o e
    have lt := Heap.lt_size e1
    rw [sortedHeap_old (Nat.ne_of_lt lt) (by rw [size_push']; exact Nat.lt_succ_of_lt lt)]
    exact Heap.get?_push_of_some _ e1
  have hn := I.hok.fresh z1
  have ro : Vals ((L1.mergeSort (dataLe false fun p : AK => sD p.2)).map fun p => V.ref p.1) out := each_out (fun p : AK => V.ref p.1) outs
  have small : ((L1.mergeSort (dataLe false fun p : AK => sD p.2)).map fun p => V.ref p.1).length ≤ sizeLine := by
    rw [List.length_map, List.length_mergeSort, p1.length_eq]
    exact Nat.le_of_lt (big (by omega))
  have e2 : (L1.mergeSort (dataLe false fun p : AK => sD p.2)).map (·.2) = srtT (L1.map (·.2)) := sort_maps (fun p : AK => p.2) (r := dataLe false fun p : AK => sD p.2) (s := dataLe false sD) fun _ _ _ _ => rfl
  refine ⟨.ref _, upd H s1.heap.objs.size (.lst ((L1.mergeSort (dataLe false fun p : AK => sD p.2)).map fun p => V.ref p.1)), I.call' (ch := []) o1 (Un.laid keep z1 hn) (I.hok.laid keep z1 ⟨small, out, c, ro, hc2⟩) (by rw [g1]; exact I.bare) (fun _ z => nomatch z), rfl, q _ _ (L1.map (·.2)) hn (p1.map _) ?_⟩
  rw [← e2]
  exact prd_maps _ _ _ fun p hp => ⟨p.1, rfl, sq p (p1.mem_iff.mp (List.mem_mergeSort.mp hp))⟩
theorem c_setTs (K : Frag) (P : Program) (w : World) (hc : X.calm = true) (hu : X.A.units + 64 < cLine) (eK : X.K = K := by rfl) (eP : X.prog = P := by rfl) (ew : X.w = w := by rfl) : CallR X (.type "set") (rSetTs K P w) := by
  subst eK eP ew
  exact cr_setTs hc hu
theorem c_srtTs (K : Frag) (P : Program) (w : World) (hc : X.calm = true) (hu : X.A.units + 64 < cLine) (eK : X.K = K := by rfl) (eP : X.prog = P := by rfl) (ew : X.w = w := by rfl) : CallR X (.builtin "sorted") (rSrtTs K P w) := by
  subst eK eP ew
  exact cr_srtTs hc hu
end
end Cb

/-! What a repr of nested data comes to: bounds, data by data. -/
namespace Cb
open PySem PySem.Spec PyProof.Rows L2 PySem.W
theorem textFrom_le : ∀ (ts : List Str) (k : Nat) (acc : Str), (textFrom k acc ts).length ≤ acc.length + piled ts
  | [], k, acc => by show acc.length ≤ acc.length + _; omega
  | t :: r, k, acc => by
    have h := textFrom_le r (k + 1) (acc ++ (if k > 0 then ", " else "" : String) ++ t)
    have e : (acc ++ (if k > 0 then ", " else "" : String) ++ t).length = acc.length + (if k > 0 then 2 else 0) + t.length := by
      rw [strLen_append, strLen_append]
      split <;> rfl
    have e2 : (if k > 0 then 2 else 0 : Nat) ≤ 2 := by split <;> omega
    rw [piled_cons]
    show (textFrom (k + 1) _ r).length ≤ _
    omega
theorem list_text (ts : List Str) : (listText ts).length ≤ piled ts + 2 := by
  unfold listText
  rw [strLen_append]
  have h := textFrom_le ts 0 "["
  have e1 : ((("[" : String) : Str)).length = 1 := rfl
  have e2 : ((("]" : String) : Str)).length = 1 := rfl
  omega
/-- data whose repr is told: its depth, its length -/
structure Nice (m L : Nat) (d : PD) : Prop where
  sh : d.showable = true
  nd : d.hasDict = false
  dp : d.depth ≤ m
  len : d.shown.length ≤ L
theorem Nice.mono {m L m' L' : Nat} {d : PD} (n : Nice m L d) (h : m ≤ m') (h2 : L ≤ L') : Nice m' L' d := ⟨n.sh, n.nd, Nat.le_trans n.dp h, Nat.le_trans n.len h2⟩
theorem nice_depth {m : Nat} : ∀ {ds : List PD}, (∀ d ∈ ds, d.depth ≤ m) → PyData.depthAll ds ≤ m
  | [], _ => by simp [PyData.depthAll]
  | d :: ds, h => by
    rw [PyData.depthAll]
    exact Nat.max_le.mpr ⟨h d List.mem_cons_self, nice_depth fun e he => h e (List.mem_cons_of_mem _ he)⟩
theorem nice_dict : ∀ {ds : List PD}, (∀ d ∈ ds, d.hasDict = false) → PyData.hasDictAll ds = false
  | [], _ => by simp [PyData.hasDictAll]
  | d :: ds, h => by
    rw [PyData.hasDictAll, h d List.mem_cons_self, nice_dict fun e he => h e (List.mem_cons_of_mem _ he)]
    rfl
theorem nice_piled {L : Nat} {ds : List PD} (h : ∀ d ∈ ds, d.shown.length ≤ L) : piled (ds.map PyData.shown) ≤ ds.length * (L + 2) := by
  have := piled_le L (ts := ds.map PyData.shown) fun t ht => by
    obtain ⟨d, hd, rfl⟩ := List.mem_map.mp ht
    exact h d hd
  rwa [List.length_map] at this
theorem nice_tup {m L : Nat} {ds : List PD} (h : ∀ d ∈ ds, Nice m L d) : Nice (m + 1) (ds.length * (L + 2) + 2) (.tuple ds) := by
  refine ⟨?_, ?_, ?_, ?_⟩
  · rw [PyData.showable]
    exact PySem.Spec.showableAll_of fun d hd => (h d hd).sh
  · rw [PyData.hasDict]
    exact nice_dict fun d hd => (h d hd).nd
  · rw [PyData.depth]
    have := nice_depth (ds := ds) fun d hd => (h d hd).dp
    omega
  · rw [PyData.shown, shown_all]
    have h1 := fmt_text (ds.map PyData.shown)
    have h2 := nice_piled (ds := ds) fun d hd => (h d hd).len
    omega
theorem nice_lst {m L : Nat} {ds : List PD} (h : ∀ d ∈ ds, Nice m L d) : Nice (m + 1) (ds.length * (L + 2) + 2) (.list ds) := by
  refine ⟨?_, ?_, ?_, ?_⟩
  · rw [PyData.showable]
    exact PySem.Spec.showableAll_of fun d hd => (h d hd).sh
  · rw [PyData.hasDict]
    exact nice_dict fun d hd => (h d hd).nd
  · rw [PyData.depth]
    have := nice_depth (ds := ds) fun d hd => (h d hd).dp
    omega
  · rw [PyData.shown, shown_all]
    have h1 := list_text (ds.map PyData.shown)
    have h2 := nice_piled (ds := ds) fun d hd => (h d hd).len
    omega
theorem nice_str {s : Str} (h : (reprText s).length ≤ 20) : Nice 0 20 (.str s) := ⟨by rw [PyData.showable], by rw [PyData.hasDict], by rw [PyData.depth]; exact Nat.le_refl _, by rw [PyData.shown]; exact h⟩
theorem nice_bool (b : Bool) : Nice 0 20 (.bool b) := ⟨by rw [PyData.showable], by rw [PyData.hasDict], by rw [PyData.depth]; exact Nat.le_refl _, by rw [PyData.shown]; cases b <;> decide +kernel⟩
theorem nice_none : Nice 0 20 .none := ⟨by rw [PyData.showable], by rw [PyData.hasDict], by rw [PyData.depth]; exact Nat.le_refl _, by rw [PyData.shown]; decide +kernel⟩
theorem nice_sD {ns : List Str} (h : ∀ n ∈ ns, okS n) : Nice 1 (ns.length * 22 + 2) (sD ns) := by
  have := nice_tup (m := 0) (L := 20) (ds := ns.map PyData.str) fun d hd => by
    obtain ⟨n, hn, rfl⟩ := List.mem_map.mp hd
    exact nice_str (h n hn).2
  rw [List.length_map] at this
  exact this
theorem nice_sD8 {ns : List Str} (h : ∀ n ∈ ns, okS n) (hl : ns.length ≤ 8) : Nice 1 200 (sD ns) := (nice_sD h).mono (Nat.le_refl _) (by omega)
theorem nice_tD {ts : List (List Str)} (h : ∀ t ∈ ts, t.length ≤ 8 ∧ ∀ n ∈ t, okS n) (hl : ts.length ≤ 64) : Nice 2 20000 (tD ts) := by
  have := nice_tup (m := 1) (L := 200) (ds := ts.map sD) fun d hd => by
    obtain ⟨t, ht, rfl⟩ := List.mem_map.mp hd
    exact nice_sD8 (h t ht).2 (h t ht).1
  rw [List.length_map] at this
  exact this.mono (Nat.le_refl _) (by omega)
theorem repr_nice {K : Frag} {H : Hp} {Q : VK} {a : Addr} {m L : Nat} {d : PD} (n : Nice m L d) (hd : Dp K H (.ref a) d) (q : Q (.str d.shown) H) (hm : m ≤ 50 := by omega) (hL : L ≤ 1000000 := by omega) : rRepr K [.ref a] H Q :=
  ⟨a, d, rfl, hd, n.sh, n.nd, Nat.le_trans n.dp hm, Nat.le_trans n.len (Nat.le_trans hL (by decide)), q⟩
theorem prd_empty {α β : Type} {F : α → β → Prop} {xs : List α} {ys : List β} (h : Paired F xs ys) : xs.isEmpty = ys.isEmpty := by
  cases h <;> rfl
theorem eqv_tup_nil (xs : List PD) : PyData.eqv (.tuple xs) (.tuple []) = xs.isEmpty := by
  cases xs <;> simp [PyData.eqv, PyData.eqvAll]
end Cb

/-! Values of any kind: names, sets, order; isinstance; comprehensions over a text and over pairs. -/
namespace Cb
open PySem PySem.Spec PyProof.Rows L2 PySem.W
/-! ### texts in order -/
def ltS (a b : Str) : Bool := decide (a.cps.toList < b.cps.toList)
def asc (ns : List Str) : Bool := (ns.zip (ns.drop 1)).all fun p => ltS p.1 p.2
def Asc (ns : List Str) : Prop := ns.Pairwise fun a b => a.cps.toList < b.cps.toList
theorem asc_cons (x y : Str) (r : List Str) : asc (x :: y :: r) = (ltS x y && asc (y :: r)) := rfl
theorem asc_iff : ∀ ns : List Str, asc ns = true ↔ Asc ns
  | [] => ⟨fun _ => .nil, fun _ => rfl⟩
  | [x] => ⟨fun _ => List.pairwise_singleton _ _, fun _ => rfl⟩
  | x :: y :: r => by
    have ih := asc_iff (y :: r)
    rw [asc_cons, Bool.and_eq_true, ih]
    constructor
    · rintro ⟨h1, h2⟩
      have h1 : x.cps.toList < y.cps.toList := of_decide_eq_true h1
      refine List.pairwise_cons.mpr ⟨fun z hz => ?_, h2⟩
      rcases List.mem_cons.mp hz with e | hz
      · rw [e]
        exact h1
      · exact List.lt_trans h1 ((List.pairwise_cons.mp h2).1 z hz)
    · intro h
      obtain ⟨h1, h2⟩ := List.pairwise_cons.mp h
      exact ⟨decide_eq_true (h1 y List.mem_cons_self), h2⟩
theorem Asc.le {ns : List Str} (h : Asc ns) : ns.Pairwise fun a b => a.cps.toList ≤ b.cps.toList := h.imp fun z => List.le_of_lt z
theorem Asc.nd {ns : List Str} (h : Asc ns) : ns.Nodup := h.imp fun {a b} z e => by
  rw [e] at z
  exact List.lt_irrefl _ z
theorem Asc.eq {a b : List Str} (ha : Asc a) (hb : Asc b) (h : ∀ x, x ∈ a ↔ x ∈ b) : a = b := pair_eq (same_perm hb.nd ha.nd h) ha.le hb.le
theorem once_asc (l : List Str) : Asc (once l) := by
  have h1 : (once l).Pairwise fun a b => a.cps.toList ≤ b.cps.toList := srt_le _
  have h2 : (once l).Pairwise fun a b => a ≠ b := once_nd l
  refine (h1.and h2).imp fun {a b} ⟨h, n⟩ => ?_
  exact Classical.byContradiction fun z => n (cps_inj (List.le_antisymm h (List.not_lt.mp z)))
theorem isIn_iff {n : Str} {ns : List Str} : isIn n ns = true ↔ n ∈ ns := by
  unfold isIn
  rw [List.any_eq_true]
  exact ⟨fun ⟨x, hx, e⟩ => by rw [← eq_of_beq e]; exact hx, fun h => ⟨n, h, by simp⟩⟩
/-- a set is those of all that are in it -/
theorem filter_self {F ns : List Str} (hF : Asc F) : ns = F.filter (fun n => isIn n ns) ↔ asc ns = true ∧ ∀ n ∈ ns, n ∈ F := by
  constructor
  · intro h
    refine ⟨(asc_iff ns).mpr ?_, fun n hn => ?_⟩
    · rw [h]
      exact hF.sublist List.filter_sublist
    · rw [h] at hn
      exact (List.mem_filter.mp hn).1
  · rintro ⟨h1, h2⟩
    refine Asc.eq ((asc_iff ns).mp h1) (hF.sublist List.filter_sublist) fun x => ?_
    rw [List.mem_filter, isIn_iff]
    exact ⟨fun h => ⟨h2 x h, h⟩, fun h => h.2⟩
/-! ### names -/
def isLow (c : Str) : Bool := !decide (c.cps.toList < ("a" : Str).cps.toList) && !decide (("z" : Str).cps.toList < c.cps.toList)
def nameS (s : Str) : Bool := (decide (1 ≤ (s.length : Int)) && decide ((s.length : Int) ≤ 8)) && s.cps.toList.all fun c => isLow ⟨#[c]⟩
def isName : PD → Bool
  | .str s => nameS s
  | _ => false
def namesD : PD → Bool
  | .tuple ds => ds.all isName
  | _ => false
def strD : PD → Str
  | .str s => s
  | _ => ""
theorem name_str {d : PD} (h : isName d = true) : d = .str (strD d) := by
  cases d <;> first | rfl | exact absurd (show false = true from h) (by decide)
theorem names_str : ∀ {ds : List PD}, ds.all isName = true → ds = (ds.map strD).map PyData.str
  | [], _ => rfl
  | d :: ds, h => by
    rw [List.all_cons, Bool.and_eq_true] at h
    rw [List.map_cons, List.map_cons, ← name_str h.1, ← names_str h.2]
theorem strD_str (ns : List Str) : (ns.map PyData.str).map strD = ns := by
  rw [List.map_map]
  exact List.map_id _
/-! ### values, their sizes -/
def okT (n : Nat) (s : Str) : Prop := PyData.strOk s = true ∧ s.length ≤ n
def Sc (n : Nat) (d : PD) : Prop := d = .none ∨ (∃ b, d = .bool b) ∨ d = .int 0 ∨ d = .int 1 ∨ ∃ s, d = .str s ∧ okT n s
def Okd (n : Nat) : Nat → PD → Prop
  | 0, d => Sc n d
  | m + 1, d => Sc n d ∨ ∃ ds, (d = .tuple ds ∨ d = .list ds) ∧ ds.length ≤ n ∧ ∀ e ∈ ds, Okd n m e
theorem Sc.mono {n n' : Nat} {d : PD} (h : Sc n d) (l : n ≤ n') : Sc n' d := by
  rcases h with h | h | h | h | ⟨s, h1, h2, h3⟩
  · exact .inl h
  · exact .inr (.inl h)
  · exact .inr (.inr (.inl h))
  · exact .inr (.inr (.inr (.inl h)))
  · exact .inr (.inr (.inr (.inr ⟨s, h1, h2, Nat.le_trans h3 l⟩)))
theorem Sc.okd {n : Nat} {d : PD} (h : Sc n d) : ∀ m, Okd n m d
  | 0 => h
  | _ + 1 => .inl h
theorem Okd.mono {n n' : Nat} : ∀ {m m' : Nat} {d : PD}, Okd n m d → n ≤ n' → m ≤ m' → Okd n' m' d
  | 0, m', d, h, l, _ => Sc.okd (Sc.mono (show Sc n d from h) l) m'
  | m + 1, 0, d, _, _, z => absurd z (by omega)
  | m + 1, m' + 1, d, h, l, z => by
    rcases h with h | ⟨ds, h1, h2, h3⟩
    · exact .inl (h.mono l)
    · exact .inr ⟨ds, h1, Nat.le_trans h2 l, fun e he => Okd.mono (h3 e he) l (by omega)⟩
theorem Okd.tup {n m : Nat} {ds : List PD} (h : Okd n m (.tuple ds)) : ∃ k, m = k + 1 ∧ ds.length ≤ n ∧ ∀ e ∈ ds, Okd n k e := by
  have sc : ¬ Sc n (.tuple ds) := by
    rintro (h | ⟨b, h⟩ | h | h | ⟨s, h, _⟩) <;> cases h
  cases m with
  | zero => exact absurd h sc
  | succ k =>
    rcases h with h | ⟨es, h1 | h1, h2, h3⟩
    · exact absurd h sc
    · cases h1
      exact ⟨k, rfl, h2, h3⟩
    · cases h1
theorem Okd.lst {n m : Nat} {ds : List PD} (h : Okd n m (.list ds)) : ∃ k, m = k + 1 ∧ ds.length ≤ n ∧ ∀ e ∈ ds, Okd n k e := by
  have sc : ¬ Sc n (.list ds) := by
    rintro (h | ⟨b, h⟩ | h | h | ⟨s, h, _⟩) <;> cases h
  cases m with
  | zero => exact absurd h sc
  | succ k =>
    rcases h with h | ⟨es, h1 | h1, h2, h3⟩
    · exact absurd h sc
    · cases h1
    · cases h1
      exact ⟨k, rfl, h2, h3⟩
theorem Okd.str {n m : Nat} {s : Str} (h : Okd n m (.str s)) : okT n s := by
  have sc : Sc n (.str s) → okT n s := by
    rintro (h | ⟨b, h⟩ | h | h | ⟨s, h, z⟩)
    · cases h
    · cases h
    · cases h
    · cases h
    · cases h
      exact z
  cases m with
  | zero => exact sc h
  | succ k =>
    rcases h with h | ⟨es, h1 | h1, _⟩
    · exact sc h
    · cases h1
    · cases h1
theorem okT_repr {n : Nat} {s : Str} (h : okT n s) : (reprText s).length ≤ 10 * n + 2 := by
  have h1 := StrLaws.reprText_len s fun c hc => by
    have h2 := h.1
    unfold PyData.strOk at h2
    rw [← Array.all_toList, List.all_eq_true] at h2
    have := of_decide_eq_true (h2 c hc)
    omega
  have := h.2
  omega
def Lb (n : Nat) : Nat → Nat
  | 0 => 10 * n + 7
  | m + 1 => Lb n m + (n * (Lb n m + 2) + 2)
theorem Lb_mono (n : Nat) : ∀ m, Lb n 0 ≤ Lb n m
  | 0 => Nat.le_refl _
  | m + 1 => Nat.le_trans (Lb_mono n m) (Nat.le_add_right _ _)
theorem Sc.nice {n m : Nat} {d : PD} (h : Sc n d) : Nice m (Lb n 0) d := by
  have l7 : 7 ≤ Lb n 0 := by show 7 ≤ 10 * n + 7; omega
  have z : ∀ d : PD, d.showable = true → d.hasDict = false → d.depth = 0 → d.shown.length ≤ Lb n 0 → Nice m (Lb n 0) d := fun d a b c e => ⟨a, b, by omega, e⟩
  rcases h with rfl | ⟨b, rfl⟩ | rfl | rfl | ⟨s, rfl, h⟩
  · exact z _ (by rw [PyData.showable]) (by rw [PyData.hasDict]) (by rw [PyData.depth]) (Nat.le_trans (by rw [PyData.shown]; decide +kernel : (PyData.none.shown).length ≤ 7) l7)
  · exact z _ (by rw [PyData.showable]) (by rw [PyData.hasDict]) (by rw [PyData.depth]) (Nat.le_trans (by rw [PyData.shown]; cases b <;> decide +kernel : ((PyData.bool b).shown).length ≤ 7) l7)
  · exact z _ (by rw [PyData.showable]; decide +kernel) (by rw [PyData.hasDict]) (by rw [PyData.depth]) (Nat.le_trans (by rw [PyData.shown]; decide +kernel : ((PyData.int 0).shown).length ≤ 7) l7)
  · exact z _ (by rw [PyData.showable]; decide +kernel) (by rw [PyData.hasDict]) (by rw [PyData.depth]) (Nat.le_trans (by rw [PyData.shown]; decide +kernel : ((PyData.int 1).shown).length ≤ 7) l7)
  · have := okT_repr h
    exact z _ (by rw [PyData.showable]) (by rw [PyData.hasDict]) (by rw [PyData.depth]) (by rw [PyData.shown]; show _ ≤ 10 * n + 7; omega)
theorem Okd.nice {n : Nat} : ∀ {m : Nat} {d : PD}, Okd n m d → Nice m (Lb n m) d
  | 0, d, h => Sc.nice (show Sc n d from h)
  | m + 1, d, h => by
    rcases h with h | ⟨ds, h1, h2, h3⟩
    · exact (Sc.nice (m := m + 1) h).mono (Nat.le_refl _) (Lb_mono n _)
    · have l : ds.length * (Lb n m + 2) + 2 ≤ Lb n (m + 1) := by
        have := Nat.mul_le_mul_right (Lb n m + 2) h2
        show _ ≤ Lb n m + (n * (Lb n m + 2) + 2)
        omega
      rcases h1 with rfl | rfl
      · exact (nice_tup fun e he => Okd.nice (h3 e he)).mono (Nat.le_refl _) l
      · exact (nice_lst fun e he => Okd.nice (h3 e he)).mono (Nat.le_refl _) l
theorem lay_all : ∀ {ds : List PD}, (∀ d ∈ ds, d.canLay0 = true) → PyData.canLayAll0 ds = true
  | [], _ => by simp [PyData.canLayAll0]
  | d :: ds, h => by
    rw [PyData.canLayAll0, h d List.mem_cons_self, lay_all fun e he => h e (List.mem_cons_of_mem _ he)]
    rfl
theorem Okd.lay {n : Nat} : ∀ {m : Nat} {d : PD}, Okd n m d → d.canLay0 = true := by
  have sc : ∀ {d : PD}, Sc n d → d.canLay0 = true := by
    rintro d (rfl | ⟨b, rfl⟩ | rfl | rfl | ⟨s, rfl, h⟩)
    · rw [PyData.canLay0]
    · rw [PyData.canLay0]
    · rw [PyData.canLay0]
    · rw [PyData.canLay0]
    · rw [PyData.canLay0]
      exact h.1
  intro m
  induction m with
  | zero => exact fun h => sc h
  | succ m ih =>
    rintro d (h | ⟨ds, h1, h2, h3⟩)
    · exact sc h
    · rcases h1 with rfl | rfl
      · rw [PyData.canLay0]
        exact lay_all fun e he => ih (h3 e he)
      · rw [PyData.canLay0]
        exact lay_all fun e he => ih (h3 e he)
theorem Okd.shaped {n m : Nat} {d : PD} (h : Okd n m d) (hm : m ≤ 60 := by omega) : SeqAt.shaped d = true := by
  unfold SeqAt.shaped
  rw [h.lay]
  have := h.nice.dp
  simp
  omega
theorem okT_of {s : Str} (h : okS s) {n : Nat} (hl : s.length ≤ n) : okT n s := ⟨h.1, hl⟩
/-! ### what a value is -/
def tyN : PD → String
  | .none => "NoneType"
  | .bool _ => "bool"
  | .int _ => "int"
  | .str _ => "str"
  | .list _ => "list"
  | .tuple _ => "tuple"
  | .dict _ => "dict"
theorem dp_ty {K : Frag} {H : Hp} {v : V} {d : PD} (h : Dp K H v d) : TyX K H v (.type (tyN d)) := by
  cases h with
  | non => exact .base .non
  | bl b => exact .base (.bl b)
  | int i => exact .base (.int i)
  | str s => exact .base (.str s)
  | lst hs _ =>
    rcases hs with (h | ⟨o, h⟩) | ⟨o, its, n, h, c, _⟩
    · exact .base (.lst h)
    · exact .base (.frz h)
    · exact .kList h c
  | tup hs _ =>
    rcases hs with (h | ⟨o, h⟩) | ⟨o, its, n, h, c, _⟩
    · exact .base (.tup h)
    · exact .fTuple h
    · exact .kTuple h c
theorem isi_str {K : Frag} {H : Hp} {Q : VK} {v : V} {d : PD} (h : Dp K H v d) (q : Q (.bl (tyN d == "str")) H) : rIsi K [v, .ty "str"] H Q := by
  refine ⟨v, _, _, _, _, rfl, .ty "str", dp_ty h, ?_, q⟩
  cases d <;> first | rfl | (cases h)
theorem isi_tup {K : Frag} {H : Hp} {Q : VK} {v : V} {d : PD} (h : Dp K H v d) (q : Q (.bl (tyN d == "tuple")) H) : rIsi K [v, .ty "tuple"] H Q := by
  refine ⟨v, _, _, _, _, rfl, .ty "tuple", dp_ty h, ?_, q⟩
  cases d <;> first | rfl | (cases h)
theorem dp_tup {K : Frag} {H : Hp} {v : V} {ds : List PD} (h : Dp K H v (.tuple ds)) : ∃ a xs, v = .ref a ∧ SqT K H a xs ∧ DpAll K H xs ds := by
  cases h with
  | tup h1 h2 => exact ⟨_, _, rfl, h1, h2⟩
theorem dp_str {K : Frag} {H : Hp} {v : V} {s : Str} (h : Dp K H v (.str s)) : v = .str s := by
  cases h
  rfl
theorem dps_len {K : Frag} {H : Hp} : ∀ {xs : List V} {ds : List PD}, DpAll K H xs ds → xs.length = ds.length
  | _, _, .nil => rfl
  | _, _, .cons _ t => congrArg Nat.succ (dps_len t)
theorem dps_pair {K : Frag} {H : Hp} : ∀ {xs : List V} {ds : List PD}, DpAll K H xs ds → Paired (Dp K H) xs ds
  | _, _, .nil => .nil
  | _, _, .cons r t => .cons r (dps_pair t)
theorem pair_dps {K : Frag} {H : Hp} : ∀ {xs : List V} {ds : List PD}, Paired (Dp K H) xs ds → DpAll K H xs ds
  | _, _, .nil => .nil
  | _, _, .cons r t => .cons r (pair_dps t)
theorem dps_strs {K : Frag} {H : Hp} : ∀ {ns : List Str} {xs : List V}, DpAll K H xs (ns.map PyData.str) → xs = ns.map V.str
  | [], _, h => by
    cases h
    rfl
  | n :: ns, _, h => by
    have h : DpAll K H _ (.str n :: ns.map PyData.str) := h
    cases h with
    | cons r t => rw [dp_str r, dps_strs t]; rfl
theorem dp_s1 {K : Frag} {H : Hp} {v : V} {ns : List Str} (h : Dp K H v (sD ns)) : S1 K H v ns := by
  obtain ⟨a, xs, rfl, h1, h2⟩ := dp_tup h
  rw [dps_strs h2] at h1
  exact ⟨a, rfl, h1⟩
/-! ### comprehensions over a text -/
theorem lc_str {x : Str} {g : TG} {tt : TT} {te : TE} {vs : List Nat} {σ : L2.St} {H1 : Hp} {D : Addr} {Qd : Hp → Prop} (Pv : Nat → Hp → Prop) (h0 : Pv 0 (upd H1 D (.lst [])))
    (hs : ∀ i c H, x.cps.toList[i]? = some c → Pv i H → g (.str ⟨#[c]⟩) (wipe σ vs) H fun σ2 H2 => wipe σ2 vs = wipe σ vs ∧ tt σ2 H2 fun b H3 =>
      if b = true then te σ2 H3 fun y H4 => ∃ acc, H4 D = some (.lst acc) ∧ acc.length < sizeLine ∧ Pv (i + 1) (upd H4 D (.lst (acc ++ [y]))) else Pv (i + 1) H3) (hd : ∀ H, Pv x.cps.toList.length H → Qd H) :
    ∃ W : Nat → Nat → Hp → Prop, (∃ m, W 0 m (upd H1 D (.lst []))) ∧ ∀ i m H, W i m H →
      ((Its x).stop i H ∧ Qd H) ∨ ((Its x).go i H ∧ ∃ Nx : Hp → Prop, (∀ H', Nx H' → ∃ m', m' < m ∧ W (i + 1) m' H') ∧ ∀ y H', (Its x).yld i H y H' → g y (wipe σ vs) H' fun σ2 H2 => wipe σ2 vs = wipe σ vs ∧ tt σ2 H2 fun b H3 =>
        if b = true then te σ2 H3 fun y H4 => ∃ acc, H4 D = some (.lst acc) ∧ acc.length < sizeLine ∧ Nx (upd H4 D (.lst (acc ++ [y]))) else Nx H3) := by
  have el : x.cps.toList.length = x.cps.size := Array.length_toList
  refine ⟨fun i m H => m = x.cps.size - i ∧ i ≤ x.cps.size ∧ Pv i H, ⟨x.cps.size, by simp, Nat.zero_le _, h0⟩, ?_⟩
  rintro i m H ⟨rfl, hi, p⟩
  by_cases hlt : i < x.cps.size
  · refine .inr ⟨hlt, Pv (i + 1), fun H' p' => ⟨x.cps.size - (i + 1), by omega, rfl, hlt, p'⟩, fun y H' z => ?_⟩
    obtain ⟨rfl, c, hc, rfl⟩ := z
    exact hs i c _ (by simpa using hc) p
  · have e : i = x.cps.size := by omega
    subst e
    exact .inl ⟨Nat.le_refl _, hd H (by rw [el]; exact p)⟩
section
variable {x : Str} {tl : TE} {j : Nat} {vs : List Nat} {σ : L2.St} {H : Hp} {Q : VK} {tt : TT} {te : TE}
theorem lcS_filter (f : Nat → Bool) (g : Nat → V) (hl : ∀ R : VK, R (.str x) H → tl σ H R) (hn : x.length ≤ 100000) (hj : ∀ y, wipe ((wipe σ vs).set j (some y)) vs = wipe σ vs)
    (ht : ∀ c H1, Same H H1 → ∀ R : Bool → Hp → Prop, R (f c) H1 → tt ((wipe σ vs).set j (some (.str ⟨#[c]⟩))) H1 R)
    (he : ∀ c, f c = true → ∀ H1, Same H H1 → ∀ R : VK, R (g c) H1 → te ((wipe σ vs).set j (some (.str ⟨#[c]⟩))) H1 R)
    (q : ∀ D H', H D = none → Same H H' → H' D = some (.lst ((x.cps.toList.filter f).map g)) → Q (.ref D) H') : tLc (iStr tl) (gName j) tt te vs σ H Q := by
  have el : x.cps.toList.length = x.length := Array.length_toList
  refine hl _ ⟨x, rfl, fun D nD => ?_⟩
  refine lc_str (fun i H' => Same H H' ∧ H' D = some (.lst (((x.cps.toList.take i).filter f).map g))) ⟨same_upd nD, upd_same⟩ (fun i c H' hi p => ⟨hj _, ?_⟩) fun H' p => ?_
  · obtain ⟨e, hD⟩ := p
    refine ht c H' e _ ?_
    rw [take_snoc hi, List.filter_append, List.map_append]
    by_cases h : f c = true
    · rw [if_pos h]
      have hi2 := (List.getElem?_eq_some_iff.mp hi).1
      refine he c h H' e _ ⟨_, hD, ?_, same_mut e nD, ?_⟩
      · rw [List.length_map]
        have := List.length_filter_le f (x.cps.toList.take i)
        rw [List.length_take] at this
        exact big (by omega)
      · rw [upd_same, List.filter_cons_of_pos h]
        rfl
    · rw [if_neg h]
      refine ⟨e, ?_⟩
      rw [hD, List.filter_cons_of_neg h]
      simp
  · refine q D H' nD p.1 ?_
    rw [p.2, List.take_length]
end
end Cb

/-! Comprehensions over pairs; slices of sets of people; a heap but for one list. -/
namespace Cb
open PySem PySem.Spec PyProof.Rows L2 PySem.W RZ
theorem lc_zip {K : Frag} {a b : Addr} {xs ys : List V} {g : TG} {tt : TT} {te : TE} {vs : List Nat} {σ : L2.St} {H1 : Hp} {D : Addr} {Qd : Hp → Prop} (Pv : Nat → Hp → Prop) (h0 : Pv 0 (upd H1 D (.lst [])))
    (ha : ∀ i H, Pv i H → SqT K H a xs) (hb : ∀ i H, Pv i H → SqT K H b ys)
    (hs : ∀ i x y T H, xs[i]? = some x → ys[i]? = some y → Pv i H → H T = none → g (.ref T) (wipe σ vs) (upd H T (.tup [x, y])) fun σ2 H2 => wipe σ2 vs = wipe σ vs ∧ tt σ2 H2 fun b H3 =>
      if b = true then te σ2 H3 fun y H4 => ∃ acc, H4 D = some (.lst acc) ∧ acc.length < sizeLine ∧ Pv (i + 1) (upd H4 D (.lst (acc ++ [y]))) else Pv (i + 1) H3) (hd : ∀ H, Pv (min xs.length ys.length) H → Qd H) :
    ∃ W : Nat → Nat → Hp → Prop, (∃ m, W 0 m (upd H1 D (.lst []))) ∧ ∀ i m H, W i m H →
      ((ItzT K a b).stop i H ∧ Qd H) ∨ ((ItzT K a b).go i H ∧ ∃ Nx : Hp → Prop, (∀ H', Nx H' → ∃ m', m' < m ∧ W (i + 1) m' H') ∧ ∀ y H', (ItzT K a b).yld i H y H' → g y (wipe σ vs) H' fun σ2 H2 => wipe σ2 vs = wipe σ vs ∧ tt σ2 H2 fun b H3 =>
        if b = true then te σ2 H3 fun y H4 => ∃ acc, H4 D = some (.lst acc) ∧ acc.length < sizeLine ∧ Nx (upd H4 D (.lst (acc ++ [y]))) else Nx H3) := by
  refine ⟨fun i m H => m = min xs.length ys.length - i ∧ i ≤ min xs.length ys.length ∧ Pv i H, ⟨min xs.length ys.length, by simp, Nat.zero_le _, h0⟩, ?_⟩
  rintro i m H ⟨rfl, hi, p⟩
  have qa := ha i H p
  have qb := hb i H p
  by_cases hlt : i < min xs.length ys.length
  · have hx : i < xs.length := by omega
    have hy : i < ys.length := by omega
    refine .inr ⟨⟨xs, ys, xs[i], ys[i], qa, qb, by simp [hx], by simp [hy]⟩, Pv (i + 1), fun H' p' => ⟨min xs.length ys.length - (i + 1), by omega, rfl, hlt, p'⟩, fun v H' z => ?_⟩
    obtain ⟨T, x, y, rfl, nT, rfl, h1, h2⟩ := z
    exact hs i x y T H (h1 xs qa) (h2 ys qb) p nT
  · have e : i = min xs.length ys.length := by omega
    refine .inl ⟨⟨xs, ys, qa, qb, by omega⟩, hd H (by rw [← e]; exact p)⟩
/-- [e for x, y in zip(t, u)], two sets of people, nothing changed -/
theorem lcZ_map {K : Frag} {ta : TA} {te : TE} {i j : Nat} {vs : List Nat} {σ : L2.St} {H : Hp} {Q : VK} {ns ms : List Str} {g : TG} (f : Str → Str → V)
    (hl : ∀ R : List V → Hp → Prop, (∀ a b H1, Same H H1 → SqT K H1 a (ns.map V.str) → SqT K H1 b (ms.map V.str) → R [.ref a, .ref b] H1) → ta σ H R) (hn : ns.length ≤ 1000)
    (hg : ∀ T x y H1 (R : L2.St → Hp → Prop), H1 T = some (.tup [.str x, .str y]) → R (((wipe σ vs).set i (some (.str x))).set j (some (.str y))) H1 → g (.ref T) (wipe σ vs) H1 R)
    (hj : ∀ x y, wipe (((wipe σ vs).set i (some x)).set j (some y)) vs = wipe σ vs)
    (he : ∀ x y H1, Same H H1 → ∀ R : VK, R (f x y) H1 → te (((wipe σ vs).set i (some (.str x))).set j (some (.str y))) H1 R)
    (q : ∀ D H', H D = none → Same H H' → H' D = some (.lst ((ns.zip ms).map fun p => f p.1 p.2)) → Q (.ref D) H') : tLc (iZipA K ta) g tYes te vs σ H Q := by
  refine hl _ fun a b H1 e1 sa sb => ⟨a, b, ns.map V.str, ms.map V.str, rfl, .inr ⟨sa, sb, fun D nD => ?_⟩⟩
  refine lc_zip (K := K) (a := a) (b := b) (xs := ns.map V.str) (ys := ms.map V.str) (fun n H' => Same H1 H' ∧ H' D = some (.lst (((ns.zip ms).take n).map fun p => f p.1 p.2))) ⟨same_upd nD, upd_same⟩ (fun n H' z => sameT z.1 sa) (fun n H' z => sameT z.1 sb) (fun n x y T H' hx hy z nT => ?_) fun H' z => ?_
  · obtain ⟨e2, hD⟩ := z
    rw [List.getElem?_map] at hx hy
    obtain ⟨x, hx1, rfl⟩ := Option.map_eq_some_iff.mp hx
    obtain ⟨y, hy1, rfl⟩ := Option.map_eq_some_iff.mp hy
    have s3 := same_upd (o := .tup [V.str x, V.str y]) nT
    refine hg T x y _ _ upd_same ⟨hj _ _, ?_⟩
    unfold tYes
    refine ite2 (fun _ => ?_) fun h => absurd rfl h
    have hz : (ns.zip ms)[n]? = some (x, y) := by
      rw [List.getElem?_zip_eq_some]
      exact ⟨hx1, hy1⟩
    have hzl := (List.getElem?_eq_some_iff.mp hz).1
    have zl : (ns.zip ms).length ≤ ns.length := by
      rw [List.length_zip]
      omega
    refine he x y _ ((e1.trans e2).trans s3) _ ⟨_, s3 _ _ hD, ?_, same_mut (e2.trans s3) nD, ?_⟩
    · rw [List.length_map, List.length_take]
      exact big (by omega)
    · rw [upd_same, take_snoc hz, List.map_append]
      rfl
  · refine q D H' (e1.free nD) (e1.trans z.1) ?_
    rw [z.2, List.length_map, List.length_map, ← List.length_zip, List.take_length]
/-- t[lo:hi] of a set of people -/
theorem slA_names {K : Frag} {H : Hp} {Q : VK} {x : V} {ns : List Str} {lo hi : Option Int} (h : S1 K H x ns) (q : ∀ v H', Same H H' → S1 K H' v ((ns.drop (HT.sIx ns.length 0 lo)).take (HT.sIx ns.length ns.length hi - HT.sIx ns.length 0 lo)) → Q v H') : rSlA K x lo hi H Q := by
  obtain ⟨a, rfl, ha⟩ := h
  refine ⟨a, _, rfl, ha, fun hw => ?_, fun _ p np => ?_⟩
  · rw [List.length_map] at hw
    refine q _ H (Same.refl _) ⟨a, rfl, ?_⟩
    rw [hw.1, hw.2, List.drop_zero, Nat.sub_zero, List.take_length]
    exact ha
  · refine q _ _ (same_upd np) ⟨p, rfl, st_ ?_⟩
    rw [upd_same]
    unfold cutV
    rw [List.length_map, List.map_take, List.map_drop]
theorem cut_one (ns : List Str) : (ns.drop (HT.sIx ns.length 0 (some 1))).take (HT.sIx ns.length ns.length none - HT.sIx ns.length 0 (some 1)) = ns.drop 1 := by
  have e1 : HT.sIx ns.length 0 (some ((1 : Nat) : Int)) = min 1 ns.length := HT.sIx_nat _ _ _
  have e1 : HT.sIx ns.length 0 (some 1) = min 1 ns.length := e1
  rw [e1, HT.sIx_none]
  have e2 : ns.drop (min 1 ns.length) = ns.drop 1 := by
    cases ns with
    | nil => rfl
    | cons x r => 
      have : min 1 (x :: r).length = 1 := by simp
      rw [this]
  rw [e2]
  refine List.take_of_length_le ?_
  rw [List.length_drop]
  omega
/-! ### the heap but for the list at r -/
def er (r : Addr) (H : Hp) : Hp := fun b => if b = r then none else H b
theorem er_same {r : Addr} {H : Hp} : Same (er r H) H := fun b o h => by
  unfold er at h
  split at h
  · cases h
  · exact h
theorem er_mono {r : Addr} {H H' : Hp} (e : Same H H') : Same (er r H) (er r H') := fun b o h => by
  unfold er at h ⊢
  split at h
  · cases h
  · rename_i n
    rw [if_neg n]
    exact e b o h
theorem er_at {r b : Addr} {H : Hp} (n : b ≠ r) : er r H b = H b := if_neg n
section
variable {P : Program} {w : World} {K : Frag} {mg : Str → Option Value} {base : Heap} {CX : CXT} {k : Nat} {f : Addr} {fd : FuncData} {sp : Sp}
/-- a def by a call of its own by keywords ys alone -/
def FnKW (P : Program) (w : World) (K : Frag) (mg : Str → Option Value) (base : Heap) (CX : CXT) (k : Nat) (f : Addr) (ys : List Str) (sp : Sp) : Prop :=
  ∀ (A : Around) (outer : List Env) (s : Shared) (H : Hp) (us : List Value) (vs : List V) (Q : VK) (E : XK), Room k A → Env0 P w K mg base A outer s H → Vals vs us → sp vs H Q E →
    codeAny (model P w) A (.call (.ref f) ⟨[], ys.zip us⟩) (CR CX outer P w H s Q E) s
def revSp2 (sp : Sp) : Sp := fun vs H Q E => ∃ v1 v2, vs = [v2, v1] ∧ sp [v1, v2] H Q E
theorem kw2 {a b : Str} (F : FnOk P w K mg base CX k f fd [a, b] sp) (hb : ∀ (s : Shared) (u1 u2 : Value), BindsTo s fd ⟨[], [(b, u2), (a, u1)]⟩ [(a, u1), (b, u2)]) : FnKW P w K mg base CX k f [b, a] (revSp2 sp) := by
  intro A outer s H us vs Q E hr e0 r h
  obtain ⟨v1, v2, rfl, q⟩ := h
  match us, r with
  | [u2, u1], .cons r2 (.cons r1 .nil) => exact F.run A outer s H ⟨[], [(b, u2), (a, u1)]⟩ [u1, u2] [v1, v2] Q E hr e0 (hb s u1 u2) (.cons r1 (.cons r2 .nil)) q
end
section
variable {X : Cx} {k : Nat} {f : Addr} {CX : CXT} {ys : List Str} {sp : Sp} {x : Str} {p pos : Pos} {kws : List Keyword} {tk : TA} {E : XK}
/-- f(y = e, ..) -/
theorem pe_callKW (F : FnKW X.prog X.w X.K X.mg X.base CX k f ys sp) (hr : Room k X.A) (hg : Gl X x) (hm : X.mg x = some (.ref f)) (hk : keepIn X.K (.ref f) = true) (hx : Passes CX X E) (hkw : PK X kws tk)
    (hall : (backToKw pos (keywordEach kws X.env)).all (·.1.isSome) = true := by rfl) (hks : (backToKw pos (keywordEach kws X.env)).filterMap (·.1) = ys := by rfl) (hdb : (x == ("__debug__" : Str)) = false := by decide)
    (hpl : ((backTo pos (starEach [] X.env)).any (·.1) || (backToKw pos (keywordEach kws X.env)).any (·.1.isNone)) = false := by rfl) :
    PE X (.Call (.Name x p) [] kws pos) (tCall sp [] E tk) := by
  refine ⟨fun pins s σ H Q I h => ?_⟩
  refine wpAny_Call_Name_kw (ld_glob I hg hm ?_ hdb)
  refine PySem.W.callWith_KW0 (h₀ := X.base) I.ok.mod.kin hk hall ?_ hpl
  refine thn (hkw.run pos pins s σ H _ I h) fun ws s2 ⟨zs, H2, I2, rz, q2⟩ => ⟨I2.kIn, ?_⟩
  rw [hks]
  have q3 : sp (zs ++ []) H2 Q E := q2
  rw [List.append_nil] at q3
  refine wpAny_call (codeAny_mono (F X.A X.stack s2 H2 ws zs Q E hr I2.env0 rz q3) fun r s' hq => ?_)
  cases r with
  | error e => exact hx pins σ _ _ e s' I2 hq
  | ok fl =>
    cases fl with
    | ret u => exact I2.after hq
    | next => exact False.elim hq
    | brk => exact False.elim hq
    | cont => exact False.elim hq
end
/-! ### repr of any value -/
def rReprD (K : Frag) : List V → Hp → VK → Prop := fun vs H Q => ∃ (v : V) (d : PD), vs = [v] ∧ Dp K H v d ∧ d.showable = true ∧ d.hasDict = false ∧ d.depth ≤ 50 ∧ d.shown.length ≤ sizeLine ∧ Q (.str d.shown) H
theorem c_reprD {X : Cx} {K : Frag} (hu : X.A.units + 64 < cLine) (hg : Gu X.A) (e : X.K = K := by rfl) : CallR X (.builtin "repr") (rReprD K) := by
  subst e
  intro pins s σ H vs us Q I r h
  obtain ⟨v, d, rfl, hd, hs, hn, hdp, hz, q⟩ := h
  cases v with
  | ref a =>
    rw [Vals.ref1 r]
    obtain ⟨as, rd⟩ := Dp.reads I d (.ref a) (.ref a) hd rfl
    exact repr_of_reads' rd hs (PyData.noDict_hsm hn) hg (by omega) (fun _ _ e => e) (fun h' u tk hk => ⟨.str d.shown, H, I.kept hk, ⟨_, rfl⟩, q⟩) hz
  | non =>
    cases hd
    obtain ⟨u, rfl, e⟩ := vals1 r
    obtain rfl : u = Value.none := e
    rw [PyData.shown] at q
    exact PySem.P.repr_of_none ⟨.str _, H, I.tok _, ⟨_, rfl⟩, q⟩
  | bl b =>
    cases hd
    obtain ⟨u, rfl, e⟩ := vals1 r
    obtain rfl : u = Value.bool b := e
    rw [PyData.shown] at q
    exact PySem.P.repr_of_bool ⟨.str _, H, I.tok _, ⟨_, rfl⟩, by cases b <;> exact q⟩
  | int i =>
    cases hd
    obtain ⟨u, rfl, t, rfl⟩ := vals1 r
    rw [PyData.showable] at hs
    rw [PyData.shown] at q
    exact PySem.P.repr_of_int (of_decide_eq_true hs) ⟨.str _, H, I.tok _, ⟨_, rfl⟩, q⟩
  | str x =>
    cases hd
    obtain ⟨u, rfl, t, rfl⟩ := vals1 r
    rw [PyData.shown] at hz q
    exact PySem.P.repr_of_str ⟨.str _, H, I.tok _, ⟨_, rfl⟩, q⟩ hz
  | _ => exact absurd hd (by intro z; cases z)
theorem repr_okd {K : Frag} {H : Hp} {Q : VK} {v : V} {n m : Nat} {d : PD} (h : Okd n m d) (hd : Dp K H v d) (q : Q (.str d.shown) H) (hm : m ≤ 50 := by omega) (hL : Lb n m ≤ sizeLine := by decide) : rReprD K [v] H Q :=
  ⟨v, d, rfl, hd, h.nice.sh, h.nice.nd, Nat.le_trans h.nice.dp hm, Nat.le_trans h.nice.len hL, q⟩
theorem repr_niceD {K : Frag} {H : Hp} {Q : VK} {v : V} {m L : Nat} {d : PD} (n : Nice m L d) (hd : Dp K H v d) (q : Q (.str d.shown) H) (hm : m ≤ 50 := by omega) (hL : L ≤ 1000000 := by omega) : rReprD K [v] H Q :=
  ⟨v, d, rfl, hd, n.sh, n.nd, Nat.le_trans n.dp hm, Nat.le_trans n.len (Nat.le_trans hL (by decide)), q⟩
end Cb

/-! t[::-1] of a tuple. -/
namespace Cb
open PySem PySem.Spec PyProof.Rows L2 PySem.W HT
section
variable {prog : Program} {w : World} {A : Around} {E : Value → Shared → Prop} {s : Shared}
theorem adjust_rev (n : Nat) : Builtin.Slice.sliceAdjust none none (-1) (n : Int) = ((n : Int) - 1, -1) := by
  unfold Builtin.Slice.sliceAdjust
  simp
theorem places_rev (n : Nat) : Builtin.Slice.slicePlaces ((n : Int) - 1) (-1) (-1) = n := by
  unfold Builtin.Slice.slicePlaces
  have h1 : ¬ ((-1 : Int) > 0) := by omega
  simp only [h1, if_false]
  have e : ((n : Int) - 1 - -1 - 1) / - -1 = (n : Int) - 1 := by
    rw [Int.neg_neg, Int.ediv_one]
    omega
  rw [e]
  split <;> omega
theorem sliceApplied_rev {sl : Addr} {vl vu vs : Value} {n : Nat} {Q : Int × Int × Nat → Shared → Prop} (hs : s.heap.IsSliceOf sl vl vu vs) (pl : IsPart vl none) (pu : IsPart vu none) (ps : IsPart vs (some (-1)))
    (h : Q ((n : Int) - 1, -1, n) s) : wpAny (model prog w) A (Builtin.Slice.sliceApplied (.ref sl) (pure (n : Int))) Q E s := by
  obtain ⟨os, hos, hcs, hds⟩ := id hs
  unfold Builtin.Slice.sliceApplied Builtin.Slice.sliceFields
  refine wpAny_bind (wpAny_bind (wpAny_field hos hds (x := vl) rfl (wpAny_bind (wpAny_field hos hds (x := vu) rfl (wpAny_bind (wpAny_field hos hds (x := vs) rfl (wpAny_pure ?_)))))))
  refine wpAny_bind (slicePart_ ps ?_)
  show wpAny _ _ (if ((-1 : Int) == 0) = true then _ else _) _ _ s
  rw [if_neg (by decide)]
  refine wpAny_bind (slicePart_ pl (wpAny_bind (slicePart_ pu (wpAny_bind (wpAny_pure ?_)))))
  show wpAny _ _ (match Builtin.Slice.sliceAdjust none none (-1) (n : Int) with | (lo, hi) => pure (lo, (-1 : Int), Builtin.Slice.slicePlaces lo hi (-1))) _ _ s
  rw [adjust_rev]
  show wpAny _ _ (pure ((n : Int) - 1, (-1 : Int), Builtin.Slice.slicePlaces ((n : Int) - 1) (-1) (-1))) _ _ s
  rw [places_rev]
  exact wpAny_pure h
theorem fm_congr {α β : Type} {f g : α → Option β} : ∀ {l : List α}, (∀ x ∈ l, f x = g x) → l.filterMap f = l.filterMap g
  | [], _ => rfl
  | x :: l, h => by
    rw [List.filterMap_cons, List.filterMap_cons, h x List.mem_cons_self, fm_congr fun y hy => h y (List.mem_cons_of_mem _ hy)]
theorem pick_rev (xs : Array Value) : ((List.range xs.size).filterMap fun (m : Nat) => xs[((xs.size : Int) - 1 + (m : Int) * (-1)).toNat]?).toArray = xs.toList.reverse.toArray := by
  congr 1
  refine List.ext_getElem? fun i => ?_
  have e : ∀ m ∈ List.range xs.size, xs[((xs.size : Int) - 1 + (m : Int) * (-1)).toNat]? = some (xs.toList.reverse.getD m .none) := fun m hm => by
    have hm := List.mem_range.mp hm
    have e1 : ((xs.size : Int) - 1 + (m : Int) * (-1)).toNat = xs.size - 1 - m := by omega
    rw [e1, ← Array.getElem?_toList]
    have e2 : xs.toList.reverse[m]? = xs.toList[xs.size - 1 - m]? := by
      rw [List.getElem?_reverse (by simpa using hm)]
      simp
    rw [← e2]
    have hl : m < xs.toList.reverse.length := by simpa using hm
    rw [List.getElem?_eq_getElem hl, List.getD_eq_getElem?_getD, List.getElem?_eq_getElem hl]
    rfl
  have e3 : (List.range xs.size).filterMap (fun (m : Nat) => xs[((xs.size : Int) - 1 + (m : Int) * (-1)).toNat]?) = (List.range xs.size).map fun m => xs.toList.reverse.getD m .none := by
    rw [← List.filterMap_eq_map]
    exact fm_congr fun m hm => e m hm
  rw [e3]
  by_cases hi : i < xs.size
  · rw [List.getElem?_map, List.getElem?_range hi]
    have hl : i < xs.toList.reverse.length := by simpa using hi
    rw [List.getElem?_eq_getElem hl]
    show some (xs.toList.reverse.getD i .none) = _
    rw [List.getD_eq_getElem?_getD, List.getElem?_eq_getElem hl]
    rfl
  · rw [List.getElem?_eq_none (by rw [List.length_map, List.length_range]; omega), List.getElem?_eq_none (by rw [List.length_reverse, Array.length_toList]; omega)]
theorem getItem_tuple_rev {t sl : Addr} {items : Array Value} {vl vu vs : Value} {Q : Value → Shared → Prop} (ht : IsTup s.heap t items) (hs : s.heap.IsSliceOf sl vl vu vs) (pl : IsPart vl none) (pu : IsPart vu none) (ps : IsPart vs (some (-1)))
    (h : Q (.ref s.heap.objs.size) { s with heap := s.heap.push { cls := .type "tuple", data := .seq items.toList.reverse.toArray } })
    (hsz : items.size ≤ sizeLine) : wpAny (model prog w) A (getItem (.ref t) (.ref sl)) Q E s := by
  have htake : sizeOk (.seq items.toList.reverse.toArray) := by
    show items.toList.reverse.toArray.size ≤ sizeLine
    rw [List.size_toArray, List.length_reverse, Array.length_toList]
    exact hsz
  obtain ⟨os, hos, hcs, hds⟩ := id hs
  have hTs : s.TypeIs (.ref sl) "slice" := ⟨os, hos, hcs⟩
  unfold getItem
  try with_reducible refine wpAny_holding ?_
  first | refine wpAny_bind (wpAny_pure ?_) | skip
  refine wpAny_bind (wpAny_sequenceKey ht.typeIs (by decide) ?_)
  refine wpAny_bind (wpAny_callSpecial?_slot (name := Str.ofString "__getitem__") ht.typeIs PyProof.Rows.slot_tuple_getitem
    (wpAny_call_entry PyProof.Rows.slot_tuple_getitem ht.typeIs entry_tuple_getitem ?_ (args_tuple_getitem _ _)))
  show wpAny _ _ (Builtin.Tuple.tupleItemsOf (.ref t) >>= _) _ _ s
  refine wpAny_bind (tupleItemsOf_ ht ?_)
  refine wpAny_bind (wpAny_typeOf hTs ?_)
  rw [if_pos (by decide)]
  refine wpAny_bind (sliceApplied_rev hs pl pu ps ?_)
  have hno : ¬ ((((items.size : Int) - 1) == 0 && (-1 : Int) == 1 && items.size == items.size) = true) := by
    intro q
    rw [Bool.and_eq_true, Bool.and_eq_true] at q
    exact absurd q.1.2 (by decide)
  show wpAny _ _ (if (((items.size : Int) - 1) == 0 && (-1 : Int) == 1 && items.size == items.size) = true then _ else _) _ _ s
  rw [if_neg hno, pick_rev]
  first
    | exact wpAny_bind (m := Builtin.Tuple.tupleExact _) (wpAny_newObj_type (wpAny_pure ⟨_, rfl, wpAny_pure h⟩) htake)
    | exact wpAny_bind (m := Builtin.Tuple.tupleExact _) (wpAny_newObj_type (wpAny_bind (wpAny_pure (wpAny_pure ⟨_, rfl, wpAny_pure h⟩))) htake)
    | exact wpAny_bind (wpAny_bind (m := Builtin.Tuple.tupleExact _) (wpAny_newObj_type (wpAny_pure (wpAny_pure ⟨_, rfl, wpAny_pure h⟩)) htake))
    | exact wpAny_bind (wpAny_bind (m := Builtin.Tuple.tupleExact _) (wpAny_newObj_type (wpAny_pure ⟨_, rfl, wpAny_pure h⟩) htake))
end
def tRevT (K : Frag) (te : TE) : TE := fun σ H Q => te σ H fun x H1 => ∃ a xs, x = .ref a ∧ SqT K H1 a xs ∧ ∀ p, H1 p = none → Q (.ref p) (upd H1 p (.tup xs.reverse))
theorem pe_revT {X : Cx} {K : Frag} {te : TE} {e : Expr} {k : Nat} {p1 p2 p3 pos : Pos} (he : PE X e te) (eK : X.K = K := by rfl) : PE X (.Subscript e (.Slice none none (some (.UnaryOp .USub (.Constant (.int 1) k p1) p2)) p3) pos) (tRevT K te) := by
  subst eK
  refine ⟨fun pins s σ H Q I h => ?_⟩
  refine Subscript_ (thn (he.run pins s σ H _ I h) fun v s1 ⟨x, H1, I1, r1, q1⟩ => ?_)
  obtain ⟨a, xs, ex, hx, q⟩ := q1
  subst ex
  cases r1
  have hst : PO X (some (.UnaryOp .USub (.Constant (.int 1) k p1) p2)) (tPart (tUn (rU fun i => .int (-i)) (tC (.int 1)))) := po_some (pe_un un_neg pe_int)
  refine wpAny_Slice (thn (po_none.run pins s1 σ H1 (fun o H2 => o = none ∧ H2 = H1) I1 ⟨rfl, rfl⟩) fun vl s2 ⟨l, H2, I2, pl, el, e2⟩ => ?_)
  subst el e2
  refine thn (po_none.run pins s2 σ H2 (fun o H3 => o = none ∧ H3 = H2) I2 ⟨rfl, rfl⟩) fun vu s3 ⟨u, H3, I3, pu, eu, e3⟩ => ?_
  subst eu e3
  refine thn (hst.run pins s3 σ H3 (fun o H4 => o = some (-1) ∧ H4 = H3) I3 ⟨1, rfl, -1, rfl, rfl, rfl⟩) fun vs s4 ⟨o, H4, I4, ps, eo, e4⟩ => ?_
  subst eo e4
  have I5 : Inv X pins σ H4 { s4 with heap := s4.heap.push { cls := .type "slice", data := .fields #[vl, vu, vs] } } := I4.kept (t' := s4.toks) fun b ob q => Heap.get?_push_of_some _ q
  obtain ⟨its, r, ht, hz⟩ := I5.tuple hx
  have hlen := r.length
  show wpAny (model X.prog X.w) X.A (subscriptTail e (.Slice none none (some (.UnaryOp .USub (.Constant (.int 1) k p1) p2)) p3) (.ref a) (.ref s4.heap.objs.size)) (EP X pins σ Q) X.xe { s4 with heap := s4.heap.push { cls := .type "slice", data := .fields #[vl, vu, vs] } }
  refine tail_any (ops := [.ref a, .ref s4.heap.objs.size]) ht.typeIs PyProof.Rows.slot_tuple_getitem.lookup ?_ (by with_unfolding_all rfl)
  refine getItem_tuple_rev ht (Heap.IsSliceOf.new _ vl vu vs) pl pu ps ?_ (by rw [List.size_toArray]; omega)
  refine ⟨.ref _, _, I5.laid (t' := s4.toks) (o := .tup xs.reverse) (fun b ob q => Heap.get?_push_of_some _ q) (Nat.le_refl _) ?_, rfl, q _ (I5.hok.fresh (Nat.le_refl _))⟩
  exact ⟨by rw [List.length_reverse]; exact hz, its.reverse, r.reverse, IsTup.new _ _⟩
end Cb

/-! The program's own defs. -/
namespace K17
open PySem PySem.Spec PyProof.Rows L2 PySem.W Cb
def top (i : Nat) : Stmt := PySem.Challenge.pw_crewbook_k17_situations.main.body.getD i (.Pass ⟨0, 0, 0, 0⟩)
/-- the built-in names that nobody hides -/
structure Blt (mg : Str → Option Value) : Prop where
  len : mg "len" = none
  list : mg "list" = none
  tuple : mg "tuple" = none
  range : mg "range" = none
  sorted : mg "sorted" = none
  any : mg "any" = none
  all : mg "all" = none
  min : mg "min" = none
  max : mg "max" = none
  repr : mg "repr" = none
/-- a def of the text that stands where its name says, with its promise -/
structure Own (P : Program) (w : World) (K : Frag) (mg : Str → Option Value) (base : Heap) (k : Nat) (x : Str) (ps : List Str) (sp : Sp) where
  f : Addr
  fd : FuncData
  G : FnOk P w K mg base CX0 k f fd ps sp
  m : mg x = some (.ref f)
  kp : keepIn K (.ref f) = true
  b : Binds K fd ps []

end K17
namespace K17
open PySem PySem.Spec PyProof.Rows L2 PySem.W Cb
theorem flat_le {α β : Type} (m : Nat) (f : α → List β) : ∀ l : List α, (∀ x ∈ l, (f x).length ≤ m) → (l.flatMap f).length ≤ l.length * m
  | [], _ => by simp
  | x :: l, h => by
    have h1 := flat_le m f l fun y hy => h y (List.mem_cons_of_mem _ hy)
    have h2 := h x List.mem_cons_self
    rw [List.flatMap_cons, List.length_append, List.length_cons, Nat.succ_mul]
    omega
/-- lists of crews as the law makes them -/
structure Gt (ts : List (List Str)) : Prop where
  many : ts.length ≤ 64
  each : ∀ t ∈ ts, t ≠ [] ∧ t.length ≤ 8 ∧ ∀ n ∈ t, okS n

end K17
namespace K17
open PySem PySem.Spec PyProof.Rows L2 PySem.W Cb
section
variable {P : Program} {w : World} {K : Frag} {mg : Str → Option Value} {base : Heap}
/-! ### newcomers -/
abbrev s_newcomers : Stmt := top 18
abbrev N_newcomers : List Str := ["crew", "other", "person"]
theorem sc_newcomers : FnScope N_newcomers ["crew", "other"] (defScope s_newcomers) := ⟨rfl, rfl, rfl, by decide +kernel, rfl, by decide +kernel, by decide +kernel⟩
def nc (c o : List Str) : List Str := o.filter fun p => !isIn p c
def sp_newcomers (K : Frag) : Sp := fun vs H Q _ => ∃ (x y : V) (c o : List Str), vs = [x, y] ∧ S1 K H x c ∧ S1 K H y o ∧ o.length ≤ 1000 ∧ ∀ v H', Same H H' → S1 K H' v (nc c o) → Q v H'
theorem ok_newcomers {f : Addr} {fd : FuncData} {k : Nat} (F : Fun K "newcomers" "newcomers" s_newcomers f fd) (B : Blt mg) : FnOk P w K mg base CX0 (k + 1) f fd ["crew", "other"] (sp_newcomers K) := by
  refine F.ok sc_newcomers (fun vs H Q E h => ?_) (fun cdv A outer s H vs Q E hr h => ?_)
  · obtain ⟨_, _, _, _, rfl, _⟩ := h
    rfl
  · obtain ⟨x, y, c, o, rfl, hc, ⟨a, rfl, ho⟩, hl, q⟩ := h
    refine ⟨_, pss_one (ps_ret (pe_callTy (c_tuple K) (by rfl) B.tuple (by decide +kernel) (pa_cons (pe_lc (own := [("person", 2)]) (g := gName 2) rfl sc_newcomers.nd (p_tup K (pv 1)) (blkOk_by (own := [("person", 2)]) (N := N_newcomers) (sc := defScope s_newcomers) (by decide +kernel))
      (fun _ _ _ _ _ => pg_name (i := 2) sc_newcomers.nd rfl (Or.inl rfl)) (fun _ _ _ _ _ => pts_one (pt_cmpR (o_nin K) (pv 2) (pv 0) rfl)) (fun _ _ _ _ _ => pv 2)) pa_nil))), ?_⟩
    obtain ⟨ac, rfl, hc⟩ := hc
    unfold tRet tCB tCons
    refine lcT_filter (xs := o.map V.str) (fun v => match v with | .str p => !isIn p c | _ => false) id (fun R hR => ⟨_, rfl, hR a H (Same.refl H) ho⟩) (by rw [List.length_map]; omega) (fun _ => rfl) (fun v hv H1 e1 R hR => ?_) (fun v hv _ H1 e1 R hR => ⟨v, rfl, hR H1 (Same.refl H1)⟩) fun D H' hD e hH => ?_
    · obtain ⟨p, _, rfl⟩ := List.mem_map.mp hv
      exact ⟨_, rfl, _, rfl, ac, _, rfl, .inr (sameT e1 hc), rfl, flat_strs c, _, rfl, by rw [inV_strs]; exact hR⟩
    · have e2 : ((o.map V.str).filter (fun v => match v with | .str p => !isIn p c | _ => false)).map id = (nc c o).map V.str := by
        rw [List.map_id, List.filter_map]
        rfl
      rw [e2] at hH
      refine ⟨D, _, rfl, .inl ⟨sl_ hH, fun t nt => ?_⟩⟩
      exact q _ _ (e.trans (same_upd nt)) ⟨t, rfl, st_ upd_same⟩
end
end K17

namespace K17
open PySem PySem.Spec PyProof.Rows L2 PySem.W Cb
theorem ok_nc {c o : List Str} (h : ∀ n ∈ o, okS n) : ∀ n ∈ nc c o, okS n := fun n hn => h n (List.mem_filter.mp hn).1
end K17
namespace Cb
open PySem PySem.Spec PyProof.Rows L2 PySem.W
section
variable {X : Cx} {k : Nat} {f : Addr} {CX : CXT} {sp : Sp} {x : Str} {p pos : Pos} {e : Expr} {es : List Expr} {t : TA} {E : XK}
/-- f(e, ..), f told by what stands in its places -/
theorem pe_callP (F : FnR X.prog X.w X.K X.mg X.base CX k f sp) (hr : Room k X.A) (hg : Gl X x) (hm : X.mg x = some (.ref f)) (hk : keepIn X.K (.ref f) = true) (hx : Passes CX X E) (ha : PA X (e :: es) t)
    (hdb : (x == ("__debug__" : Str)) = false := by decide) (he : starEach (e :: es) X.env = (false, eval e X.env) :: starEach es X.env := by rfl) (hpl : (backTo pos (starEach es X.env)).any (·.1) = false := by rfl) :
    PE X (.Call (.Name x p) (e :: es) [] pos) (tCall sp [] E t) := by
  refine ⟨fun pins s σ H Q I h => wpAny_Call_Name_kw (ld_glob I hg hm ?_ hdb)⟩
  refine callWith_K (h₀ := X.base) I.ok.mod.kin hk (thn (ha.run pos pins s σ H _ I h) fun us s1 ⟨vs, H1, I1, r, q⟩ => ⟨I1.kIn, ?_⟩) he hpl
  have q1 : sp (vs ++ []) H1 Q E := q
  rw [List.append_nil] at q1
  exact wpAny_call (run_fnR F hr hx I1 r q1)
/-- a statement that is not reached -/
theorem ps_never {st : Stmt} : PS X st (fun _ _ _ => False) := ⟨fun _ _ _ _ _ _ h => h.elim⟩
end
section
variable {K : Frag} {tl : TE} {j : Nat} {vs : List Nat} {σ : Stt} {H : Hp} {tt : TT} {Q : VK} {β : Type} {F : Hp → V → β → Prop} {us : List V} {bs : List β} {a : Addr}
/-- [x for x in t if ..], t a tuple, the items told by what they stand for -/
theorem lcT_pair (mono : ∀ H1 H2 v b, Same H1 H2 → F H1 v b → F H2 v b) (p : β → Bool) (hl : ∀ R : VK, R (.ref a) H → tl σ H R) (hs : SqT K H a us) (hp : Paired (F H) us bs) (hn : bs.length ≤ 100000)
    (hj : ∀ x, wipe ((wipe σ vs).set j (some x)) vs = wipe σ vs) (hv : ∀ x, ((wipe σ vs).set j (some x))[j]? = some (some x))
    (ht : ∀ x b, b ∈ bs → ∀ H1, Same H H1 → F H1 x b → ∀ R : Bool → Hp → Prop, (∀ H2, Same H1 H2 → R (p b) H2) → tt ((wipe σ vs).set j (some x)) H1 R)
    (q : ∀ L ws H', H L = none → Same H H' → H' L = some (.lst ws) → Paired (F H') ws (bs.filter p) → Q (.ref L) H') : tLc (iTup K tl) (gName j) tt (tVar j) vs σ H Q := by
  refine hl _ ⟨a, rfl, ⟨us, hs⟩, fun L nL => ?_⟩
  have hlen := prd_len hp
  refine lc_tup (K := K) (a := a) (xs := us) (fun i H' => Same H H' ∧ ∃ ws, H' L = some (.lst ws) ∧ Paired (F H) ws ((bs.take i).filter p)) ⟨same_upd nL, [], upd_same, .nil⟩ (fun i H' _ z => sameT z.1 hs) (fun i x H' hi z => ⟨hj x, ?_⟩) fun H' z => ?_
  · obtain ⟨e2, ws, hw, hpw⟩ := z
    obtain ⟨b, hb, hf⟩ := prd_getL hp hi
    have hwl := prd_len hpw
    have hfl := List.length_filter_le p (bs.take i)
    have hbl := (List.getElem?_eq_some_iff.mp hb).1
    rw [List.length_take] at hfl
    refine ht x b (List.mem_of_getElem? hb) H' e2 (mono _ _ _ _ e2 hf) _ fun H2 e3 => ?_
    rw [take_snoc hb, List.filter_append]
    by_cases h : p b = true
    · rw [if_pos h]
      refine ⟨x, hv x, ws, e3 _ _ hw, big (by omega), same_mut (e2.trans e3) nL, ws ++ [x], upd_same, ?_⟩
      rw [List.filter_cons_of_pos h]
      exact prd_app hpw (.cons hf .nil)
    · rw [if_neg h]
      refine ⟨e2.trans e3, ws, e3 _ _ hw, ?_⟩
      rw [List.filter_cons_of_neg h]
      simpa using hpw
  · obtain ⟨e2, ws, hw, hpw⟩ := z
    rw [hlen, List.take_length] at hpw
    exact q L ws H' nL e2 hw (prd_mono (fun _ _ z => mono _ _ _ _ e2 z) hpw)
end
end Cb
namespace K17
open PySem PySem.Spec PyProof.Rows L2 PySem.W Cb Evl
section
variable {P : Program} {w : World} {K : Frag} {mg : Str → Option Value} {base : Heap}
/-! ### contains -/
abbrev s_contains : Stmt := top 6
abbrev N_contains : List Str := ["larger", "smaller", "person"]
theorem sc_contains : FnScope N_contains ["larger", "smaller"] (defScope s_contains) := ⟨rfl, rfl, rfl, by decide +kernel, rfl, by decide +kernel, by decide +kernel⟩
def has (c o : List Str) : Bool := o.all fun p => isIn p c
def sp_contains (K : Frag) : Sp := fun vs H Q _ => ∃ (x y : V) (c o : List Str), vs = [x, y] ∧ S1 K H x c ∧ S1 K H y o ∧ o.length ≤ 1000 ∧ ∀ H', Same H H' → Q (.bl (has c o)) H'
theorem ok_contains {f : Addr} {fd : FuncData} {k : Nat} (F : Fun K "contains" "contains" s_contains f fd) (B : Blt mg) : FnOk P w K mg base CX0 (k + 1) f fd ["larger", "smaller"] (sp_contains K) := by
  refine F.ok sc_contains (fun vs H Q E h => ?_) (fun cdv A outer s H vs Q E hr h => ?_)
  · obtain ⟨_, _, _, _, rfl, _⟩ := h
    rfl
  · obtain ⟨x, y, c, o, rfl, ⟨b, rfl, hc⟩, ⟨a, rfl, ho⟩, hl, q⟩ := h
    refine ⟨_, (pss_one (ps_ret (pe_callB (c_all K) (by rfl) B.all (by decide +kernel) (pa_cons (pe_lc (own := [("person", 2)]) (g := gName 2) (tt := tYes) rfl sc_contains.nd (p_tup K (pv 1)) (blkOk_by (own := [("person", 2)]) (N := N_contains) (sc := defScope s_contains) (by decide +kernel)) (fun _ _ _ _ _ => (pg_name (i := 2) sc_contains.nd rfl (Or.inl rfl))) (fun _ _ _ _ _ => pts_nil) (fun _ _ _ _ _ => (pe_cmpR (o_in K) (pv 2) (pv 0) rfl))) pa_nil)))), ?_⟩
    unfold tRet tCB tCons tNil
    refine lcT_filter (xs := o.map V.str) (fun _ => true) (fun v => match v with | .str m => .bl (isIn m c) | _ => .non) (fun R hR => ⟨_, rfl, hR a H (Same.refl H) ho⟩) (by rw [List.length_map]; omega) (fun _ => rfl) (fun v hv H1 e1 R hR => hR) (fun v hv _ H1 e1 R hR => ?_) fun D H' hD e hH => ?_
    · obtain ⟨m, hm, rfl⟩ := List.mem_map.mp hv
      refine ⟨_, rfl, _, rfl, b, _, rfl, .inr (sameT e1 hc), rfl, flat_strs c, ?_⟩
      rw [inV_strs]
      exact hR _ (Same.refl _)
    · have e2 : ((o.map V.str).filter (fun _ => true)).map (fun v => match v with | .str m => V.bl (isIn m c) | _ => .non) = (o.map fun m => isIn m c).map V.bl := by
        rw [List.filter_eq_self.mpr (fun _ _ => rfl), List.map_map, List.map_map]
        rfl
      rw [e2] at hH
      refine ⟨D, _, rfl, sl_ hH, ?_⟩
      have e3 : (o.map fun m => isIn m c).all id = has c o := by
        rw [List.all_map]
        rfl
      rw [e3]
      exact q H' e
/-! ### the people of the crews -/
abbrev s_people : Stmt := top 7
abbrev N_people : List Str := ["crews", "crew", "person"]
theorem sc_people : FnScope N_people ["crews"] (defScope s_people) := ⟨rfl, rfl, rfl, by decide +kernel, rfl, by decide +kernel, by decide +kernel⟩
def folk (ts : List (List Str)) : List Str := once ts.flatten
def sp_people (K : Frag) : Sp := fun vs H Q _ => ∃ (x : V) (ts : List (List Str)), vs = [x] ∧ S2 K H x ts ∧ Gt ts ∧ ∀ v H', Same H H' → S1 K H' v (folk ts) → Q v H'
theorem ok_people {f : Addr} {fd : FuncData} {k : Nat} (F : Fun K "people_of" "people_of" s_people f fd) (B : Blt mg) : FnOk P w K mg base CX0 (k + 1) f fd ["crews"] (sp_people K) := by
  refine F.ok sc_people (fun vs H Q E h => ?_) (fun cdv A outer s H vs Q E hr h => ?_)
  · obtain ⟨_, _, rfl, _⟩ := h
    rfl
  · obtain ⟨x, ts, rfl, ht, gt, q⟩ := h
    refine ⟨_, (pss_one (ps_ret (pe_callTy (c_tuple K) (by rfl) B.tuple (by decide +kernel) (pa_cons (pe_callB (cr_srtS rfl hr.units) (by rfl) B.sorted (by decide +kernel) (pa_cons
      (scN_ok (own := [("crew", 1), ("person", 2)]) (g := gName 1) (tt := tYes) (vI := [2]) rfl sc_people.nd (p_tup K (pv 0)) (blkOk_by (own := [("crew", 1), ("person", 2)]) (N := N_people) (sc := defScope s_people) (by decide +kernel)) (by intro _; rfl)
        (fun it D env => turnS2_0 _ _ _ _ _ _ _ _ _ _ _ _) (fun _ _ _ _ _ => pg_name (i := 1) sc_people.nd rfl (Or.inl rfl)) (fun _ _ _ _ _ => pts_nil)
        (fun _ _ _ _ _ D => bdC_clause (vs := [2]) (g := gName 2) (tt := tYes) rfl rfl (fun it => turnS2_1 _ _ _ _ _ _ _ _ _ _ _ _) rfl (by intro _; rfl) (p_tup K (pv 1)) (pg_name (i := 2) sc_people.nd rfl (Or.inl rfl)) pts_nil
          (bd_lastS P w rfl (pv 2)) (by simp)) (by simp)) pa_nil)) pa_nil)))), ?_⟩
    unfold tRet tCB tCons tNil
    refine set_flat ht (fun t h => (gt.each t h).2.1) gt.many fun D l H1 nD e1 hD nd hm => ?_
    refine ⟨D, l, rfl, hD, fun p ks np pk => ?_⟩
    refine ⟨p, _, rfl, .inl ⟨sl_ upd_same, fun t nt => ?_⟩⟩
    have e2 : srt ks = folk ts := once_eq (pk.nodup_iff.mpr nd) fun x => by rw [pk.mem_iff, hm]
    rw [e2] at nt ⊢
    exact q _ _ ((e1.trans (same_upd np)).trans (same_upd nt)) ⟨t, rfl, st_ upd_same⟩
/-! ### the crews within a set -/
abbrev s_cwithin : Stmt := top 8
abbrev N_cwithin : List Str := ["crews", "people", "crew"]
theorem sc_cwithin : FnScope N_cwithin ["crews", "people"] (defScope s_cwithin) := ⟨rfl, rfl, rfl, by decide +kernel, rfl, by decide +kernel, by decide +kernel⟩
def left (ts : List (List Str)) (ps : List Str) : List (List Str) := ts.filter fun t => has ps t
def sp_cwithin (K : Frag) : Sp := fun vs H Q _ => ∃ (x y : V) (ts : List (List Str)) (ps : List Str), vs = [x, y] ∧ S2 K H x ts ∧ S1 K H y ps ∧ Gt ts ∧ ∀ v H', Same H H' → S2 K H' v (left ts ps) → Q v H'
theorem ok_cwithin {f : Addr} {fd : FuncData} {k : Nat} (F : Fun K "crews_within" "crews_within" s_cwithin f fd) (B : Blt mg) (D_contains : Own P w K mg base 1 "contains" ["larger", "smaller"] (sp_contains K)) : FnOk P w K mg base CX0 (k + 2) f fd ["crews", "people"] (sp_cwithin K) := by
  refine F.ok sc_cwithin (fun vs H Q E h => ?_) (fun cdv A outer s H vs Q E hr h => ?_)
  · obtain ⟨_, _, _, _, rfl, _⟩ := h
    rfl
  · obtain ⟨x, y, ts, ps, rfl, ⟨a, us, rfl, ha, hp⟩, hy, gt, q⟩ := h
    have hr1 : Room 1 _ := hr.mono (by omega)
    refine ⟨_, (pss_one (ps_ret (pe_callTy (c_tuple K) (by rfl) B.tuple (by decide +kernel) (pa_cons (pe_lc (own := [("crew", 2)]) (g := gName 2) rfl sc_cwithin.nd (p_tup K (pv 0)) (blkOk_by (own := [("crew", 2)]) (N := N_cwithin) (sc := defScope s_cwithin) (by decide +kernel)) (fun _ _ _ _ _ => (pg_name (i := 2) sc_cwithin.nd rfl (Or.inl rfl))) (fun _ _ _ _ _ => (pts_one (pt_val (pe_call D_contains.G hr1 rfl D_contains.m D_contains.kp D_contains.b .nil pass0 (pa_cons (pv 1) (pa_cons (pv 2) pa_nil)))))) (fun _ _ _ _ _ => (pv 2))) pa_nil)))), ?_⟩
    unfold tRet tCB tCons tNil
    refine lcT_pair (F := S1 K) (fun _ _ _ _ e z => z.same e) (fun t => has ps t) (fun R hR => ⟨_, rfl, hR⟩) ha hp (by have := gt.many; omega) (fun _ => rfl) (fun _ => rfl) (fun v t ht H1 e1 hv R hR => ?_) fun L ws H1 nL e1 hL hw => ?_
    · exact ⟨_, rfl, _, rfl, y, v, ps, t, rfl, hy.same e1, hv, by have := (gt.each t ht).2.1; omega, fun H2 e2 => ⟨_, rfl, hR H2 e2⟩⟩
    · exact ⟨L, _, rfl, .inl ⟨sl_ hL, fun t nt => q _ _ (e1.trans (same_upd nt)) ⟨t, ws, rfl, st_ upd_same, prd_mono (fun _ _ z => z.same (same_upd nt)) hw⟩⟩⟩
end
end K17

namespace Cb
open PySem PySem.Spec PyProof.Rows L2 PySem.W
/-- an expression whose two ways meet: M is known behind it -/
def tMid (t : TE) : TE := fun σ H Q => ∃ M : VK, t σ H M ∧ ∀ v H', M v H' → Q v H'
theorem pe_mid {X : Cx} {e : Expr} {t : TE} (h : PE X e t) : PE X e (tMid t) := ⟨fun pins s σ H Q I ⟨M, h1, h2⟩ => thn (h.run pins s σ H M I h1) fun _ _ ⟨v, H', J, r, m⟩ => ⟨v, H', J, r, h2 v H' m⟩⟩
/-! ### the list at r may change, all else stands -/
def Cl (r : Addr) (H H' : Hp) : Prop := ∀ b o, H b = some o → H' b = some o ∨ (b = r ∧ (∃ k, o = .lst k) ∧ ∃ k, H' b = some (.lst k))
section
variable {K : Frag} {r : Addr} {H H' H0 : Hp}
theorem Cl.refl : Cl r H H := fun _ _ h => .inl h
theorem Cl.of (e : Same H H') : Cl r H H' := fun b o h => .inl (e b o h)
theorem Cl.trans (h1 : Cl r H0 H) (h2 : Cl r H H') : Cl r H0 H' := fun b o h => by
  rcases h1 b o h with e | ⟨rfl, k, k', e⟩
  · exact h2 b o e
  · rcases h2 _ _ e with e2 | ⟨_, _, k2, e2⟩
    · exact .inr ⟨rfl, k, k', e2⟩
    · exact .inr ⟨rfl, k, k2, e2⟩
theorem Cl.at (h : Cl r H H') {b : Addr} {o : HO} (e : H b = some o) (n : ∀ k, o ≠ .lst k) : H' b = some o := by
  rcases h b o e with z | ⟨_, ⟨k, z⟩, _⟩
  · exact z
  · exact absurd z (n k)
theorem Cl.lst (h : Cl r H H') {b : Addr} {o : HO} (n : b ≠ r) (e : H b = some o) : H' b = some o := by
  rcases h b o e with z | ⟨z, _⟩
  · exact z
  · exact absurd z n
theorem Cl.sqT (h : Cl r H H') {a : Addr} {xs : List V} (e : SqT K H a xs) : SqT K H' a xs := by
  rcases e with (e | ⟨o, e⟩) | e
  · exact .inl (.inl (h.at e fun _ z => by cases z))
  · exact .inl (.inr ⟨o, h.at e fun _ z => by cases z⟩)
  · exact .inr e
theorem Cl.s1 (h : Cl r H H') {v : V} {ns : List Str} (e : S1 K H v ns) : S1 K H' v ns := by
  obtain ⟨a, rfl, e⟩ := e
  exact ⟨a, rfl, h.sqT e⟩
theorem Cl.s1s (h : Cl r H H') {xs : List V} {ts : List (List Str)} (e : Paired (S1 K H) xs ts) : Paired (S1 K H') xs ts := prd_mono (fun _ _ z => h.s1 z) e
theorem Cl.s2 (h : Cl r H H') {v : V} {ts : List (List Str)} (e : S2 K H v ts) : S2 K H' v ts := by
  obtain ⟨a, xs, rfl, e, t⟩ := e
  exact ⟨a, xs, rfl, h.sqT e, h.s1s t⟩
theorem Cl.free (h : Cl r H H') {l : Addr} (e : H' l = none) : H l = none := by
  cases q : H l with
  | none => rfl
  | some o =>
    rcases h l o q with z | ⟨_, _, k, z⟩
    · rw [e] at z; cases z
    · rw [e] at z; cases z
theorem Cl.upd (h : Cl r H0 H) {l : Addr} {o : HO} (n : H0 l = none) : Cl r H0 (L2.upd H l o) := fun b x e => by
  have nb := ne_of_none e n
  rw [upd_ne nb]
  exact h b x e
theorem Cl.new {l : Addr} {o : HO} (n : H l = none) : Cl r H (L2.upd H l o) := Cl.refl.upd n
theorem Cl.put {k k' : List V} (e : H r = some (.lst k)) : Cl r H (L2.upd H r (.lst k')) := fun b o h => by
  by_cases hb : b = r
  · subst hb
    rw [e] at h
    cases h
    exact .inr ⟨rfl, ⟨_, rfl⟩, k', upd_same⟩
  · exact .inl (by rw [upd_ne hb]; exact h)
end
end Cb
namespace K17
open PySem PySem.Spec PyProof.Rows L2 PySem.W Cb Evl
/-! ### the draws -/
/-- the list of the draws at r, its cells at c: at most d of them were made -/
def Fd (H : Hp) (r c : Addr) (d : Int) : Prop := ∃ (ns : List Int) (nx rest dr : Int), H r = some (.lst [.ref c, .int nx, .int rest, .int dr]) ∧ H c = some (.lst (ns.map V.int)) ∧ c ≠ r ∧ 0 ≤ nx ∧ 0 ≤ dr ∧ dr ≤ d
theorem Fd.same {H H' : Hp} {r c : Addr} {d : Int} (e : Same H H') (h : Fd H r c d) : Fd H' r c d := by
  obtain ⟨ns, nx, rest, dr, h1, h2, h3⟩ := h
  exact ⟨ns, nx, rest, dr, e _ _ h1, e _ _ h2, h3⟩
theorem Fd.le {H : Hp} {r c : Addr} {d e : Int} (h : Fd H r c d) (l : d ≤ e) : Fd H r c e := by
  obtain ⟨ns, nx, rest, dr, h1, h2, h3, h4, h5, h6⟩ := h
  exact ⟨ns, nx, rest, dr, h1, h2, h3, h4, h5, Int.le_trans h6 l⟩
theorem Fd.mut {H H0 : Hp} {r c l : Addr} {d d0 : Int} {o : HO} (h : Fd H r c d) (n : H0 l = none) (h0 : Fd H0 r c d0) : Fd (upd H l o) r c d := by
  obtain ⟨ns, nx, rest, dr, h1, h2, h3⟩ := h
  obtain ⟨_, _, _, _, g1, g2, _⟩ := h0
  exact ⟨ns, nx, rest, dr, by rw [upd_ne (ne_of_none g1 n)]; exact h1, by rw [upd_ne (ne_of_none g2 n)]; exact h2, h3⟩
theorem Fd.ne {H : Hp} {r c l : Addr} {d : Int} (h : Fd H r c d) (n : H l = none) : l ≠ r := by
  obtain ⟨_, _, _, _, g1, _⟩ := h
  exact (ne_of_none g1 n).symm
theorem dpInts {K : Frag} {H : Hp} : ∀ ns : List Int, DpAll K H (ns.map V.int) (ns.map PyData.int)
  | [] => .nil
  | n :: ns => .cons (.int n) (dpInts ns)
theorem lay_ints : ∀ ns : List Int, PyData.canLayAll0 (ns.map .int) = true
  | [] => by simp [PyData.canLayAll0]
  | n :: ns => by
    show PyData.canLayAll0 (.int n :: ns.map .int) = true
    rw [PyData.canLayAll0, lay_ints ns, PyData.canLay0]
    rfl
theorem shaped_ints (ns : List Int) : SeqAt.shaped (.list (ns.map .int)) = true := by
  unfold SeqAt.shaped
  rw [PyData.canLay0, lay_ints, PyData.depth, PySem.W.depth_ints]
  rfl
theorem shaped_nil : SeqAt.shaped (.list []) = true := by
  unfold SeqAt.shaped
  simp [PyData.canLay0, PyData.canLayAll0, PyData.depth, PyData.depthAll]
section
variable {P : Program} {w : World} {K : Frag} {mg : Str → Option Value} {base : Heap}
abbrev s_feed : Stmt := top 20
theorem sc_feed : FnScope ["_law_script"] ["_law_script"] (defScope s_feed) := ⟨rfl, rfl, rfl, by decide +kernel, rfl, by decide +kernel, by decide +kernel⟩
def sp_feed (K : Frag) : Sp := fun vs H Q _ => ∃ (a : Addr) (ns : List Int), vs = [.ref a] ∧ SqL K H a (ns.map V.int) ∧ ∀ r c H', Same H H' → H r = none → Fd H' r c 0 → Q (.ref r) H'
theorem ok_feed {f : Addr} {fd : FuncData} {k : Nat} (F : Fun K "_law_feed" "_law_feed" s_feed f fd) (B : Blt mg) : FnOk P w K mg base CX0 (k + 1) f fd ["_law_script"] (sp_feed K) := by
  refine F.ok sc_feed (fun vs H Q E h => ?_) (fun cdv A outer s H vs Q E hr h => ?_)
  · obtain ⟨_, _, rfl, _⟩ := h
    rfl
  · obtain ⟨a, ns, rfl, hS, q⟩ := h
    refine ⟨_, (pss_one (ps_ret (pe_lst (pa_cons (pe_callTy (c_list K) (by rfl) B.list (by decide +kernel) (pa_cons (pe_slice (s_list K) (pv 0) po_none (po_some pe_int)) pa_nil)) (pa_cons pe_int (pa_cons pe_int (pa_cons pe_int pa_nil))))))), ?_⟩
    refine ⟨_, rfl, _, rfl, a, ns.map V.int, rfl, hS, fun b nb => ⟨b, _, rfl, .inl (sl_ upd_same), fun c nc => ⟨(by decide : 4 ≤ sizeLine), fun r nr => ?_⟩⟩⟩
    obtain ⟨ms, hm⟩ : ∃ ms : List Int, cutV (ns.map V.int) none (some 63) = ms.map V.int := ⟨(ns.drop _).take _, by unfold cutV; rw [List.map_take, List.map_drop]⟩
    rw [hm] at nc nr ⊢
    have e1 := same_upd (o := .lst (ms.map V.int)) nb
    have e2 := same_upd (o := .lst (ms.map V.int)) nc
    have e3 := same_upd (o := .lst [.ref c, .int 0, .int 0, .int 0]) nr
    have ncr : c ≠ r := fun z => by
      rw [← z, upd_same] at nr
      cases nr
    exact q r c _ ((e1.trans e2).trans e3) ((e1.trans e2).free nr) ⟨ms, 0, 0, 0, upd_same, e3 _ _ upd_same, ncr, Int.le_refl _, Int.le_refl _, Int.le_refl _⟩
abbrev s_draw : Stmt := top 21
abbrev N_draw : List Str := ["_law_feed_here", "_law_limit", "_law_digit_now", "_law_cell", "_law_mixed"]
theorem sc_draw : FnScope N_draw ["_law_feed_here", "_law_limit"] (defScope s_draw) := ⟨rfl, rfl, rfl, by decide +kernel, rfl, by decide +kernel, by decide +kernel⟩
def sp_draw : Sp := fun vs H Q _ => ∃ (r c : Addr) (n d : Int), vs = [.ref r, .int n] ∧ 0 < n ∧ n < 2 ^ 60 ∧ d ≤ 1000000 ∧ Fd H r c d ∧ ∀ z H', Cl r H H' → Fd H' r c (d + 1) → 0 ≤ z → z < n → Q (.int z) H'
theorem ok_draw {f : Addr} {fd : FuncData} {k : Nat} (F : Fun K "_law_draw" "_law_draw" s_draw f fd) (B : Blt mg) : FnOk P w K mg base CX0 (k + 1) f fd ["_law_feed_here", "_law_limit"] sp_draw := by
  refine F.ok sc_draw (fun vs H Q E h => ?_) (fun cdv A outer s H vs Q E hr h => ?_)
  · obtain ⟨_, _, _, _, rfl, _⟩ := h
    rfl
  · obtain ⟨r, c, n, d, rfl, hn, hn2, hd, ⟨ns, nx, rest, dr, h0, hc, ncr, hnx, hdr, hdd⟩, q⟩ := h
    have wd : CDivW 0 n := ⟨hn, by
      have := wide_div (i := 0) (j := n) (b := 60) hn (by omega) (by decide) (by decide)
      exact this.2⟩
    refine ⟨_, (pss_cons (ps_asg (pe_op op_add (pe_ix (i_list K) (pv 0) pe_int (fun _ _ => rfl)) pe_int) (pg_sub (pv 0) pe_int set_list))
      (pss_cons (ps_if (pt_cmpR op_gt (pe_ix (i_list K) (pv 0) pe_int (fun _ _ => rfl)) pe_int (nomark _)) (pss_cons (ps_set (i := 2) sc_draw.nd rfl (Or.inl rfl) (pe_op op_mod (pe_ix (i_list K) (pv 0) pe_int (fun _ _ => rfl)) (pv 1)))
      (pss_cons (ps_asg (pe_op op_fdivW (pe_ix (i_list K) (pv 0) pe_int (fun _ _ => rfl)) (pv 1)) (pg_sub (pv 0) pe_int set_list))
      (pss_one (ps_ret (pv 2))))) pss_nil)
      (pss_cons (ps_set (i := 3) sc_draw.nd rfl (Or.inl rfl) (pe_mid (pe_ifExp (pt_cmpR (o_neD K hr.units) (pe_ix (i_list K) (pv 0) pe_int (fun _ _ => rfl)) (pe_lst pa_nil) (nomark _)) (pe_ix (i_list K) (pe_ix (i_list K) (pv 0) pe_int (fun _ _ => rfl)) (pe_op op_mod (pe_ix (i_list K) (pv 0) pe_int (fun _ _ => rfl)) (pe_callB (c_len K) (by rfl) B.len (by decide +kernel) (pa_cons (pe_ix (i_list K) (pv 0) pe_int (fun _ _ => rfl)) pa_nil))) (fun _ _ => rfl)) pe_int)))
      (pss_cons (ps_asg (pe_op op_add (pe_ix (i_list K) (pv 0) pe_int (fun _ _ => rfl)) pe_int) (pg_sub (pv 0) pe_int set_list))
      (pss_cut (ps_if (PW.pt (pw_and (pt_cmpR op_ge (pv 3) (pe_op op_pow pe_int pe_int) (nomark _)) (pw_and1 (pt_cmpR op_le (pe_ix (i_list K) (pv 0) pe_int (fun _ _ => rfl)) (pe_callB (c_len K) (by rfl) B.len (by decide +kernel) (pa_cons (pe_ix (i_list K) (pv 0) pe_int (fun _ _ => rfl)) pa_nil)) (nomark _))))) (pss_cons (ps_asg (pe_op op_fdivW (pv 3) (pv 1)) (pg_sub (pv 0) pe_int set_list))
      (pss_one (ps_ret (pe_op op_mod (pv 3) (pv 1))))) pss_nil)
      (pss_cons (ps_set (i := 4) sc_draw.nd rfl (Or.inl rfl) (pe_op op_mod (pe_op op_pow (pe_op op_add (pe_op op_add (pe_op op_mod (pv 3) pe_int) (pe_op op_mul (pe_op op_mul pe_int (pe_ix (i_list K) (pv 0) pe_int (fun _ _ => rfl))) (pe_op op_add (pe_ix (i_list K) (pv 0) pe_int (fun _ _ => rfl)) pe_int))) pe_int) pe_int) pe_int))
      (pss_one (ps_ret (pe_op op_mod (pe_op op_fdivW (pe_op op_mod (pe_op op_pow (pe_op op_add (pe_op op_mul (pv 4) (pe_op op_add (pe_op op_mul pe_int (pe_ix (i_list K) (pv 0) pe_int (fun _ _ => rfl))) pe_int)) (pe_op op_mul pe_int (pe_ix (i_list K) (pv 0) pe_int (fun _ _ => rfl)))) pe_int) pe_int) pe_int) (pv 1)))))))))), ?_⟩
    refine ⟨_, rfl, r, _, 3, _, rfl, rfl, sl_ h0, atI_nat (j := 3) rfl, _, _, rfl, rfl, _, rfl, r, _, 3, 3, rfl, rfl, h0, rfl, ?_⟩
    have put : ∀ {H1 : Hp} {xs ys : List V}, H1 r = some (.lst xs) → Cl r H1 (upd H1 r (.lst ys)) ∧ (upd H1 r (.lst ys)) r = some (.lst ys) := fun {H1 xs ys} e => ⟨Cl.put e, upd_same⟩
    have p1 := put (ys := [.ref c, .int nx, .int rest, .int (dr + 1)]) h0
    change (fun H1 => _) (upd H r (.lst [.ref c, .int nx, .int rest, .int (dr + 1)]))
    obtain ⟨c1, h1⟩ := p1
    have hc1 := c1.lst ncr hc
    generalize upd H r (.lst [.ref c, .int nx, .int rest, .int (dr + 1)]) = H1 at c1 h1 hc1 ⊢
    refine ⟨_, rfl, r, _, 2, _, rfl, rfl, sl_ h1, atI_nat (j := 2) rfl, _, _, rfl, rfl, _, rfl, ite2 (fun _ => ?_) (fun _ => ?_)⟩
    · refine ⟨_, rfl, r, _, 2, _, rfl, rfl, sl_ h1, atI_nat (j := 2) rfl, _, rfl, _, _, rfl, rfl, hn, ?_⟩
      refine ⟨_, rfl, r, _, 2, _, rfl, rfl, sl_ h1, atI_nat (j := 2) rfl, _, rfl, _, _, rfl, rfl, wd, _, rfl, r, _, 2, 2, rfl, rfl, h1, rfl, _, rfl, ?_⟩
      exact q _ _ (c1.trans (Cl.put h1)) ⟨ns, nx, _, dr + 1, upd_same, (Cl.put h1).lst ncr hc1, ncr, hnx, by omega, by omega⟩ (Int.emod_nonneg _ (by omega)) (Int.emod_lt_of_pos _ hn)
    · refine ⟨fun v H' => ∃ cell : Int, v = .int cell ∧ Same H1 H', ?_, ?_⟩
      · refine ⟨_, rfl, r, _, 0, _, rfl, rfl, sl_ h1, atI_nat (j := 0) rfl, Nat.zero_le _, fun l nl => ⟨.list (ns.map .int), .list [], .lst (sl_ (same_upd nl _ _ hc1)) (dpInts ns), .lst (sl_ upd_same) .nil, shaped_ints ns, shaped_nil, _, rfl, ?_⟩⟩
        have e3 : Same H1 (upd H1 l (.lst [])) := same_upd nl
        rw [eqv_list_nil]
        refine ite2 (fun hne => ?_) (fun _ => ⟨31, rfl, e3⟩)
        have hlen : 0 < ns.length := by
          cases ns with
          | nil => exact absurd hne (by decide)
          | cons _ _ => exact Nat.succ_pos _
        have hm0 : 0 ≤ nx % (ns.length : Int) := Int.emod_nonneg _ (by omega)
        have hm1 : nx % (ns.length : Int) < (ns.length : Int) := Int.emod_lt_of_pos _ (by omega)
        obtain ⟨j, hj⟩ : ∃ j : Nat, nx % (ns.length : Int) = (j : Int) := ⟨(nx % (ns.length : Int)).toNat, by omega⟩
        have hjl : j < ns.length := by omega
        have h3 := e3 _ _ h1
        have hc3 := e3 _ _ hc1
        refine ⟨_, rfl, r, _, 0, _, rfl, rfl, sl_ h3, atI_nat (j := 0) rfl, _, rfl, r, _, 1, _, rfl, rfl, sl_ h3, atI_nat (j := 1) rfl, _, rfl, r, _, 0, _, rfl, rfl, sl_ h3, atI_nat (j := 0) rfl, c, _, rfl, .inl (sl_ hc3), _, _, rfl, rfl, by rw [List.length_map]; omega,
          c, ns.map V.int, _, .int ns[j], rfl, rfl, sl_ hc3, ?_, ns[j], rfl, e3⟩
        rw [List.length_map, hj]
        exact atI_nat (by rw [List.getElem?_map, List.getElem?_eq_getElem hjl]; rfl)
      · rintro v H2 ⟨cell, rfl, e3⟩
        have h2 := e3 _ _ h1
        have hc2 := e3 _ _ hc1
        refine ⟨_, rfl, r, _, 1, _, rfl, rfl, sl_ h2, atI_nat (j := 1) rfl, _, _, rfl, rfl, _, rfl, r, _, 1, 1, rfl, rfl, h2, rfl, ?_⟩
        change (fun H1 => _) (upd H2 r (.lst [.ref c, .int (nx + 1), .int rest, .int (dr + 1)]))
        obtain ⟨c3, h3⟩ := put (ys := [.ref c, .int (nx + 1), .int rest, .int (dr + 1)]) h2
        have hc3 := c3.lst ncr hc2
        have c4 := (c1.trans (Cl.of e3)).trans c3
        generalize upd H2 r (.lst [.ref c, .int (nx + 1), .int rest, .int (dr + 1)]) = H3 at c3 h3 hc3 c4 ⊢
        refine ⟨fun σ' H' => σ' = [some (.ref r), some (.int n), none, some (.int cell), none] ∧ H' = H3, ?_, ?_⟩
        · refine ⟨_, rfl, _, _, rfl, rfl, ⟨by decide, by decide, by decide⟩, _, _, rfl, rfl, _, rfl, ite2 (fun _ => ?_) (fun _ => iteF ⟨rfl, rfl⟩)⟩
          refine ⟨_, rfl, r, _, 1, _, rfl, rfl, sl_ h3, atI_nat (j := 1) rfl, _, rfl, r, _, 0, _, rfl, rfl, sl_ h3, atI_nat (j := 0) rfl, c, _, rfl, .inl (sl_ hc3), _, _, rfl, rfl, _, rfl, ite2 (fun _ => ?_) (fun _ => ⟨rfl, rfl⟩)⟩
          refine ⟨_, rfl, _, rfl, _, _, rfl, rfl, wd, _, rfl, r, _, 2, 2, rfl, rfl, h3, rfl, _, rfl, _, rfl, _, _, rfl, rfl, hn, ?_⟩
          exact q _ _ (c4.trans (Cl.put h3)) ⟨ns, nx + 1, _, dr + 1, upd_same, (Cl.put h3).lst ncr hc3, ncr, by omega, by omega, by omega⟩ (Int.emod_nonneg _ (by omega)) (Int.emod_lt_of_pos _ hn)
        · rintro σ' H' ⟨rfl, rfl⟩
          have g0 : 0 ≤ 137 * (dr + 1) * (dr + 1 + 3) := Int.mul_nonneg (by omega) (by omega)
          have g1 : 137 * (dr + 1) * (dr + 1 + 3) ≤ 137000137 * 1000004 := Int.mul_le_mul (by omega) (by omega) (by omega) (by omega)
          have a1 := Int.emod_nonneg cell (b := 1000005209) (by decide)
          have a2 := Int.emod_lt_of_pos cell (b := 1000005209) (by decide)
          refine ⟨_, rfl, _, _, rfl, rfl, (by decide : (0 : Int) < 1000005209), _, rfl, r, _, 3, _, rfl, rfl, sl_ h3, atI_nat (j := 3) rfl, _, _, rfl, rfl, .inl ⟨by decide, by decide⟩, _, rfl, r, _, 3, _, rfl, rfl, sl_ h3, atI_nat (j := 3) rfl, _, _, rfl, rfl, _, _, rfl, rfl, .inl ⟨by omega, by omega⟩, _, _, rfl, rfl, _, _, rfl, rfl, _, _, rfl, rfl, ⟨by decide, by decide, by omega⟩, _, _, rfl, rfl, (by decide : (0 : Int) < 2147483237), ?_⟩
          have b1 := Int.emod_nonneg ((cell % 1000005209 + 137 * (dr + 1) * (dr + 1 + 3) + 19) ^ (5 : Int).toNat) (b := 2147483237) (by decide)
          have b2 := Int.emod_lt_of_pos ((cell % 1000005209 + 137 * (dr + 1) * (dr + 1 + 3) + 19) ^ (5 : Int).toNat) (b := 2147483237) (by decide)
          have g2 := Int.mul_nonneg b1 (show 0 ≤ 2 * (dr + 1) + 7 by omega)
          have g3 := Int.mul_le_mul (Int.le_of_lt b2) (show 2 * (dr + 1) + 7 ≤ 2000009 by omega) (by omega) (by decide)
          refine ⟨_, rfl, _, rfl, r, _, 3, _, rfl, rfl, sl_ h3, atI_nat (j := 3) rfl, _, _, rfl, rfl, .inl ⟨by decide, by decide⟩, _, _, rfl, rfl, _, _, rfl, rfl, .inl ⟨by omega, by omega⟩, _, rfl, r, _, 3, _, rfl, rfl, sl_ h3, atI_nat (j := 3) rfl, _, _, rfl, rfl, .inl ⟨by decide, by decide⟩, _, _, rfl, rfl, _, _, rfl, rfl, ⟨by decide, by decide, by omega⟩, _, _, rfl, rfl, (by decide : (0 : Int) < 2147483179), _, _, rfl, rfl, ⟨by decide, by decide⟩, _, rfl, _, _, rfl, rfl, hn, ?_⟩
          exact q _ _ c4 ⟨ns, nx + 1, rest, dr + 1, h3, hc3, ncr, by omega, by omega, by omega⟩ (Int.emod_nonneg _ (by omega)) (Int.emod_lt_of_pos _ hn)
end
end K17

namespace Cb
open PySem PySem.Spec PyProof.Rows L2 PySem.W
section
variable {K : Frag} {tl : TE} {j : Nat} {vs : List Nat} {σ : Stt} {H : Hp} {Q : VK} {tt : TT} {F : Addr} {us : List V} {ts : List (List Str)}
/-- [t for t in found if ..], some of the crews found -/
theorem lcL_some (hl : ∀ R : VK, R (.ref F) H → tl σ H R) (hF : H F = some (.lst us)) (hp : Paired (S1 K H) us ts) (hn : us.length ≤ 1000) (hj : ∀ x, wipe ((wipe σ vs).set j (some x)) vs = wipe σ vs) (hv : ∀ x, ((wipe σ vs).set j (some x))[j]? = some (some x))
    (ht : ∀ x t, t ∈ ts → ∀ H1, Same H H1 → S1 K H1 x t → ∀ R : Bool → Hp → Prop, (∀ b H2, Same H1 H2 → R b H2) → tt ((wipe σ vs).set j (some x)) H1 R)
    (q : ∀ D ws wts H', H D = none → Same H H' → H' D = some (.lst ws) → Paired (S1 K H') ws wts → (∀ t ∈ wts, t ∈ ts) → Q (.ref D) H') : tLc (iList K tl) (gName j) tt (tVar j) vs σ H Q := by
  refine hl _ ⟨F, rfl, ⟨us, sl_ hF⟩, fun D nD => ?_⟩
  refine lc_list (K := K) (a := F) (xs := us) (fun i H' => Same H H' ∧ ∃ ws wts, H' D = some (.lst ws) ∧ Paired (S1 K H') ws wts ∧ ws.length ≤ i ∧ ∀ t ∈ wts, t ∈ ts) ⟨same_upd nD, [], [], upd_same, .nil, Nat.zero_le _, fun _ z => absurd z (by simp)⟩ (fun i H' _ z => sl_ (z.1 _ _ hF)) (fun i x H' hi z => ⟨hj x, ?_⟩) fun H' z => ?_
  · obtain ⟨e2, ws, wts, hw, hpw, hwi, hm⟩ := z
    obtain ⟨t, ht', hx⟩ := prd_getL hp hi
    have htm : t ∈ ts := List.mem_of_getElem? ht'
    have hil := (List.getElem?_eq_some_iff.mp hi).1
    refine ht x t htm H' e2 (hx.same e2) _ fun b H2 e3 => ?_
    cases b with
    | true =>
      rw [if_pos rfl]
      refine ⟨x, hv x, ws, e3 _ _ hw, big (by omega), same_mut (e2.trans e3) nD, ws ++ [x], wts ++ [t], upd_same, ?_, by simp; omega, fun u hu => ?_⟩
      · have f2 : Fx H2 (upd H2 D (.lst (ws ++ [x]))) := Fx.mut (e3 _ _ hw)
        exact prd_app (f2.s1s (prd_mono (fun _ _ z => z.same e3) hpw)) (.cons (f2.s1 (hx.same (e2.trans e3))) .nil)
      · rcases List.mem_append.mp hu with hu | hu
        · exact hm u hu
        · rw [List.mem_singleton.mp hu]
          exact htm
    | false =>
      rw [if_neg (by simp)]
      exact ⟨e2.trans e3, ws, wts, e3 _ _ hw, prd_mono (fun _ _ z => z.same e3) hpw, by omega, hm⟩
  · obtain ⟨e2, ws, wts, hw, hpw, hwi, hm⟩ := z
    exact q D ws wts H' nD e2 hw hpw hm
end
/-- for x in ..: if [..] op e: .. -/
theorem if_lc {i : Nat} {x : V} {σ : Stt} {H : Hp} {r : R2} {wi : TI} {g : TG} {tt : TT} {te tb : TE} {vs : List Nat} {D : Ends} {t1 t2 : TS}
    (h : tLc wi g tt te vs (σ.set i (some x)) H fun v H1 => tb (σ.set i (some x)) H1 fun y H2 => r v y H2 fun z H3 => ∃ c, z = .bl c ∧ if c = true then t1 D (σ.set i (some x)) H3 else t2 D (σ.set i (some x)) H3) :
    gName i x σ H fun σ2 H2 => tIfS (tTest (tOp r (tLc wi g tt te vs) tb)) t1 t2 D σ2 H2 := h
end Cb
namespace K17
open PySem PySem.Spec PyProof.Rows L2 PySem.W Cb Evl
def pool : List Str := ["ann", "bo", "cy", "d", "eve", "longname", "m", "z"]
theorem pool_ok : ∀ n ∈ pool, okS n := by
  intro n hn
  have h : (pool.all fun n => PyData.strOk n && decide ((reprText n).length ≤ 20)) = true := by decide +kernel
  have h2 := List.all_eq_true.mp h n hn
  simp only [Bool.and_eq_true, decide_eq_true_eq] at h2
  exact h2
/-- a set of people as the law makes it -/
def Pt (t : List Str) : Prop := t ≠ [] ∧ t.length ≤ 8 ∧ ∀ n ∈ t, n ∈ pool
theorem Pt.ok {t : List Str} (h : Pt t) : t ≠ [] ∧ t.length ≤ 8 ∧ ∀ n ∈ t, okS n := ⟨h.1, h.2.1, fun n hn => pool_ok n (h.2.2 n hn)⟩
section
variable {P : Program} {w : World} {K : Frag} {mg : Str → Option Value} {base : Heap}
/-! ### one of some -/
abbrev s_choice : Stmt := top 22
theorem sc_choice : FnScope ["_law_feed_here", "_law_some"] ["_law_feed_here", "_law_some"] (defScope s_choice) := ⟨rfl, rfl, rfl, by decide +kernel, rfl, by decide +kernel, by decide +kernel⟩
def sp_choiceT (K : Frag) : Sp := fun vs H Q _ => ∃ (r c t : Addr) (d : Int) (xs : List V), vs = [.ref r, .ref t] ∧ SqT K H t xs ∧ xs ≠ [] ∧ xs.length ≤ 1000 ∧ d ≤ 1000000 ∧ Fd H r c d ∧ ∀ (i : Nat) (x : V) (H' : Hp), Cl r H H' → Fd H' r c (d + 1) → xs[i]? = some x → Q x H'
theorem ok_choiceT {f : Addr} {fd : FuncData} {k : Nat} (F : Fun K "_law_choice" "_law_choice" s_choice f fd) (B : Blt mg) (D__law_draw : Own P w K mg base 1 "_law_draw" ["_law_feed_here", "_law_limit"] sp_draw) : FnOk P w K mg base CX0 (k + 2) f fd ["_law_feed_here", "_law_some"] (sp_choiceT K) := by
  refine F.ok sc_choice (fun vs H Q E h => ?_) (fun cdv A outer s H vs Q E hr h => ?_)
  · obtain ⟨_, _, _, _, _, rfl, _⟩ := h
    rfl
  · obtain ⟨r, c, t, d, xs, rfl, ht, ne, hl, hd, hF, q⟩ := h
    have hr1 : Room 1 _ := hr.mono (by omega)
    refine ⟨_, (pss_one (ps_ret (pe_ix (i_tup K) (pv 1) (pe_call D__law_draw.G hr1 rfl D__law_draw.m D__law_draw.kp D__law_draw.b .nil pass0 (pa_cons (pv 0) (pa_cons (pe_callB (c_len K) (by rfl) B.len (by decide +kernel) (pa_cons (pv 1) pa_nil)) pa_nil))) (fun _ _ => rfl)))), ?_⟩
    have pos := List.length_pos_iff.mpr ne
    refine ⟨_, rfl, _, rfl, _, rfl, t, xs, rfl, .inr ht, r, c, xs.length, d, rfl, by omega, by omega, by omega, hF, fun z H1 c1 g1 z0 z1 => ?_⟩
    obtain ⟨j, rfl⟩ : ∃ j : Nat, z = (j : Int) := ⟨z.toNat, by omega⟩
    have jl : j < xs.length := by omega
    exact ⟨t, xs, j, xs[j], rfl, rfl, c1.sqT ht, atI_nat (List.getElem?_eq_getElem jl), q j xs[j] H1 c1 g1 (List.getElem?_eq_getElem jl)⟩
def sp_choiceL (K : Frag) : Sp := fun vs H Q _ => ∃ (r c t : Addr) (d : Int) (xs : List V), vs = [.ref r, .ref t] ∧ H t = some (.lst xs) ∧ t ≠ r ∧ xs ≠ [] ∧ xs.length ≤ 1000 ∧ d ≤ 1000000 ∧ Fd H r c d ∧ ∀ (i : Nat) (x : V) (H' : Hp), Cl r H H' → Fd H' r c (d + 1) → xs[i]? = some x → Q x H'
theorem ok_choiceL {f : Addr} {fd : FuncData} {k : Nat} (F : Fun K "_law_choice" "_law_choice" s_choice f fd) (B : Blt mg) (D__law_draw : Own P w K mg base 1 "_law_draw" ["_law_feed_here", "_law_limit"] sp_draw) : FnOk P w K mg base CX0 (k + 2) f fd ["_law_feed_here", "_law_some"] (sp_choiceL K) := by
  refine F.ok sc_choice (fun vs H Q E h => ?_) (fun cdv A outer s H vs Q E hr h => ?_)
  · obtain ⟨_, _, _, _, _, rfl, _⟩ := h
    rfl
  · obtain ⟨r, c, t, d, xs, rfl, ht, tr, ne, hl, hd, hF, q⟩ := h
    have hr1 : Room 1 _ := hr.mono (by omega)
    refine ⟨_, (pss_one (ps_ret (pe_ix (i_list K) (pv 1) (pe_call D__law_draw.G hr1 rfl D__law_draw.m D__law_draw.kp D__law_draw.b .nil pass0 (pa_cons (pv 0) (pa_cons (pe_callB (c_len K) (by rfl) B.len (by decide +kernel) (pa_cons (pv 1) pa_nil)) pa_nil))) (fun _ _ => rfl)))), ?_⟩
    have pos := List.length_pos_iff.mpr ne
    refine ⟨_, rfl, _, rfl, _, rfl, t, xs, rfl, .inl (sl_ ht), r, c, xs.length, d, rfl, by omega, by omega, by omega, hF, fun z H1 c1 g1 z0 z1 => ?_⟩
    obtain ⟨j, rfl⟩ : ∃ j : Nat, z = (j : Int) := ⟨z.toNat, by omega⟩
    have jl : j < xs.length := by omega
    exact ⟨t, xs, j, xs[j], rfl, rfl, sl_ (c1.lst tr ht), atI_nat (List.getElem?_eq_getElem jl), q j xs[j] H1 c1 g1 (List.getElem?_eq_getElem jl)⟩
/-! ### is one within the other -/
abbrev s_part : Stmt := top 25
abbrev N_part : List Str := ["_law_some", "_law_others", "_law_one"]
theorem sc_part : FnScope N_part ["_law_some", "_law_others"] (defScope s_part) := ⟨rfl, rfl, rfl, by decide +kernel, rfl, by decide +kernel, by decide +kernel⟩
theorem nc_has (o c : List Str) : (nc o c).isEmpty = has o c := by
  unfold nc has
  induction c with
  | nil => rfl
  | cons x c ih =>
    rw [List.all_cons]
    cases h : isIn x o with
    | true =>
      rw [List.filter_cons_of_neg (by simp [h]), ih]
      rfl
    | false =>
      rw [List.filter_cons_of_pos (by simp [h])]
      rfl
def sp_part (K : Frag) : Sp := fun vs H Q _ => ∃ (x y : V) (a b : List Str), vs = [x, y] ∧ S1 K H x a ∧ S1 K H y b ∧ a.length ≤ 1000 ∧ (∀ n ∈ a, okS n) ∧ ∀ H', Same H H' → Q (.bl (has b a)) H'
theorem ok_part {f : Addr} {fd : FuncData} {k : Nat} (F : Fun K "_law_is_part" "_law_is_part" s_part f fd) : FnOk P w K mg base CX0 (k + 1) f fd ["_law_some", "_law_others"] (sp_part K) := by
  refine F.ok sc_part (fun vs H Q E h => ?_) (fun cdv A outer s H vs Q E hr h => ?_)
  · obtain ⟨_, _, _, _, rfl, _⟩ := h
    rfl
  · obtain ⟨x, y, c, o, rfl, ⟨a, rfl, hc⟩, ⟨b, rfl, ho⟩, hl, okc, q⟩ := h
    refine ⟨_, (pss_one (ps_ret (pe_cmpR (o_eqD K hr.units) (pe_lc (own := [("_law_one", 2)]) (g := gName 2) rfl sc_part.nd (p_tup K (pv 0)) (blkOk_by (own := [("_law_one", 2)]) (N := N_part) (sc := defScope s_part) (by decide +kernel)) (fun _ _ _ _ _ => (pg_name (i := 2) sc_part.nd rfl (Or.inl rfl)))
      (fun _ _ _ _ _ => (pts_one (pt_cmpR (o_nin K) (pv 2) (pv 1) rfl))) (fun _ _ _ _ _ => (pv 2))) (pe_lst pa_nil) (nomark _)))), ?_⟩
    unfold tRet tOp
    refine lcT_filter (xs := c.map V.str) (fun v => match v with | .str p => !isIn p o | _ => false) id (fun R hR => ⟨_, rfl, hR a H (Same.refl H) hc⟩) (by rw [List.length_map]; omega) (fun _ => rfl) (fun v hv H1 e1 R hR => ?_) (fun v hv _ H1 e1 R hR => ⟨v, rfl, hR H1 (Same.refl H1)⟩) fun D H' hD e hH => ?_
    · obtain ⟨p, _, rfl⟩ := List.mem_map.mp hv
      exact ⟨_, rfl, _, rfl, b, _, rfl, .inr (sameT e1 ho), rfl, flat_strs o, _, rfl, by rw [inV_strs]; exact hR⟩
    · have e2 : ((c.map V.str).filter (fun v => match v with | .str p => !isIn p o | _ => false)).map id = (nc o c).map V.str := by
        rw [List.map_id, List.filter_map]
        rfl
      rw [e2] at hH
      refine ⟨Nat.zero_le _, fun l nl => ⟨.list ((nc o c).map .str), .list [], .lst (sl_ (same_upd nl _ _ hH)) (dpStrs _), .lst (sl_ upd_same) .nil, shaped_strs (ok_nc okc), shaped_nil, ?_⟩⟩
      rw [eqv_strs_nil, nc_has]
      exact q _ (e.trans (same_upd nl))
/-! ### those that contain no other -/
abbrev s_min : Stmt := top 26
abbrev N_min : List Str := ["_law_sets", "_law_found", "_law_some", "_law_one"]
theorem sc_min : FnScope N_min ["_law_sets"] (defScope s_min) := ⟨rfl, rfl, rfl, by decide +kernel, rfl, by decide +kernel, by decide +kernel⟩
def sp_min (K : Frag) : Sp := fun vs H Q _ => ∃ (l : Addr) (xs : List V) (ts : List (List Str)), vs = [.ref l] ∧ SqL K H l xs ∧ Paired (S1 K H) xs ts ∧ ts.length < 64 ∧ ts ≠ [] ∧ (∀ t ∈ ts, Pt t) ∧
  ∀ v us H', Same H H' → S2 K H' v us → us ≠ [] → us.length ≤ 12 → (∀ t ∈ us, Pt t) → Q v H'
theorem ok_min {f : Addr} {fd : FuncData} {k : Nat} (F : Fun K "_law_minimal" "_law_minimal" s_min f fd) (B : Blt mg) (bs : mg "set" = none) (D__law_is_part : Own P w K mg base 1 "_law_is_part" ["_law_some", "_law_others"] (sp_part K)) : FnOk P w K mg base CX0 (k + 2) f fd ["_law_sets"] (sp_min K) := by
  refine F.ok sc_min (fun vs H Q E h => ?_) (fun cdv A outer s H vs Q E hr h => ?_)
  · obtain ⟨_, _, _, rfl, _⟩ := h
    rfl
  · obtain ⟨l, xs, ts, rfl, hl, hp, few, tne, hpt, q⟩ := h
    have hr1 : Room 1 _ := hr.mono (by omega)
    refine ⟨_, (pss_cons (ps_set (i := 1) sc_min.nd rfl (Or.inl rfl) (pe_lst pa_nil))
      (pss_cons (ps_for PassesOwn.never rfl (p_list K (show PE _ _ (tSrtLen K _) from pe_srtLen hr.units B.sorted B.len (by rfl) (by rfl) (pe_callB (c_srtTs K P w rfl hr.units) (by rfl) B.sorted (by decide +kernel) (pa_cons (pe_callTy (c_setTs K P w rfl hr.units) (by rfl) bs (by decide +kernel) (pa_cons (pv 0) pa_nil)) pa_nil)))) (pg_name (i := 2) sc_min.nd rfl (Or.inr rfl))
      (pss_one (ps_if (pt_cmpR (o_eqD K hr.units) (pe_lc (own := [("_law_one", 3)]) (g := gName 3) rfl sc_min.nd (p_list K (pv 1)) (blkOk_by (own := [("_law_one", 3)]) (N := N_min) (sc := defScope s_min) (by decide +kernel)) (fun _ _ _ _ _ => (pg_name (i := 3) sc_min.nd rfl (Or.inl rfl))) (fun _ _ _ _ _ => (pts_one (pt_val (pe_call D__law_is_part.G hr1 rfl D__law_is_part.m D__law_is_part.kp D__law_is_part.b .nil pass0 (pa_cons (pv 3) (pa_cons (pv 2) pa_nil)))))) (fun _ _ _ _ _ => (pv 3))) (pe_lst pa_nil) (nomark _)) (pss_one (ps_expr (pe_bm PySem.F.plainAttrs_list PySem.F.slot_list_append PySem.F.type_list_append mt_append (pv 1) (pa_cons (pv 2) pa_nil)))) pss_nil)))
      (pss_one (ps_ret (pe_callTy (c_tuple K) (by rfl) B.tuple (by decide +kernel) (pa_cons (pe_callB (c_srt K hr.units) (by rfl) B.sorted (by decide +kernel) (pa_cons (pe_slice (s_list K) (pv 1) po_none (po_some pe_int)) pa_nil)) pa_nil)))))), ?_⟩
    refine sq_lst fun F0 nF => ?_
    have s1 : Same H (upd H F0 (.lst [])) := same_upd nF
    refine sq_for ?_
    refine ⟨_, rfl, l, xs, ts, rfl, s1.seq hl, prd_mono (fun _ _ z => z.same s1) hp, few, fun a L na sqL nd mem ll => ?_⟩
    have s2 := s1.trans (same_upd (o := TsO P w a L) na)
    have inL : ∀ p ∈ L, Pt p.2 := fun p hp => hpt _ ((mem p.2).mp (List.mem_map.mpr ⟨p, hp, rfl⟩))
    refine ⟨a, L, rfl, upd_same, fun p hp => sameT (same_upd na) (sqL p hp), fun p hp => (inL p hp).1, fun p ys us np pus hys => ?_⟩
    have s3 := s2.trans (same_upd (o := .lst ys) np)
    obtain ⟨zs, rfl, ez, hz⟩ := prd_fst hys
    have zlen : zs.length = L.length := by
      have e1 := congrArg List.length ez
      rw [List.length_map, (srtT_perm us).length_eq, pus.length_eq, List.length_map] at e1
      exact e1
    have zpt : ∀ b ∈ zs, Pt b.2 := fun b hb => by
      have m1 : b.2 ∈ srtT us := by
        rw [← ez]
        exact List.mem_map.mpr ⟨b, hb, rfl⟩
      have m2 := pus.mem_iff.mp ((srtT_perm us).mem_iff.mp m1)
      obtain ⟨p, hp, e⟩ := List.mem_map.mp m2
      rw [← e]
      exact inL p hp
    have lpos : 0 < L.length := by
      obtain ⟨t0, ht0⟩ := List.exists_mem_of_ne_nil _ tne
      obtain ⟨p, hp, _⟩ := List.mem_map.mp ((mem t0).mpr ht0)
      exact List.length_pos_of_mem hp
    refine ⟨p, zs, rfl, sl_ upd_same, fun b hb => (hz b hb).same (same_upd np), fun p2 np2 => ?_⟩
    have s4 := s3.trans (same_upd (o := .lst ((zs.mergeSort (dataLe false fun b : V × List Str => PyData.int b.2.length)).map (·.1))) np2)
    have zin : ∀ b ∈ zs.mergeSort (dataLe false fun b : V × List Str => PyData.int b.2.length), b ∈ zs := fun b hb => List.mem_mergeSort.mp hb
    have zl2 : (zs.mergeSort (dataLe false fun b : V × List Str => PyData.int b.2.length)).length = L.length := by rw [List.length_mergeSort, zlen]
    have stand : ∀ b ∈ zs, S1 K (upd (upd (upd (upd H F0 (.lst [])) a (TsO P w a L)) p (.lst (zs.map (·.1)))) p2 (.lst ((zs.mergeSort (dataLe false fun b : V × List Str => PyData.int b.2.length)).map (·.1)))) b.1 b.2 := fun b hb => ((hz b hb).same (same_upd np)).same (same_upd np2)
    have hF2 : (upd (upd (upd (upd H F0 (.lst [])) a (TsO P w a L)) p (.lst (zs.map (·.1)))) p2 (.lst ((zs.mergeSort (dataLe false fun b : V × List Str => PyData.int b.2.length)).map (·.1)))) F0 = some (.lst []) := same_upd np2 _ _ (same_upd np _ _ (same_upd na _ _ upd_same))
    have hP2 : (upd (upd (upd (upd H F0 (.lst [])) a (TsO P w a L)) p (.lst (zs.map (·.1)))) p2 (.lst ((zs.mergeSort (dataLe false fun b : V × List Str => PyData.int b.2.length)).map (·.1)))) p2 = some (.lst ((zs.mergeSort (dataLe false fun b : V × List Str => PyData.int b.2.length)).map (·.1))) := upd_same
    have nF2 : p2 ≠ F0 := fun e => by
      rw [e, same_upd np _ _ (same_upd na _ _ upd_same)] at np2
      cases np2
    generalize zs.mergeSort (dataLe false fun b : V × List Str => PyData.int b.2.length) = bs2 at zin zl2 s4 stand hF2 hP2
    generalize upd (upd (upd (upd H F0 (.lst [])) a (TsO P w a L)) p (.lst (zs.map (·.1)))) p2 (.lst (bs2.map (·.1))) = H5 at s4 stand hF2 hP2
    refine ⟨p2, rfl, ⟨_, sl_ hP2⟩, for_list (xs := bs2.map (·.1)) (fun i σ' H' => ∃ (v2 : Option V) (ws : List V) (wts : List (List Str)), σ' = [some (.ref l), some (.ref F0), v2, none] ∧ Same H H' ∧ H' p2 = some (.lst (bs2.map (·.1))) ∧ (∀ b ∈ zs, S1 K H' b.1 b.2) ∧ H' F0 = some (.lst ws) ∧ Paired (S1 K H') ws wts ∧ wts.length ≤ i ∧ (∀ t ∈ wts, Pt t) ∧ (0 < i → wts ≠ []))
      ⟨none, [], [], rfl, s4, hP2, stand, hF2, .nil, Nat.zero_le _, fun _ z => absurd z (by simp), fun z => absurd z (by simp)⟩ (fun i σ' H' _ z => ?_) (fun i x σ' H' hi z => ?_) fun σ' H' z => ?_⟩
    · obtain ⟨_, _, _, rfl, z⟩ := z
      exact sl_ z.2.1
    · obtain ⟨v2, ws, wts, rfl, k1, k2, k3, k4, k5, k6, k7, k8⟩ := z
      rw [List.getElem?_map] at hi
      obtain ⟨b, hb, rfl⟩ := Option.map_eq_some_iff.mp hi
      have bz := zin b (List.mem_of_getElem? hb)
      have hb1 := k3 b bz
      have pb := zpt b bz
      have il := (List.getElem?_eq_some_iff.mp hb).1
      have wl := prd_len k5
      refine if_lc ?_
      refine lcL_some (K := K) (tl := tVar 1) (j := 3) (vs := [3]) (σ := [some (.ref l), some (.ref F0), some b.1, none]) (F := F0) (us := ws) (ts := wts) (fun R hR => ⟨_, rfl, hR⟩) k4 k5 (by omega) (fun _ => rfl) (fun _ => rfl) (fun y u hu H6 e6 hy R hR => ?_) fun D ys2 yts H6 nD e6 hD hyp hsub => ?_
      · have pu := k7 u hu
        exact ⟨_, rfl, _, rfl, y, b.1, u, b.2, rfl, hy, hb1.same e6, by have := pu.2.1; omega, pu.ok.2.2, fun H7 e7 => ⟨_, rfl, hR _ H7 e7⟩⟩
      · have oky : ∀ t ∈ yts, ∀ n ∈ t, okS n := fun t ht => (k7 t (hsub t ht)).ok.2.2
        refine ⟨Nat.zero_le _, fun l9 nl9 => ⟨.list (yts.map sD), .list [], .lst (sl_ (same_upd nl9 _ _ hD)) (s1s_dp (prd_mono (fun _ _ z => z.same (same_upd nl9)) hyp)), .lst (sl_ upd_same) .nil, shaped_teams oky, shaped_nil, _, rfl, ?_⟩⟩
        rw [eqv_list_nil]
        have e7 : Same H' (upd H6 l9 (.lst [])) := e6.trans (same_upd nl9)
        generalize upd H6 l9 (.lst []) = H7 at e7
        refine ite2 (fun _ => ?_) (fun hne => ?_)
        · refine ⟨_, rfl, .inl ⟨rfl, _, SqL.of (e7 _ _ k4)⟩, _, rfl, F0, ws, _, rfl, rfl, e7 _ _ k4, big (by omega), ?_⟩
          have f8 : Fx H7 (upd H7 F0 (.lst (ws ++ [b.1]))) := Fx.mut (e7 _ _ k4)
          have f9 := (Fx.of e7).trans f8
          refine ⟨some b.1, ws ++ [b.1], wts ++ [b.2], rfl, same_mut (k1.trans e7) nF, by rw [upd_ne nF2]; exact e7 _ _ k2, fun c hc => f9.s1 (k3 c hc), upd_same, prd_app (f9.s1s k5) (.cons (f9.s1 hb1) .nil), by simp; omega, fun t ht => ?_, fun _ z => by simp at z⟩
          rcases List.mem_append.mp ht with ht | ht
          · exact k7 t ht
          · rw [List.mem_singleton.mp ht]
            exact pb
        · refine ⟨some b.1, ws, wts, rfl, k1.trans e7, e7 _ _ k2, fun c hc => (k3 c hc).same e7, e7 _ _ k4, prd_mono (fun _ _ z => z.same e7) k5, by omega, k7, fun _ z => ?_⟩
          subst z
          cases yts with
          | nil => exact hne rfl
          | cons u _ => exact absurd (hsub u List.mem_cons_self) (by simp)
    · obtain ⟨v2, ws, wts, rfl, k1, k2, k3, k4, k5, k6, k7, k8⟩ := z
      rw [List.length_map] at k6 k8
      have wl := prd_len k5
      refine ⟨_, rfl, ?_⟩
      unfold tNoPart
      refine ⟨12, rfl, F0, ws, rfl, sl_ k4, fun p3 np3 => ?_⟩
      have e3 := same_upd (o := .lst (cutV ws none (some 12))) np3
      have hcut : Paired (S1 K (upd H' p3 (.lst (cutV ws none (some 12))))) (cutV ws none (some 12)) ((wts.drop (HT.sIx ws.length 0 none)).take (HT.sIx ws.length ws.length (some 12) - HT.sIx ws.length 0 none)) :=
        prd_mono (fun _ _ z => z.same e3) (prd_take _ (prd_drop _ k5))
      have e12 : HT.sIx ws.length ws.length (some 12) = min 12 ws.length := HT.sIx_nat ws.length ws.length 12
      rw [e12, HT.sIx_none] at hcut
      have sub3 : ∀ t ∈ (wts.drop 0).take (min 12 ws.length - 0), Pt t := fun t ht => k7 t (List.mem_of_mem_drop (List.mem_of_mem_take ht))
      unfold tNil
      show rSrt K [.ref p3] _ _
      refine srt_teams (sl_ upd_same) hcut (fun t ht => (sub3 t ht).1) fun p4 ys4 np4 hps => ⟨p4, _, rfl, .inl ⟨sl_ upd_same, fun t nt => ?_⟩⟩
      have s8 := (same_upd (o := .lst ys4) np4).trans (same_upd (o := .tup ys4) nt)
      have wne := k8 (by omega)
      have wpos := List.length_pos_iff.mpr wne
      refine q (.ref t) _ _ ((k1.trans e3).trans s8) ⟨t, ys4, rfl, st_ upd_same, prd_mono (fun _ _ z => z.same s8) hps⟩ (fun e => ?_) ?_ fun u hu => sub3 u ((srtT_perm _).mem_iff.mp hu)
      · have e5 := congrArg List.length e
        rw [(srtT_perm _).length_eq, List.length_take, List.length_drop] at e5
        rw [List.length_nil] at e5
        omega
      · rw [(srtT_perm _).length_eq, List.length_take]
        omega
end
end K17

namespace K17
open PySem PySem.Spec PyProof.Rows L2 PySem.W Cb Evl
theorem putK_keys {κ : Type} [DecidableEq κ] (kvs : List (κ × V)) (k : κ) (v : V) : (putK kvs k v).map (·.1) = if k ∈ kvs.map (·.1) then kvs.map (·.1) else kvs.map (·.1) ++ [k] := by
  unfold putK
  have e : (kvs.any fun kv => decide (kv.1 = k)) = decide (k ∈ kvs.map (·.1)) := by
    rw [Bool.eq_iff_iff]
    simp only [List.any_eq_true, decide_eq_true_eq, List.mem_map]
  rw [e]
  by_cases h : k ∈ kvs.map (·.1)
  · rw [if_pos (by simpa using h), if_pos h, List.map_map]
    refine List.map_congr_left fun kv _ => ?_
    show (if kv.1 = k then (kv.1, v) else kv).1 = kv.1
    split <;> rfl
  · rw [if_neg (by simpa using h), if_neg h, List.map_append]
    rfl
theorem rising_pair : ∀ {r : List Str} {p : Str}, risingS p r = true → (∀ y ∈ r, p.cps.toList ≤ y.cps.toList) ∧ r.Pairwise fun a b => a.cps.toList ≤ b.cps.toList
  | [], p, _ => ⟨fun y h => absurd h (by simp), .nil⟩
  | x :: r, p, h => by
    have h2 : (!ltCps x.cps.toList p.cps.toList && risingS x r) = true := h
    rw [Bool.and_eq_true, Bool.not_eq_true'] at h2
    obtain ⟨h3, h4⟩ := rising_pair h2.2
    have px : p.cps.toList ≤ x.cps.toList := by
      have h5 := h2.1
      rw [ltCps_eq, decide_eq_false_iff_not] at h5
      exact List.not_lt.mp h5
    refine ⟨fun y hy => ?_, List.pairwise_cons.mpr ⟨h3, h4⟩⟩
    rcases List.mem_cons.mp hy with e | hy
    · rw [e]
      exact px
    · exact List.le_trans px (h3 y hy)
theorem sorted_once {l ks : List Str} (so : sortedS ks = true) (nd : ks.Nodup) (h : ∀ x, x ∈ ks ↔ x ∈ l) : ks = once l := by
  rw [← once_eq nd h]
  have hp : ks.Pairwise fun a b => a.cps.toList ≤ b.cps.toList := by
    cases ks with
    | nil => exact .nil
    | cons x r =>
      obtain ⟨h1, h2⟩ := rising_pair (show risingS x r = true from so)
      exact List.pairwise_cons.mpr ⟨h1, h2⟩
  exact pair_eq (srt_perm ks).symm hp (srt_le ks)
section
variable {P : Program} {w : World} {K : Frag} {mg : Str → Option Value} {base : Heap}
/-! ### the people of the crews, by a dict -/
abbrev s_folk : Stmt := top 24
abbrev N_folk : List Str := ["_law_teams_here", "_law_found", "_law_team", "_law_name"]
theorem sc_folk : FnScope N_folk ["_law_teams_here"] (defScope s_folk) := ⟨rfl, rfl, rfl, by decide +kernel, rfl, by decide +kernel, by decide +kernel⟩
def sp_folk (K : Frag) : Sp := fun vs H Q _ => ∃ (x : V) (ts : List (List Str)), vs = [x] ∧ S2 K H x ts ∧ ts.length ≤ 12 ∧ (∀ t ∈ ts, Pt t) ∧ ∀ v H', Same H H' → S1 K H' v (folk ts) → (folk ts).length ≤ 8 → Q v H'
theorem ok_folk {f : Addr} {fd : FuncData} {k : Nat} (F : Fun K "_law_folk" "_law_folk" s_folk f fd) (B : Blt mg) : FnOk P w K mg base CX0 (k + 1) f fd ["_law_teams_here"] (sp_folk K) := by
  refine F.ok sc_folk (fun vs H Q E h => ?_) (fun cdv A outer s H vs Q E hr h => ?_)
  · obtain ⟨_, _, rfl, _⟩ := h
    rfl
  · obtain ⟨x, ts, rfl, ⟨a, xs, rfl, ha, hp⟩, hl, hpt, q⟩ := h
    refine ⟨_, (pss_cons (ps_set (i := 1) sc_folk.nd rfl (Or.inl rfl) pe_dnewK)
      (pss_cons (ps_for PassesOwn.never rfl (p_tup K (pv 0)) (pg_name (i := 2) sc_folk.nd rfl (Or.inl rfl))
      (pss_one (ps_for PassesOwn.never rfl (p_tup K (pv 2)) (pg_name (i := 3) sc_folk.nd rfl (Or.inl rfl))
      (pss_one (ps_dput (hu_of hr) (pv 1) (pv 3) pe_bl rfl)))))
      (pss_one (ps_ret (pe_callTy (c_tuple K) (by rfl) B.tuple (by decide +kernel) (pa_cons (pe_callB (call_sortedD rfl) (by rfl) B.sorted (by decide +kernel) (pa_cons (pv 1) pa_nil)) pa_nil)))))), ?_⟩
    have hxl := prd_len hp
    have inpool : ∀ n, n ∈ ts.flatten → n ∈ pool := fun n hn => by
      obtain ⟨t, ht, hn⟩ := List.mem_flatten.mp hn
      exact (hpt t ht).2.2 n hn
    refine sq_set fun D nD => ?_
    have s1 : Same H (upd H D (.dK [])) := same_upd nD
    refine sq_for ?_
    refine ⟨_, rfl, a, rfl, ⟨xs, sameT s1 ha⟩, for_tup (xs := xs) (fun i σ' H' => ∃ (v2 v3 : Option V) (kvs : List (Key × V)) (ks : List Str), σ' = [some (.ref a), some (.ref D), v2, v3] ∧ Same H H' ∧ H' D = some (.dK kvs) ∧ kvs.map (·.1) = ks.map Sum.inr ∧ ks.Nodup ∧ ∀ n, n ∈ ks ↔ n ∈ (ts.take i).flatten)
      ⟨none, none, [], [], rfl, s1, upd_same, rfl, .nil, fun n => by simp⟩ (fun i σ' H' _ z => ?_) (fun i x σ' H' hi z => ?_) fun σ' H' z => ?_⟩
    · obtain ⟨_, _, _, _, _, e, _⟩ := z
      exact sameT e ha
    · obtain ⟨v2, v3, kvs, ks, rfl, e1, hD, hk, nd, hm⟩ := z
      obtain ⟨t, ht, hx⟩ := prd_getL hp hi
      have htm := List.mem_of_getElem? ht
      obtain ⟨b, rfl, hb⟩ := hx
      refine ⟨_, rfl, b, rfl, ⟨_, sameT e1 hb⟩, for_tup (xs := t.map V.str) (fun j σ' H' => ∃ (v3 : Option V) (kvs : List (Key × V)) (ks : List Str), σ' = [some (.ref a), some (.ref D), some (.ref b), v3] ∧ Same H H' ∧ H' D = some (.dK kvs) ∧ kvs.map (·.1) = ks.map Sum.inr ∧ ks.Nodup ∧ ∀ n, n ∈ ks ↔ n ∈ (ts.take i).flatten ∨ n ∈ t.take j)
        ⟨v3, kvs, ks, rfl, e1, hD, hk, nd, fun n => by rw [hm]; simp⟩ (fun j σ' H' _ z => ?_) (fun j y σ' H' hj z => ?_) fun σ' H' z => ?_⟩
      · obtain ⟨_, _, _, _, e, _⟩ := z
        exact sameT e hb
      · obtain ⟨v3, kvs, ks, rfl, e2, hD, hk, nd, hm⟩ := z
        rw [List.getElem?_map] at hj
        obtain ⟨n, hn, rfl⟩ := Option.map_eq_some_iff.mp hj
        have kl : ks.length ≤ pool.length := nodup_le nd fun m hm2 => by
          rcases (hm m).mp hm2 with z | z
          · obtain ⟨u, hu, hmu⟩ := List.mem_flatten.mp z
            exact (hpt u (List.mem_of_mem_take hu)).2.2 m hmu
          · exact (hpt t htm).2.2 m (List.mem_of_mem_take z)
        have kl8 : ks.length ≤ 8 := kl
        have kvl : kvs.length = ks.length := by
          have := congrArg List.length hk
          rwa [List.length_map, List.length_map] at this
        refine ⟨_, rfl, _, rfl, D, _, rfl, DPut.k (k := .inr n) hD (big (by omega)), some (.str n), _, if n ∈ ks then ks else ks ++ [n], rfl, same_mut e2 nD, upd_same, ?_, ?_, fun m => ?_⟩
        · have inj : (Sum.inr n : Key) ∈ ks.map Sum.inr ↔ n ∈ ks := by
            rw [List.mem_map]
            exact ⟨fun ⟨u, hu, e⟩ => by cases e; exact hu, fun hu => ⟨n, hu, rfl⟩⟩
          rw [putK_keys, hk]
          by_cases c : n ∈ ks
          · rw [if_pos (inj.mpr c), if_pos c]
          · rw [if_neg (fun z => c (inj.mp z)), if_neg c, List.map_append]
            rfl
        · by_cases c : n ∈ ks
          · rw [if_pos c]
            exact nd
          · rw [if_neg c]
            exact List.nodup_append.mpr ⟨nd, by simp, fun u hu v hv e => c (by rw [List.mem_singleton.mp hv] at e; rw [← e]; exact hu)⟩
        · rw [take_snoc hn, List.mem_append, List.mem_singleton, ← or_assoc, ← hm]
          by_cases c : n ∈ ks
          · rw [if_pos c]
            exact ⟨.inl, fun z => z.elim id fun e => e ▸ c⟩
          · rw [if_neg c, List.mem_append, List.mem_singleton]
      · obtain ⟨v3, kvs, ks, rfl, e2, hD, hk, nd, hm⟩ := z
        refine ⟨some (.ref b), v3, kvs, ks, rfl, e2, hD, hk, nd, fun n => ?_⟩
        rw [hm, List.length_map, List.take_length, take_snoc ht]
        simp
    · obtain ⟨v2, v3, kvs, ks, rfl, e2, hD, hk, nd, hm⟩ := z
      rw [hxl, List.take_length] at hm
      have kl : ks.length ≤ pool.length := nodup_le nd fun m hm2 => inpool m ((hm m).mp hm2)
      have kl8 : ks.length ≤ 8 := kl
      refine ⟨_, rfl, D, kvs, ks, rfl, .inl hD, hk, by omega, fun ys p pm so np => ⟨p, _, rfl, .inl ⟨sl_ upd_same, fun t nt => ?_⟩⟩⟩
      have ey : ys = folk ts := sorted_once so (pm.nodup_iff.mpr nd) fun n => by rw [pm.mem_iff, hm]
      subst ey
      exact q (.ref t) _ ((e2.trans (same_upd np)).trans (same_upd nt)) ⟨t, rfl, st_ upd_same⟩ (by rw [pm.length_eq]; exact kl8)
end
end K17

namespace Cb
open PySem PySem.Spec PyProof.Rows L2 PySem.W
section
variable {K : Frag} {tl : TE} {j : Nat} {vs : List Nat} {σ : Stt} {H : Hp} {tt : TT} {Q : VK} {β : Type} {F : Hp → V → β → Prop}
/-- [x for x in xs if ..], the items told by what they stand for -/
theorem lcL_pair (mono : ∀ H1 H2 v b, Same H1 H2 → F H1 v b → F H2 v b) (bs : List β) (p : β → Bool) (hl : ∀ R : VK, (∀ a H1 us, Same H H1 → SqL K H1 a us → Paired (F H1) us bs → R (.ref a) H1) → tl σ H R) (hn : bs.length ≤ 100000)
    (hj : ∀ x, wipe ((wipe σ vs).set j (some x)) vs = wipe σ vs) (hv : ∀ x, ((wipe σ vs).set j (some x))[j]? = some (some x))
    (ht : ∀ x b, b ∈ bs → ∀ H1, Same H H1 → F H1 x b → ∀ R : Bool → Hp → Prop, (∀ H2, Same H1 H2 → R (p b) H2) → tt ((wipe σ vs).set j (some x)) H1 R)
    (q : ∀ L us H', H L = none → Same H H' → H' L = some (.lst us) → Paired (F H') us (bs.filter p) → Q (.ref L) H') : tLc (iList K tl) (gName j) tt (tVar j) vs σ H Q := by
  refine hl _ fun a H1 us e1 hs hp => ⟨a, rfl, ⟨us, hs⟩, fun L nL => ?_⟩
  have hlen := prd_len hp
  refine lc_list (K := K) (a := a) (xs := us) (fun i H' => Same H1 H' ∧ ∃ ws, H' L = some (.lst ws) ∧ Paired (F H1) ws ((bs.take i).filter p)) ⟨same_upd nL, [], upd_same, .nil⟩ (fun i H' _ z => z.1.seq hs) (fun i x H' hi z => ⟨hj x, ?_⟩) fun H' z => ?_
  · obtain ⟨e2, ws, hw, hpw⟩ := z
    obtain ⟨b, hb, hf⟩ := prd_getL hp hi
    have hwl := prd_len hpw
    have hfl := List.length_filter_le p (bs.take i)
    have hbl := (List.getElem?_eq_some_iff.mp hb).1
    rw [List.length_take] at hfl
    refine ht x b (List.mem_of_getElem? hb) H' (e1.trans e2) (mono _ _ _ _ e2 hf) _ fun H2 e3 => ?_
    rw [take_snoc hb, List.filter_append]
    by_cases h : p b = true
    · rw [if_pos h]
      refine ⟨x, hv x, ws, e3 _ _ hw, big (by omega), same_mut (e2.trans e3) nL, ws ++ [x], upd_same, ?_⟩
      rw [List.filter_cons_of_pos h]
      exact prd_app hpw (.cons hf .nil)
    · rw [if_neg h]
      refine ⟨e2.trans e3, ws, e3 _ _ hw, ?_⟩
      rw [List.filter_cons_of_neg h]
      simpa using hpw
  · obtain ⟨e2, ws, hw, hpw⟩ := z
    rw [hlen, List.take_length] at hpw
    exact q L ws H' (e1.free nL) (e1.trans e2) hw (prd_mono (fun _ _ z => mono _ _ _ _ e2 z) hpw)
end
section
variable {K : Frag} {tl : TE} {j : Nat} {vs : List Nat} {σ : Stt} {H : Hp} {Q : VK} {tt : TT} {te : TE} {F : Addr} {us : List V} {ts : List (List Str)}
/-- [g(t) for t in found if p(t)], sets of people -/
theorem lcL_fm (p : List Str → Bool) (g : List Str → List Str) (hl : ∀ R : VK, R (.ref F) H → tl σ H R) (hF : H F = some (.lst us)) (hp : Paired (S1 K H) us ts) (hn : us.length ≤ 100000) (hj : ∀ x, wipe ((wipe σ vs).set j (some x)) vs = wipe σ vs)
    (ht : ∀ x t, t ∈ ts → ∀ H1, Same H H1 → S1 K H1 x t → ∀ R : Bool → Hp → Prop, (∀ H2, Same H1 H2 → R (p t) H2) → tt ((wipe σ vs).set j (some x)) H1 R)
    (he : ∀ x t, t ∈ ts → p t = true → ∀ H1, Same H H1 → S1 K H1 x t → ∀ R : VK, (∀ v H2, Same H1 H2 → S1 K H2 v (g t) → R v H2) → te ((wipe σ vs).set j (some x)) H1 R)
    (q : ∀ D ws H', H D = none → Same H H' → H' D = some (.lst ws) → Paired (S1 K H') ws ((ts.filter p).map g) → Q (.ref D) H') : tLc (iList K tl) (gName j) tt te vs σ H Q := by
  have hlen := prd_len hp
  refine hl _ ⟨F, rfl, ⟨us, sl_ hF⟩, fun D nD => ?_⟩
  refine lc_list (K := K) (a := F) (xs := us) (fun i H' => Same H H' ∧ ∃ ws, H' D = some (.lst ws) ∧ Paired (S1 K H') ws (((ts.take i).filter p).map g)) ⟨same_upd nD, [], upd_same, .nil⟩ (fun i H' _ z => sl_ (z.1 _ _ hF)) (fun i x H' hi z => ⟨hj x, ?_⟩) fun H' z => ?_
  · obtain ⟨e2, ws, hw, hpw⟩ := z
    obtain ⟨t, ht', hx⟩ := prd_getL hp hi
    have htm : t ∈ ts := List.mem_of_getElem? ht'
    have hwl := prd_len hpw
    have hfl := List.length_filter_le p (ts.take i)
    have hil := (List.getElem?_eq_some_iff.mp hi).1
    rw [List.length_map] at hwl
    rw [List.length_take] at hfl
    refine ht x t htm H' e2 (hx.same e2) _ fun H2 e3 => ?_
    rw [take_snoc ht', List.filter_append, List.map_append]
    by_cases h : p t = true
    · rw [if_pos h]
      refine he x t htm h H2 (e2.trans e3) (hx.same (e2.trans e3)) _ fun v H3 e4 hv => ⟨ws, e4 _ _ (e3 _ _ hw), big (by omega), same_mut ((e2.trans e3).trans e4) nD, ws ++ [v], upd_same, ?_⟩
      have f2 : Fx H3 (upd H3 D (.lst (ws ++ [v]))) := Fx.mut (e4 _ _ (e3 _ _ hw))
      rw [List.filter_cons_of_pos h]
      exact prd_app (f2.s1s (prd_mono (fun _ _ z => z.same (e3.trans e4)) hpw)) (.cons (f2.s1 hv) .nil)
    · rw [if_neg h]
      refine ⟨e2.trans e3, ws, e3 _ _ hw, ?_⟩
      rw [List.filter_cons_of_neg h]
      simpa using prd_mono (fun _ _ z => S1.same e3 z) hpw
  · obtain ⟨e2, ws, hw, hpw⟩ := z
    rw [hlen, List.take_length] at hpw
    exact q D ws H' nD e2 hw hpw
end
end Cb
namespace K17
open PySem PySem.Spec PyProof.Rows L2 PySem.W Cb Evl
/-- how many sets of a size -/
def bin : Nat → Nat → Nat
  | _, 0 => 1
  | 0, _ + 1 => 0
  | n + 1, m + 1 => bin n (m + 1) + bin n m
/-- sets of at most m of the first i people -/
structure So (i m : Nat) (ns : List Str) (f : List (List Str)) : Prop where
  each : ∀ t ∈ f, t.length ≤ m ∧ ∀ n ∈ t, n ∈ ns
  num : ∀ j, j ≤ m → (f.filter fun t => decide (t.length = j)).length = bin i j
  few : f.length ≤ 2 ^ i
theorem so0 (m : Nat) (ns : List Str) : So 0 m ns [[]] := by
  refine ⟨fun t h => ?_, fun j hj => ?_, Nat.le_refl _⟩
  · rw [List.mem_singleton.mp h]
    exact ⟨Nat.zero_le _, fun n z => absurd z (by simp)⟩
  · cases j with
    | zero => rfl
    | succ j => rfl
def addN (n : Str) (t : List Str) : List Str := t ++ [n]
theorem So.step {i m : Nat} {ns : List Str} {f : List (List Str)} {n : Str} (h : So i m ns f) (hn : n ∈ ns) : So (i + 1) m ns (f ++ (f.filter fun t => decide (t.length < m)).map (addN n)) := by
  refine ⟨fun t ht => ?_, fun j hj => ?_, ?_⟩
  · rcases List.mem_append.mp ht with ht | ht
    · exact h.each t ht
    · obtain ⟨u, hu, rfl⟩ := List.mem_map.mp ht
      obtain ⟨hu, lt⟩ := List.mem_filter.mp hu
      have lt := of_decide_eq_true lt
      refine ⟨by unfold addN; simp; omega, fun x hx => ?_⟩
      rcases List.mem_append.mp hx with hx | hx
      · exact (h.each u hu).2 x hx
      · rw [List.mem_singleton.mp hx]
        exact hn
  · rw [List.filter_append, List.length_append, h.num j hj, List.filter_map, List.length_map, List.filter_filter]
    cases j with
    | zero =>
      have e : (f.filter fun t => (decide ((addN n t).length = 0) && decide (t.length < m))) = [] := by
        rw [List.filter_eq_nil_iff]
        intro t _
        unfold addN
        simp
      show bin i 0 + (f.filter fun t => (decide ((addN n t).length = 0) && decide (t.length < m))).length = bin (i + 1) 0
      rw [e]
      cases i <;> rfl
    | succ j =>
      have e : (f.filter fun t => (decide ((addN n t).length = j + 1) && decide (t.length < m))) = f.filter fun t => decide (t.length = j) := by
        refine List.filter_congr fun t _ => ?_
        unfold addN
        rw [List.length_append]
        by_cases c : t.length = j
        · have : t.length < m := by omega
          simp [c]
          omega
        · simp [c]
      show bin i (j + 1) + (f.filter fun t => (decide ((addN n t).length = j + 1) && decide (t.length < m))).length = bin (i + 1) (j + 1)
      rw [e, h.num j (by omega)]
      rfl
  · have h1 := h.few
    have h2 := List.length_filter_le (fun t : List Str => decide (t.length < m)) f
    rw [List.length_append, List.length_map, Nat.pow_succ]
    omega
section
variable {P : Program} {w : World} {K : Frag} {mg : Str → Option Value} {base : Heap}
/-! ### the sets of a size -/
abbrev s_sets : Stmt := top 27
abbrev N_sets : List Str := ["_law_names", "_law_size", "_law_found", "_law_name", "_law_some"]
theorem sc_sets : FnScope N_sets ["_law_names", "_law_size"] (defScope s_sets) := ⟨rfl, rfl, rfl, by decide +kernel, rfl, by decide +kernel, by decide +kernel⟩
def sp_sets (K : Frag) : Sp := fun vs H Q _ => ∃ (l : Addr) (ns : List Str) (m : Nat), vs = [.ref l, .int m] ∧ H l = some (.lst (ns.map V.str)) ∧ ns.length ≤ 8 ∧ 1 ≤ m ∧ m ≤ 8 ∧ 0 < bin ns.length m ∧ bin ns.length m < 64 ∧ (∀ n ∈ ns, n ∈ pool) ∧
  ∀ F us f H', Same H H' → H F = none → H' F = some (.lst us) → Paired (S1 K H') us f → f.length < 64 → f ≠ [] → (∀ t ∈ f, Pt t) → Q (.ref F) H'
theorem ok_sets {f : Addr} {fd : FuncData} {k : Nat} (F : Fun K "_law_sets_of" "_law_sets_of" s_sets f fd) (B : Blt mg) : FnOk P w K mg base CX0 (k + 1) f fd ["_law_names", "_law_size"] (sp_sets K) := by
  refine F.ok sc_sets (fun vs H Q E h => ?_) (fun cdv A outer s H vs Q E hr h => ?_)
  · obtain ⟨_, _, _, rfl, _⟩ := h
    rfl
  · obtain ⟨l, ns, m, rfl, hl, n8, m1, m8, b1, b2, inp, q⟩ := h
    refine ⟨_, (pss_cons (ps_set (i := 2) sc_sets.nd rfl (Or.inl rfl) (pe_lst (pa_cons (pe_tup pa_nil) pa_nil)))
      (pss_cons (ps_for PassesOwn.never rfl (p_list K (pv 0)) (pg_name (i := 3) sc_sets.nd rfl (Or.inr rfl))
      (pss_one (ps_set (i := 2) sc_sets.nd rfl (Or.inl rfl) (pe_op op_cat (pv 2) (pe_lc (own := [("_law_some", 4)]) (g := gName 4) rfl sc_sets.nd (p_list K (pv 2)) (blkOk_by (own := [("_law_some", 4)]) (N := N_sets) (sc := defScope s_sets) (by decide +kernel)) (fun _ _ _ _ _ => (pg_name (i := 4) sc_sets.nd rfl (Or.inl rfl))) (fun _ _ _ _ _ => (pts_one (pt_cmpR op_lt (pe_callB (c_len K) (by rfl) B.len (by decide +kernel) (pa_cons (pv 4) pa_nil)) (pv 1) (nomark _)))) (fun _ _ _ _ _ => (pe_op (o_catA K) (pv 4) (pe_tup (pa_cons (pv 3) pa_nil)))))))))
      (pss_one (ps_ret (pe_lc (own := [("_law_some", 4)]) (g := gName 4) rfl sc_sets.nd (p_list K (pv 2)) (blkOk_by (own := [("_law_some", 4)]) (N := N_sets) (sc := defScope s_sets) (by decide +kernel)) (fun _ _ _ _ _ => (pg_name (i := 4) sc_sets.nd rfl (Or.inl rfl))) (fun _ _ _ _ _ => (pts_one (pt_cmpR op_eq (pe_callB (c_len K) (by rfl) B.len (by decide +kernel) (pa_cons (pv 4) pa_nil)) (pv 1) (nomark _)))) (fun _ _ _ _ _ => (pv 4))))))), ?_⟩
    refine sq_set ⟨Nat.zero_le _, fun p np => ⟨(by decide : 1 ≤ sizeLine), fun F0 nF => ?_⟩⟩
    have s2 := (same_upd (o := .tup []) np).trans (same_upd (o := .lst [.ref p]) nF)
    have nF0 : H F0 = none := (same_upd np).free nF
    refine sq_for ?_
    refine ⟨_, rfl, l, rfl, ⟨_, sl_ (s2 _ _ hl)⟩, for_list (xs := ns.map V.str) (fun i σ' H' => ∃ (v3 : Option V) (F' : Addr) (us : List V) (f : List (List Str)), σ' = [some (.ref l), some (.int m), some (.ref F'), v3, none] ∧ Same H H' ∧ H F' = none ∧ H' F' = some (.lst us) ∧ Paired (S1 K H') us f ∧ So i m ns f)
      ⟨none, F0, [.ref p], [[]], rfl, s2, nF0, upd_same, .cons ⟨p, rfl, st_ (same_upd nF _ _ upd_same)⟩ .nil, so0 m ns⟩ (fun i σ' H2 _ z => ?_) (fun i x σ' H2 hi z => ?_) fun σ' H2 z => ?_⟩
    · obtain ⟨_, _, _, _, _, e, _⟩ := z
      exact sl_ (e _ _ hl)
    · obtain ⟨v3, F', us, f, rfl, e2, nF', hF, hp, hs⟩ := z
      rw [List.getElem?_map] at hi
      obtain ⟨n, hi2, rfl⟩ := Option.map_eq_some_iff.mp hi
      have hnm := List.mem_of_getElem? hi2
      have hil := (List.getElem?_eq_some_iff.mp hi2).1
      have hul := prd_len hp
      have hfl := hs.few
      have h8 : 2 ^ i ≤ 2 ^ 8 := Nat.pow_le_pow_right (by decide) (by omega)
      refine ⟨_, rfl, ?_⟩
      refine lcL_fm (K := K) (tl := tVar 2) (j := 4) (vs := [4]) (te := tOp (rCatA K) (tVar 4) (tTup (tCons (tVar 3) tNil))) (us := us) (ts := f) (σ := [some (.ref l), some (.int m), some (.ref F'), some (.str n), none]) (fun t => decide (t.length < m)) (addN n) (fun R hR => ⟨_, rfl, hR⟩) hF hp (by omega) (fun _ => rfl) (fun x t ht H3 e3 hx R hR => ?_) (fun x t ht _ H3 e3 hx R hR => ?_) fun D ws H3 nD e3 hD hp3 => ?_
      · obtain ⟨ax, rfl, hx⟩ := hx
        refine ⟨_, rfl, ax, _, rfl, .inr hx, _, rfl, _, _, rfl, rfl, _, rfl, ?_⟩
        have e2 : decide (((t.map V.str).length : Int) < (m : Int)) = decide (t.length < m) := by
          rw [List.length_map]
          by_cases c : t.length < m
          · rw [decide_eq_true c]
            exact decide_eq_true (by omega)
          · rw [decide_eq_false c]
            exact decide_eq_false (by omega)
        rw [e2]
        exact hR _ (Same.refl _)
      · obtain ⟨ax, rfl, hx⟩ := hx
        have tl := (hs.each t ht).1
        refine ⟨_, rfl, _, rfl, (by decide : 1 ≤ sizeLine), fun l5 nl5 => ?_⟩
        refine cat_names (xs := t) (ys := [n]) (sameT (same_upd nl5) hx) (st_ upd_same) (by simp; omega) fun z H4 e4 hz => hR _ _ ((same_upd nl5).trans e4) ⟨z, rfl, hz⟩
      · have hwl := prd_len hp3
        have hfl2 := List.length_filter_le (fun t : List Str => decide (t.length < m)) f
        rw [List.length_map] at hwl
        refine ⟨F', D, us, ws, rfl, rfl, e3 _ _ hF, hD, Nat.le_of_lt (big (by omega)), fun z nz => ?_⟩
        have s4 := same_upd (o := .lst (us ++ ws)) nz
        exact ⟨some (.str n), z, us ++ ws, _, rfl, (e2.trans e3).trans s4, (e2.trans e3).free nz, upd_same, prd_app (prd_mono (fun _ _ z => z.same (e3.trans s4)) hp) (prd_mono (fun _ _ z => z.same s4) hp3), hs.step hnm⟩
    · obtain ⟨v3, F', us, f, rfl, e2, nF', hF, hp, hs⟩ := z
      rw [List.length_map] at hs
      have hul := prd_len hp
      have hfl := hs.few
      have h8 : 2 ^ ns.length ≤ 2 ^ 8 := Nat.pow_le_pow_right (by decide) n8
      have hnum := hs.num m (Nat.le_refl _)
      unfold tRet
      refine lcL_pair (K := K) (tl := tVar 2) (j := 4) (vs := [4]) (σ := [some (.ref l), some (.int m), some (.ref F'), v3, none]) (H := H2) (F := S1 K) (fun _ _ _ _ e z => z.same e) f (fun t => decide (t.length = m)) (fun R hR => ⟨_, rfl, hR F' H2 us (Same.refl _) (sl_ hF) hp⟩) (by omega) (fun _ => rfl) (fun _ => rfl) (fun x t ht H3 e3 hx R hR => ?_) fun L ws H3 nL e3 hL hw => ?_
      · obtain ⟨ax, rfl, hx⟩ := hx
        refine ⟨_, rfl, ax, _, rfl, .inr hx, _, rfl, rfl, _, rfl, ?_⟩
        have e4 : decide (V.int ((t.map V.str).length : Int) = V.int (m : Int)) = decide (t.length = m) := by
          rw [List.length_map]
          by_cases c : t.length = m
          · rw [decide_eq_true c, c]
            simp
          · rw [decide_eq_false c]
            refine decide_eq_false fun e => ?_
            injection e with e
            omega
        rw [e4]
        exact hR _ (Same.refl _)
      · refine q L ws _ H3 (e2.trans e3) (e2.free nL) hL hw (by omega) (fun e => ?_) fun t ht => ?_
        · rw [e] at hnum
          simp at hnum
          omega
        · obtain ⟨h1, h2⟩ := List.mem_filter.mp ht
          have h2 := of_decide_eq_true h2
          refine ⟨fun e => by rw [e] at h2; simp at h2; omega, by omega, fun n hn => inp n ((hs.each t h1).2 n hn)⟩
end
end K17

namespace K17
open PySem PySem.Spec PyProof.Rows L2 PySem.W Cb Evl
theorem sq_asg {te : TE} {g : TG} {rest : TS} {D : Ends} {σ : Stt} {H : Hp} (h : te σ H fun x H1 => g x σ H1 (rest D)) : tSeq (tAsg te g) rest D σ H := h
theorem nx_set {i : Nat} {te : TE} {rest : TS} {D : Ends} {rt : VK} {bk ct : Stt → Hp → Prop} {σ : Stt} {H : Hp} (h : te σ H fun x H1 => rest D (σ.set i (some x)) H1) : (Ends.mk (tSeq (tAsg te (gName i)) rest D) rt bk ct).nx σ H := h
theorem nx_asg {te : TE} {g : TG} {rest : TS} {D : Ends} {rt : VK} {bk ct : Stt → Hp → Prop} {σ : Stt} {H : Hp} (h : te σ H fun x H1 => g x σ H1 (rest D)) : (Ends.mk (tSeq (tAsg te g) rest D) rt bk ct).nx σ H := h
theorem bin_ok : ∀ n : Fin 9, ∀ m : Fin 9, 1 ≤ n.val → (m.val = 1 ∨ (m.val = n.val - 1 ∧ m.val ≠ 0) ∨ m.val = min 2 n.val) → 1 ≤ m.val ∧ 0 < bin n.val m.val ∧ bin n.val m.val < 64 := by decide +kernel
/-- the first so many names -/
theorem cut_names {n k : Nat} (ns : List Str) (h : k ≤ ns.length) : ∃ ms : List Str, cutV (ns.map V.str) none (some (k : Int)) = ms.map V.str ∧ ms.length = k ∧ ∀ x ∈ ms, x ∈ ns := by
  refine ⟨(ns.drop 0).take (min k ns.length - 0), ?_, ?_, fun x hx => List.mem_of_mem_drop (List.mem_of_mem_take hx)⟩
  · unfold cutV
    rw [HT.sIx_none, HT.sIx_nat, List.map_take, List.map_drop, List.length_map]
  · rw [List.length_take, List.length_drop]
    omega
section
variable {P : Program} {w : World} {K : Frag} {mg : Str → Option Value} {base : Heap}
/-! ### drawn crews -/
abbrev s_teams : Stmt := top 28
abbrev N_teams : List Str := ["_law_feed_here", "_law_most", "_law_pool", "_law_sets", "_law_wide", "_law_k", "_law_some", "_law_name"]
theorem sc_teams : FnScope N_teams ["_law_feed_here", "_law_most"] (defScope s_teams) := ⟨rfl, rfl, rfl, by decide +kernel, rfl, by decide +kernel, by decide +kernel⟩
def sp_teams (K : Frag) : Sp := fun vs H Q _ => ∃ (r c : Addr) (d : Int), vs = [.ref r, .int 8] ∧ d ≤ 500000 ∧ Fd H r c d ∧ ∀ v ts H', Cl r H H' → Fd H' r c (d + 200) → S2 K H' v ts → ts ≠ [] → ts.length ≤ 12 → (∀ t ∈ ts, Pt t) → Q v H'
theorem ok_teams {f : Addr} {fd : FuncData} {k : Nat} (F : Fun K "_law_teams" "_law_teams" s_teams f fd) (B : Blt mg) (D__law_draw : Own P w K mg base 1 "_law_draw" ["_law_feed_here", "_law_limit"] sp_draw) (D__law_choice : Own P w K mg base 2 "_law_choice" ["_law_feed_here", "_law_some"] (sp_choiceL K))
    (D__law_minimal : Own P w K mg base 2 "_law_minimal" ["_law_sets"] (sp_min K)) (D__law_sets_of : Own P w K mg base 1 "_law_sets_of" ["_law_names", "_law_size"] (sp_sets K)) : FnOk P w K mg base CX0 (k + 3) f fd ["_law_feed_here", "_law_most"] (sp_teams K) := by
  refine F.ok sc_teams (fun vs H Q E h => ?_) (fun cdv A outer s H vs Q E hr h => ?_)
  · obtain ⟨_, _, _, rfl, _⟩ := h
    rfl
  · obtain ⟨r, c, d, rfl, hd, hR, q⟩ := h
    have hr1 : Room 1 _ := hr.mono (by omega)
    have hr2 : Room 2 _ := hr.mono (by omega)
    refine ⟨_, (pss_cons (ps_set (i := 2) sc_teams.nd rfl (Or.inl rfl) (pe_lst (pa_cons pe_str (pa_cons pe_str (pa_cons pe_str (pa_cons pe_str (pa_cons pe_str (pa_cons pe_str (pa_cons pe_str (pa_cons pe_str pa_nil))))))))))
      (pss_cons (ps_while PassesOwn.never (pt_cmpR op_gt (pe_callB (c_len K) (by rfl) B.len (by decide +kernel) (pa_cons (pv 2) pa_nil)) (pv 1) (nomark _))
      (pss_one (ps_expr (pe_bm PySem.F.plainAttrs_list PySem.F.slot_list_pop PySem.F.type_list_pop mt_popAt (pv 2) (pa_cons (pe_call D__law_draw.G hr1 rfl D__law_draw.m D__law_draw.kp D__law_draw.b .nil pass0 (pa_cons (pv 0) (pa_cons (pe_callB (c_len K) (by rfl) B.len (by decide +kernel) (pa_cons (pv 2) pa_nil)) pa_nil))) pa_nil)))))
      (pss_cons (ps_set (i := 2) sc_teams.nd rfl (Or.inl rfl) (pe_slice (s_list K) (pv 2) po_none (po_some (pe_op op_add pe_int (pe_call D__law_draw.G hr1 rfl D__law_draw.m D__law_draw.kp D__law_draw.b .nil pass0 (pa_cons (pv 0) (pa_cons (pv 1) pa_nil)))))))
      (pss_cons (ps_if (pt_cmpR op_eq (pe_call D__law_draw.G hr1 rfl D__law_draw.m D__law_draw.kp D__law_draw.b .nil pass0 (pa_cons (pv 0) (pa_cons pe_int pa_nil))) pe_int (nomark _)) (pss_one (ps_ret (pe_call D__law_minimal.G hr2 rfl D__law_minimal.m D__law_minimal.kp D__law_minimal.b .nil pass0 (pa_cons (pe_call D__law_sets_of.G hr1 rfl D__law_sets_of.m D__law_sets_of.kp D__law_sets_of.b .nil pass0 (pa_cons (pv 2) (pa_cons (pe_mid (pe_orT (pe_call D__law_choice.G hr2 rfl D__law_choice.m D__law_choice.kp D__law_choice.b .nil pass0 (pa_cons (pv 0) (pa_cons (pe_lst (pa_cons pe_int (pa_cons (pe_op op_sub (pe_callB (c_len K) (by rfl) B.len (by decide +kernel) (pa_cons (pv 2) pa_nil)) pe_int) (pa_cons (pe_callB (call_min2 rfl) (by rfl) B.min (by decide +kernel) (pa_cons pe_int (pa_cons (pe_callB (c_len K) (by rfl) B.len (by decide +kernel) (pa_cons (pv 2) pa_nil)) pa_nil))) pa_nil)))) pa_nil))) (pe_one pe_int))) pa_nil))) pa_nil)))) pss_nil)
      (pss_cons (ps_asg (pe_tup (pa_cons (pe_lst pa_nil) (pa_cons (pe_op op_add pe_int (pe_call D__law_draw.G hr1 rfl D__law_draw.m D__law_draw.kp D__law_draw.b .nil pass0 (pa_cons (pv 0) (pa_cons pe_int pa_nil)))) pa_nil))) (show PG _ _ (gTup K 2 _) from pg_tup rfl (pgs_cons (pg_name (i := 3) sc_teams.nd rfl (Or.inl rfl)) (pgs_cons (pg_name (i := 4) sc_teams.nd rfl (Or.inr rfl)) pgs_nil))))
      (pss_cons (ps_for PassesOwn.never rfl (pi_range1 rfl B.range (pa_cons (pe_op op_add pe_int (pe_call D__law_draw.G hr1 rfl D__law_draw.m D__law_draw.kp D__law_draw.b .nil pass0 (pa_cons (pv 0) (pa_cons pe_int pa_nil)))) pa_nil)) (pg_name (i := 5) sc_teams.nd rfl (Or.inl rfl))
      (pss_cons (ps_setLc (i := 6) (own := [("_law_name", 7)]) (g := gName 7) rfl sc_teams.nd rfl rfl (sw_true rfl rfl rfl (by decide +kernel)) (p_list K (pv 2)) (blkOk_by (own := [("_law_name", 7)]) (N := N_teams) (sc := defScope s_teams) (by decide +kernel)) (fun _ _ _ _ _ => (pg_name (i := 7) sc_teams.nd rfl (Or.inl rfl))) (fun _ _ _ _ _ => (pts_one (pt_cmpR op_eq (pe_call D__law_draw.G hr1 rfl D__law_draw.m D__law_draw.kp D__law_draw.b .nil pass0 (pa_cons (pv 0) (pa_cons (pe_op op_add pe_int (pv 4)) pa_nil))) pe_int (nomark _)))) (fun _ _ _ _ _ => (pv 7)))
      (pss_one (ps_expr (pe_bm PySem.F.plainAttrs_list PySem.F.slot_list_append PySem.F.type_list_append mt_append (pv 3) (pa_cons (pe_mid (pe_callTy (c_tuple K) (by rfl) B.tuple (by decide +kernel) (pa_cons (pe_ifExp (pt_cmpR (o_neD K hr.units) (pv 6) (pe_lst pa_nil) (nomark _)) (pv 6) (pe_slice (s_list K) (pv 2) po_none (po_some pe_int))) pa_nil))) pa_nil))))))
      (pss_one (ps_ret (pe_call D__law_minimal.G hr2 rfl D__law_minimal.m D__law_minimal.kp D__law_minimal.b .nil pass0 (pa_cons (pv 3) pa_nil)))))))))), ?_⟩
    -- the pool
    refine sq_set ⟨(by decide : 8 ≤ sizeLine), fun p np => ?_⟩
    have e1 : Same H (upd H p (.lst (pool.map V.str))) := same_upd np
    have hp1 : (upd H p (.lst (pool.map V.str))) p = some (.lst (pool.map V.str)) := upd_same
    have g1 := hR.same e1
    refine sq_while ?_
    refine ⟨fun n σ' H' => σ' = [some (.ref r), some (.int 8), some (.ref p), none, none, none, none, none] ∧ H' = upd H p (.lst (pool.map V.str)), ⟨0, rfl, rfl⟩, ?_⟩
    rintro n σ' H' ⟨rfl, rfl⟩
    refine ⟨_, rfl, p, _, rfl, .inl (sl_ hp1), _, rfl, _, _, rfl, rfl, _, rfl, ite2 (fun h => absurd h (by decide)) fun _ => ?_⟩
    generalize upd H p (.lst (pool.map V.str)) = H1 at e1 hp1 g1
    -- its first ones
    have pr : p ≠ r := hR.ne np
    refine nx_set ⟨_, rfl, ?_⟩
    unfold tNoPart
    refine ⟨_, rfl, _, rfl, r, c, 8, d, rfl, by decide, by decide, by omega, g1, fun z H2 c2 g2 z0 z1 => ⟨_, _, rfl, rfl, _, rfl, p, pool.map V.str, rfl, sl_ (c2.lst pr hp1), fun p2 np2 => ?_⟩⟩
    obtain ⟨j, rfl⟩ : ∃ j : Nat, z = (j : Int) := ⟨z.toNat, by omega⟩
    obtain ⟨ns, ens, nlen, nin⟩ := cut_names (n := 8) (k := 1 + j) pool (by show 1 + j ≤ 8; omega)
    rw [show (1 : Int) + (j : Int) = ((1 + j : Nat) : Int) by omega, ens]
    have p2r : p2 ≠ r := g2.ne np2
    have cA : Cl r H H2 := (Cl.of e1).trans c2
    have np2H : H p2 = none := cA.free np2
    have cB : Cl r H (upd H2 p2 (.lst (ns.map V.str))) := cA.upd np2H
    have gB : Fd (upd H2 p2 (.lst (ns.map V.str))) r c (d + 1) := g2.mut np2 g2
    have hB : (upd H2 p2 (.lst (ns.map V.str))) p2 = some (.lst (ns.map V.str)) := upd_same
    generalize upd H2 p2 (.lst (ns.map V.str)) = H3 at cB gB hB ⊢
    have nsok : ∀ x ∈ ns, okS x := fun x hx => pool_ok x (nin x hx)
    -- if draw(4) == 0
    refine ⟨_, rfl, r, c, 4, d + 1, rfl, by decide, by decide, by omega, gB, fun z4 H4 c4 g4 z40 z41 => ⟨rfl, _, rfl, ite2 (fun _ => ?_) (fun _ => ?_)⟩⟩
    · have hB4 := c4.lst p2r hB
      have cC := cB.trans c4
      have lenS : ((ns.map V.str).length : Int) = ((1 + j : Nat) : Int) := by rw [List.length_map, nlen]
      refine ⟨_, rfl, fun v H' => ∃ m : Nat, v = .int m ∧ Cl r H4 H' ∧ Fd H' r c (d + 3) ∧ 1 ≤ m ∧ m ≤ 8 ∧ 0 < bin ns.length m ∧ bin ns.length m < 64, ?_, ?_⟩
      · refine ⟨_, rfl, _, rfl, p2, _, rfl, .inl (sl_ hB4), _, _, rfl, rfl, _, rfl, p2, _, rfl, .inl (sl_ hB4), _, _, rfl, (by decide : 3 ≤ sizeLine), fun l4 nl4 => ⟨r, c, l4, d + 2, _, rfl, upd_same, g4.ne nl4, by simp, (by show 3 ≤ 1000; decide), by omega, (g4.le (by omega)).mut nl4 g4, fun i x H5 c5 g5 hi => ?_⟩⟩
        have c6 : Cl r H4 H5 := (Cl.new nl4).trans c5
        have key : ∀ m : Nat, (m = 1 ∨ (m = ns.length - 1 ∧ m ≠ 0) ∨ m = min 2 ns.length) → m ≤ 8 → 1 ≤ m ∧ m ≤ 8 ∧ 0 < bin ns.length m ∧ bin ns.length m < 64 := fun m hm m8 => by
          have := bin_ok ⟨ns.length, by omega⟩ ⟨m, by omega⟩ (by show 1 ≤ ns.length; omega) hm
          exact ⟨this.1, m8, this.2⟩
        have one : ∀ m : Nat, x = .int m → (m = 0 ∨ m = 1 ∨ m = ns.length - 1 ∨ m = min 2 ns.length) → ∃ k, TruV K x H5 k ∧ if k = true then (∃ m : Nat, x = .int m ∧ Cl r H4 H5 ∧ Fd H5 r c (d + 3) ∧ 1 ≤ m ∧ m ≤ 8 ∧ 0 < bin ns.length m ∧ bin ns.length m < 64) else (∃ m : Nat, V.int 1 = .int m ∧ Cl r H4 H5 ∧ Fd H5 r c (d + 3) ∧ 1 ≤ m ∧ m ≤ 8 ∧ 0 < bin ns.length m ∧ bin ns.length m < 64) := fun m e hm => by
          subst e
          refine ⟨_, rfl, ?_⟩
          have g6 : Fd H5 r c (d + 3) := g5.le (by omega)
          by_cases m0 : m = 0
          · subst m0
            refine ite2 (fun h => absurd h (by decide)) fun _ => ⟨1, rfl, c6, g6, key 1 (.inl rfl) (by decide)⟩
          · refine ite2 (fun _ => ⟨m, rfl, c6, g6, key m ?_ (by omega)⟩) fun h => absurd (show ((m : Int) != 0) = true by simpa using m0) h
            rcases hm with z | z | z | z
            · exact absurd z m0
            · exact .inl z
            · exact .inr (.inl ⟨z, m0⟩)
            · exact .inr (.inr z)
        match i, hi with
        | 0, hi => exact one 1 (Option.some.inj hi).symm (.inr (.inl rfl))
        | 1, hi => exact one (ns.length - 1) ((Option.some.inj hi).symm.trans (by rw [lenS]; show V.int (((1 + j : Nat) : Int) - 1) = V.int ((ns.length - 1 : Nat) : Int); congr 1; omega)) (.inr (.inr (.inl rfl)))
        | 2, hi =>
          refine one (min 2 ns.length) ((Option.some.inj hi).symm.trans ?_) (.inr (.inr (.inr rfl)))
          rw [lenS]
          congr 1
          split <;> omega
        | i + 3, hi => exact absurd hi (by simp)
      · rintro v H5 ⟨m, rfl, c5, g5, m1, m8, b1, b2⟩
        have hB5 := c5.lst p2r hB4
        refine ⟨p2, ns, m, rfl, hB5, by omega, m1, m8, b1, b2, nin, fun F us f H6 e6 nF hF hp lt64 fne hpt => ?_⟩
        refine ⟨F, us, f, rfl, sl_ hF, hp, lt64, fne, hpt, fun v us2 H7 e7 h7 une u12 upt => ?_⟩
        exact q v us2 H7 (((cC.trans c5).trans (Cl.of e6)).trans (Cl.of e7)) (((g5.same e6).same e7).le (by omega)) h7 une u12 upt
    · -- sets, wide
      have hB4 := c4.lst p2r hB
      have cC := cB.trans c4
      refine nx_asg ⟨Nat.zero_le _, fun L nL => ⟨_, rfl, r, c, 3, d + 2, rfl, by decide, by decide, by omega, (g4.le (by omega)).mut nL g4, fun z5 H5 c5 g5 z50 z51 => ⟨_, _, rfl, rfl, (by decide : 2 ≤ sizeLine), fun tp ntp => ⟨tp, _, rfl, st_ upd_same, rfl, _, _, rfl, _, _, rfl, rfl, ?_⟩⟩⟩⟩
      have nLH : H L = none := cC.free nL
      have Lr : L ≠ r := g4.ne nL
      have Lp2 : p2 ≠ L := ne_of_none hB4 nL
      have cD : Cl r H (upd H5 tp (.tup [.ref L, .int (1 + z5)])) := ((cC.upd nLH).trans c5).upd (((cC.upd nLH).trans c5).free ntp)
      have gD : Fd (upd H5 tp (.tup [.ref L, .int (1 + z5)])) r c (d + 3) := (g5.le (by omega)).mut ntp g5
      have hLD : (upd H5 tp (.tup [.ref L, .int (1 + z5)])) L = some (.lst []) := same_upd ntp _ _ (c5.lst Lr upd_same)
      have hBD : (upd H5 tp (.tup [.ref L, .int (1 + z5)])) p2 = some (.lst (ns.map V.str)) := same_upd ntp _ _ (c5.lst p2r (by rw [upd_ne Lp2]; exact hB4))
      generalize upd H5 tp (.tup [.ref L, .int (1 + z5)]) = H6 at cD gD hLD hBD
      -- for k
      refine sq_for ?_
      refine ⟨_, rfl, r, c, 9, d + 3, rfl, by decide, by decide, by omega, gD, fun z7 H7 c7 g7 z70 z71 => ⟨_, _, rfl, rfl, 2 + z7, rfl, by omega, by omega, ?_⟩⟩
      have cE := cD.trans c7
      refine for_range (lo := 0) (n := (2 + z7).toNat) (fun i σ' H' => ∃ (v5 v6 v7 : Option V) (us : List V) (ts : List (List Str)), σ' = [some (.ref r), some (.int 8), some (.ref p2), some (.ref L), some (.int (1 + z5)), v5, v6, v7] ∧ Cl r H H' ∧ Fd H' r c (d + 4 + 10 * i) ∧
        H' p2 = some (.lst (ns.map V.str)) ∧ H' L = some (.lst us) ∧ Paired (S1 K H') us ts ∧ us.length = i ∧ (∀ t ∈ ts, Pt t))
        ⟨none, none, none, [], [], rfl, cE, g7.le (by omega), c7.lst p2r hBD, c7.lst Lr hLD, .nil, rfl, fun _ z => absurd z (by simp)⟩ (fun i σ' H8 hi z => ?_) fun σ' H8 z => ?_
      · obtain ⟨v5, v6, v7, us, ts, rfl, k1, k2, k3, k4, k5, k6, k7⟩ := z
        have hi9 : i < 11 := by omega
        have pl8 : ns.length ≤ 8 := by omega
        -- some
        refine sq_set ⟨_, rfl, p2, rfl, ⟨_, sl_ k3⟩, fun S nS => ?_⟩
        have nSH : H S = none := k1.free nS
        have Sr : S ≠ r := k2.ne nS
        have Sp2 : p2 ≠ S := ne_of_none k3 nS
        have SL : L ≠ S := ne_of_none k4 nS
        have hms : ∀ Qd : Hp → Prop, (∀ (H9 : Hp) (ms : List Str), Cl r H8 H9 → Fd H9 r c (d + 4 + 10 * i + 8) → H9 S = some (.lst (ms.map V.str)) → ms.length ≤ 8 → (∀ x ∈ ms, x ∈ ns) → Qd H9) → _ := fun Qd hq => lc_list (K := K) (a := p2) (xs := ns.map V.str) (g := gName 7) (vs := [7])
          (tt := tTest (tOp rEq (tCall sp_draw [] E0 (tCons (tVar 0) (tCons (tOp (rI0 fun i j => V.int (i + j)) (tC (V.int 1)) (tVar 4)) tNil))) (tC (V.int 0)))) (te := tVar 7)
          (σ := [some (.ref r), some (.int 8), some (.ref p2), some (.ref L), some (.int (1 + z5)), some (.int (0 + (i : Int))), v6, v7]) (H1 := H8) (D := S) (Qd := Qd)
          (fun n H' => Cl r H8 H' ∧ Fd H' r c (d + 4 + 10 * i + n) ∧ ∃ ms : List Str, H' S = some (.lst (ms.map V.str)) ∧ ms.length ≤ n ∧ ∀ x ∈ ms, x ∈ ns)
          ⟨Cl.new nS, (k2.mut nS k2).le (by omega), [], upd_same, Nat.le_refl _, fun x z => absurd z (by simp)⟩ (fun n H' _ z => sl_ (z.1.lst p2r k3)) (fun n x H' hn z => ⟨rfl, by
            obtain ⟨l1, l2, ms, l3, l4, l5⟩ := z
            rw [List.getElem?_map] at hn
            obtain ⟨nm, hnm, rfl⟩ := Option.map_eq_some_iff.mp hn
            have nlt := (List.getElem?_eq_some_iff.mp hnm).1
            refine ⟨_, rfl, _, rfl, _, _, rfl, rfl, r, c, 1 + (1 + z5), d + 4 + 10 * i + n, rfl, by omega, by omega, by omega, l2, fun z9 H9 c9 g9 z90 z91 => ⟨rfl, _, rfl, ite2 (fun _ => ?_) (fun _ => ?_)⟩⟩
            · have h9 := c9.lst Sr l3
              refine ⟨_, rfl, ms.map V.str, h9, big (by rw [List.length_map]; omega), (l1.trans c9).upd nS, (g9.le (by omega)).mut nS k2, ms ++ [nm], by rw [List.map_append]; exact upd_same, by simp; omega, fun x hx => ?_⟩
              rcases List.mem_append.mp hx with hx | hx
              · exact l5 x hx
              · rw [List.mem_singleton.mp hx]
                exact List.mem_of_getElem? hnm
            · exact ⟨l1.trans c9, g9.le (by omega), ms, c9.lst Sr l3, by omega, l5⟩⟩)
          (fun H9 z => by
            obtain ⟨l1, l2, ms, l3, l4, l5⟩ := z
            rw [List.length_map] at l2 l4
            exact hq H9 ms l1 (l2.le (by omega)) l3 (by omega) l5)
        refine hms _ fun H9 ms c9 g9 h9 m8 min_ => ?_
        have okm : ∀ n ∈ ms, okS n := fun n hn => nsok n (min_ n hn)
        have hL9 : H9 L = some (.lst us) := c9.lst Lr k4
        have hB9 : H9 p2 = some (.lst (ns.map V.str)) := c9.lst p2r k3
        refine ⟨_, rfl, .inl ⟨rfl, _, SqL.of hL9⟩, fun v H' => ∃ t, Same H9 H' ∧ S1 K H' v t ∧ Pt t, ⟨_, rfl, Nat.zero_le _, fun l9 nl9 => ⟨.list (ms.map .str), .list [], .lst (sl_ (same_upd nl9 _ _ h9)) (dpStrs _), .lst (sl_ upd_same) .nil, shaped_strs okm, shaped_nil, _, rfl, ?_⟩⟩, fun v H' ⟨t, e10, ht, pt⟩ => ⟨L, us, v, rfl, rfl, e10 _ _ hL9, big (by omega), ?_⟩⟩
        · rw [eqv_list_nil]
          refine ite2 (fun hne => ?_) (fun _ => ?_)
          · refine ⟨_, rfl, S, ms.map V.str, rfl, .inl ⟨sl_ (same_upd nl9 _ _ h9), fun l nl => ⟨ms, (same_upd nl9).trans (same_upd nl), ⟨l, rfl, st_ upd_same⟩, fun e => ?_, m8, fun n hn => nin n (min_ n hn)⟩⟩⟩
            rw [e] at hne
            exact absurd hne (by decide)
          · obtain ⟨m1, e1, l1, in1⟩ := cut_names (n := 8) (k := 1) ns (by omega)
            have e1 : cutV (ns.map V.str) none (some 1) = m1.map V.str := e1
            refine ⟨_, rfl, _, rfl, p2, ns.map V.str, rfl, sl_ (same_upd nl9 _ _ hB9), fun q1 nq1 => ⟨q1, m1.map V.str, rfl, .inl ⟨sl_ (by rw [e1]; exact upd_same), fun l nl => ⟨m1, ((same_upd nl9).trans (same_upd nq1)).trans (same_upd nl), ⟨l, rfl, st_ upd_same⟩, fun e => ?_, by omega, fun n hn => nin n (in1 n hn)⟩⟩⟩⟩
            rw [e] at l1
            exact absurd l1 (by decide)
        · have f8 : Fx H' (upd H' L (.lst (us ++ [v]))) := Fx.mut (e10 _ _ hL9)
          refine ⟨_, _, _, us ++ [v], ts ++ [t], rfl, ((k1.trans c9).trans (Cl.of e10)).upd nLH, ((g9.same e10).le (by omega)).mut nL g4, by rw [upd_ne Lp2]; exact e10 _ _ hB9, upd_same, prd_app (f8.s1s ((c9.trans (Cl.of e10)).s1s k5)) (.cons (f8.s1 ht) .nil), by simp; omega, fun u hu => ?_⟩
          rcases List.mem_append.mp hu with hu | hu
          · exact k7 u hu
          · rw [List.mem_singleton.mp hu]
            exact pt
      · obtain ⟨v5, v6, v7, us, ts, rfl, k1, k2, k3, k4, k5, k6, k7⟩ := z
        have tl := prd_len k5
        refine ⟨_, rfl, L, us, ts, rfl, sl_ k4, k5, by omega, fun e => ?_, k7, fun v us2 H9 e9 h9 une u12 upt => ?_⟩
        · rw [e] at tl
          have tl : us.length = 0 := tl
          omega
        · exact q v us2 H9 (k1.trans (Cl.of e9)) ((k2.same e9).le (by omega)) h9 une u12 upt
end
end K17

namespace K17
open PySem PySem.Spec PyProof.Rows L2 PySem.W Cb Evl
section
variable {K : Frag} {tl : TE} {j : Nat} {vs : List Nat} {σ : Stt} {H : Hp} {tt : TT} {r c : Addr} {d : Int} {ns : List Str} {Q : VK}
/-- [x for x in t if ..], t a tuple of texts, and the test draws -/
theorem lcT_drawX (Φ : List Str → Prop) (hl : ∀ R : VK, (∀ ns a H1, Φ ns → Cl r H H1 → Fd H1 r c d → SqT K H1 a (ns.map V.str) → R (.ref a) H1) → tl σ H R)
    (hj : ∀ x, wipe ((wipe σ vs).set j (some x)) vs = wipe σ vs) (hv : ∀ x, ((wipe σ vs).set j (some x))[j]? = some (some x)) (hn : ∀ ns, Φ ns → ns.length ≤ 1000)
    (ht : ∀ (s : Str) H1 (e : Int), Cl r H H1 → Fd H1 r c e → e ≤ d + 1000 → ∀ R : Bool → Hp → Prop, (∀ b H2, Cl r H1 H2 → Fd H2 r c (e + 1) → R b H2) → tt ((wipe σ vs).set j (some (.str s))) H1 R)
    (q : ∀ (ns : List Str) (L : Addr) (ms : List Str) (H' : Hp), Φ ns → H L = none → Cl r H H' → Fd H' r c (d + ns.length) → L ≠ r → H' L = some (.lst (ms.map V.str)) → ms.length ≤ ns.length → (∀ x ∈ ms, x ∈ ns) → Q (.ref L) H') : tLc (iTup K tl) (gName j) tt (tVar j) vs σ H Q := by
  refine hl _ fun ns a H1 φ c1 g1 hs => ⟨a, rfl, ⟨_, hs⟩, fun L nL => ?_⟩
  have hn := hn ns φ
  have Lr : L ≠ r := g1.ne nL
  refine lc_tup (K := K) (a := a) (xs := ns.map V.str) (fun n H' => Cl r H1 H' ∧ Fd H' r c (d + n) ∧ ∃ ms : List Str, H' L = some (.lst (ms.map V.str)) ∧ ms.length ≤ n ∧ ∀ x ∈ ms, x ∈ ns)
    ⟨Cl.new nL, (g1.mut nL g1).le (by omega), [], upd_same, Nat.le_refl _, fun x z => absurd z (by simp)⟩ (fun n H' _ z => z.1.sqT hs) (fun n x H' hn2 z => ⟨hj x, ?_⟩) fun H' z => ?_
  · obtain ⟨l1, l2, ms, l3, l4, l5⟩ := z
    rw [List.getElem?_map] at hn2
    obtain ⟨nm, hnm, rfl⟩ := Option.map_eq_some_iff.mp hn2
    have nlt := (List.getElem?_eq_some_iff.mp hnm).1
    refine ht nm H' _ (c1.trans l1) l2 (by omega) _ fun b H2 c2 g2 => ?_
    have h2 := c2.lst Lr l3
    cases b with
    | true =>
      refine ⟨.str nm, hv _, ms.map V.str, h2, big (by rw [List.length_map]; omega), (l1.trans c2).upd nL, (g2.le (by omega)).mut nL g1, ms ++ [nm], by rw [List.map_append]; exact upd_same, by simp; omega, fun x hx => ?_⟩
      rcases List.mem_append.mp hx with hx | hx
      · exact l5 x hx
      · rw [List.mem_singleton.mp hx]
        exact List.mem_of_getElem? hnm
    | false => exact ⟨l1.trans c2, g2.le (by omega), ms, h2, by omega, l5⟩
  · obtain ⟨l1, l2, ms, l3, l4, l5⟩ := z
    rw [List.length_map] at l2 l4
    exact q ns L ms H' φ (c1.free nL) (c1.trans l1) l2 Lr l3 l4 l5
end
section
variable {P : Program} {w : World} {K : Frag} {mg : Str → Option Value} {base : Heap}
/-! ### a drawn subset -/
abbrev s_subset : Stmt := top 23
abbrev N_subset : List Str := ["_law_feed_here", "_law_some", "_law_one"]
theorem sc_subset : FnScope N_subset ["_law_feed_here", "_law_some"] (defScope s_subset) := ⟨rfl, rfl, rfl, by decide +kernel, rfl, by decide +kernel, by decide +kernel⟩
def sp_subset (K : Frag) : Sp := fun vs H Q _ => ∃ (r c : Addr) (x : V) (d : Int) (ns : List Str), vs = [.ref r, x] ∧ S1 K H x ns ∧ ns.length ≤ 8 ∧ d ≤ 900000 ∧ Fd H r c d ∧ ∀ v ms H', Cl r H H' → Fd H' r c (d + 8) → S1 K H' v ms → ms.length ≤ 8 → (∀ n ∈ ms, n ∈ ns) → Q v H'
theorem ok_subset {f : Addr} {fd : FuncData} {k : Nat} (F : Fun K "_law_subset" "_law_subset" s_subset f fd) (B : Blt mg) (D__law_draw : Own P w K mg base 1 "_law_draw" ["_law_feed_here", "_law_limit"] sp_draw) : FnOk P w K mg base CX0 (k + 2) f fd ["_law_feed_here", "_law_some"] (sp_subset K) := by
  refine F.ok sc_subset (fun vs H Q E h => ?_) (fun cdv A outer s H vs Q E hr h => ?_)
  · obtain ⟨_, _, _, _, _, rfl, _⟩ := h
    rfl
  · obtain ⟨r, c, x, d, ns, rfl, ⟨a, rfl, ha⟩, n8, hd, hR, q⟩ := h
    have hr1 : Room 1 _ := hr.mono (by omega)
    refine ⟨_, (pss_one (ps_ret (pe_callTy (c_tuple K) (by rfl) B.tuple (by decide +kernel) (pa_cons (pe_lc (own := [("_law_one", 2)]) (g := gName 2) rfl sc_subset.nd (p_tup K (pv 1)) (blkOk_by (own := [("_law_one", 2)]) (N := N_subset) (sc := defScope s_subset) (by decide +kernel)) (fun _ _ _ _ _ => (pg_name (i := 2) sc_subset.nd rfl (Or.inl rfl))) (fun _ _ _ _ _ => (pts_one (pt_cmpR op_eq (pe_call D__law_draw.G hr1 rfl D__law_draw.m D__law_draw.kp D__law_draw.b .nil pass0 (pa_cons (pv 0) (pa_cons pe_int pa_nil))) pe_int (nomark _)))) (fun _ _ _ _ _ => (pv 2))) pa_nil)))), ?_⟩
    unfold tRet tCB tCons
    refine lcT_drawX (r := r) (c := c) (d := d) (· = ns) (fun R hR2 => ⟨_, rfl, hR2 ns a H rfl Cl.refl hR ha⟩) (fun _ => rfl) (fun _ => rfl) (fun _ e => by rw [e]; omega) (fun s1 H1 e c1 g1 he R hR2 => ?_) fun _ L ms H' e nL c1 g1 Lr hL ml mi => ?_
    · exact ⟨_, rfl, r, c, 2, e, rfl, by decide, by decide, by omega, g1, fun z H2 c2 g2 z0 z1 => ⟨rfl, _, rfl, hR2 _ H2 c2 g2⟩⟩
    · subst e
      refine ⟨L, _, rfl, .inl ⟨sl_ hL, fun t nt => ?_⟩⟩
      exact q _ ms _ (c1.trans (Cl.of (same_upd nt))) ((g1.same (same_upd nt)).le (by omega)) ⟨t, rfl, st_ upd_same⟩ (by omega) mi
/-! ### the crews left in people -/
abbrev s_left : Stmt := top 30
abbrev N_left : List Str := ["_law_teams_here", "_law_here", "_law_team"]
theorem sc_left : FnScope N_left ["_law_teams_here", "_law_here"] (defScope s_left) := ⟨rfl, rfl, rfl, by decide +kernel, rfl, by decide +kernel, by decide +kernel⟩
def sp_left (K : Frag) : Sp := fun vs H Q _ => ∃ (x y : V) (ts : List (List Str)) (ps : List Str), vs = [x, y] ∧ S2 K H x ts ∧ S1 K H y ps ∧ Gt ts ∧ ∀ v H', Same H H' → S2 K H' v (left ts ps) → Q v H'
theorem ok_left {f : Addr} {fd : FuncData} {k : Nat} (F : Fun K "_law_left" "_law_left" s_left f fd) (B : Blt mg) (D__law_is_part : Own P w K mg base 1 "_law_is_part" ["_law_some", "_law_others"] (sp_part K)) : FnOk P w K mg base CX0 (k + 2) f fd ["_law_teams_here", "_law_here"] (sp_left K) := by
  refine F.ok sc_left (fun vs H Q E h => ?_) (fun cdv A outer s H vs Q E hr h => ?_)
  · obtain ⟨_, _, _, _, rfl, _⟩ := h
    rfl
  · obtain ⟨x, y, ts, ps, rfl, ⟨a, us, rfl, ha, hp⟩, hy, gt, q⟩ := h
    have hr1 : Room 1 _ := hr.mono (by omega)
    refine ⟨_, (pss_one (ps_ret (pe_callTy (c_tuple K) (by rfl) B.tuple (by decide +kernel) (pa_cons (pe_lc (own := [("_law_team", 2)]) (g := gName 2) rfl sc_left.nd (p_tup K (pv 0)) (blkOk_by (own := [("_law_team", 2)]) (N := N_left) (sc := defScope s_left) (by decide +kernel)) (fun _ _ _ _ _ => (pg_name (i := 2) sc_left.nd rfl (Or.inl rfl))) (fun _ _ _ _ _ => (pts_one (pt_val (pe_call D__law_is_part.G hr1 rfl D__law_is_part.m D__law_is_part.kp D__law_is_part.b .nil pass0 (pa_cons (pv 2) (pa_cons (pv 1) pa_nil)))))) (fun _ _ _ _ _ => (pv 2))) pa_nil)))), ?_⟩
    unfold tRet tCB tCons tNil
    refine lcT_pair (F := S1 K) (fun _ _ _ _ e z => z.same e) (fun t => has ps t) (fun R hR => ⟨_, rfl, hR⟩) ha hp (by have := gt.many; omega) (fun _ => rfl) (fun _ => rfl) (fun v t ht H1 e1 hv R hR => ?_) fun L ws H1 nL e1 hL hw => ?_
    · exact ⟨_, rfl, _, rfl, v, y, t, ps, rfl, hv, hy.same e1, by have := (gt.each t ht).2.1; omega, (gt.each t ht).2.2, fun H2 e2 => ⟨_, rfl, hR H2 e2⟩⟩
    · exact ⟨L, _, rfl, .inl ⟨sl_ hL, fun t nt => q _ _ (e1.trans (same_upd nt)) ⟨t, ws, rfl, st_ upd_same, prd_mono (fun _ _ z => z.same (same_upd nt)) hw⟩⟩⟩
/-! ### present people -/
abbrev s_scene : Stmt := top 29
abbrev N_scene : List Str := ["_law_feed_here", "_law_teams_here", "_law_team", "_law_here", "_law_name"]
theorem sc_scene : FnScope N_scene ["_law_feed_here", "_law_teams_here"] (defScope s_scene) := ⟨rfl, rfl, rfl, by decide +kernel, rfl, by decide +kernel, by decide +kernel⟩
def sp_scene (K : Frag) : Sp := fun vs H Q _ => ∃ (r c : Addr) (x : V) (d : Int) (ts : List (List Str)), vs = [.ref r, x] ∧ S2 K H x ts ∧ ts ≠ [] ∧ ts.length ≤ 12 ∧ (∀ t ∈ ts, Pt t) ∧ d ≤ 900000 ∧ Fd H r c d ∧ ∀ p v u ms tm H', Cl r H H' → Fd H' r c (d + 20) → SqT K H' p [v, u] → S1 K H' v ms → S1 K H' u tm → tm ∈ ts → ms.length ≤ 8 → (∀ n ∈ ms, n ∈ ts.flatten) → Q (.ref p) H'
theorem ok_scene {f : Addr} {fd : FuncData} {k : Nat} (F : Fun K "_law_scene" "_law_scene" s_scene f fd) (B : Blt mg) (D__law_draw : Own P w K mg base 1 "_law_draw" ["_law_feed_here", "_law_limit"] sp_draw) (D__law_choice : Own P w K mg base 2 "_law_choice" ["_law_feed_here", "_law_some"] (sp_choiceT K)) (D__law_folk : Own P w K mg base 1 "_law_folk" ["_law_teams_here"] (sp_folk K)) : FnOk P w K mg base CX0 (k + 3) f fd ["_law_feed_here", "_law_teams_here"] (sp_scene K) := by
  refine F.ok sc_scene (fun vs H Q E h => ?_) (fun cdv A outer s H vs Q E hr h => ?_)
  · obtain ⟨_, _, _, _, _, rfl, _⟩ := h
    rfl
  · obtain ⟨r, c, x, d, ts, rfl, ⟨a, us, rfl, ha, hp⟩, tne, t12, hpt, hd, hR, q⟩ := h
    have hr1 : Room 1 _ := hr.mono (by omega)
    have hr2 : Room 2 _ := hr.mono (by omega)
    have ulen := prd_len hp
    refine ⟨_, (pss_cons (ps_set (i := 2) sc_scene.nd rfl (Or.inr rfl) (pe_call D__law_choice.G hr2 rfl D__law_choice.m D__law_choice.kp D__law_choice.b .nil pass0 (pa_cons (pv 0) (pa_cons (pv 1) pa_nil))))
      (pss_cons (ps_setLc (i := 3) (own := [("_law_name", 4)]) (g := gName 4) rfl sc_scene.nd rfl rfl (sw_true rfl rfl rfl (by decide +kernel)) (p_tup K (pe_call D__law_folk.G hr1 rfl D__law_folk.m D__law_folk.kp D__law_folk.b .nil pass0 (pa_cons (pv 1) pa_nil))) (blkOk_by (own := [("_law_name", 4)]) (N := N_scene) (sc := defScope s_scene) (by decide +kernel)) (fun _ _ _ _ _ => (pg_name (i := 4) sc_scene.nd rfl (Or.inl rfl))) (fun _ _ _ _ _ => (pts_one (PW.pt (pw_or (pt_cmpR (o_in K) (pv 4) (pv 2) rfl) (pw_or1 (pt_cmpR op_gt (pe_call D__law_draw.G hr1 rfl D__law_draw.m D__law_draw.kp D__law_draw.b .nil pass0 (pa_cons (pv 0) (pa_cons pe_int pa_nil))) pe_int (nomark _))))))) (fun _ _ _ _ _ => (pv 4)))
      (pss_one (ps_ret (pe_tup (pa_cons (pe_callTy (c_tuple K) (by rfl) B.tuple (by decide +kernel) (pa_cons (pv 3) pa_nil)) (pa_cons (pv 2) pa_nil))))))), ?_⟩
    refine sq_set ⟨_, rfl, _, rfl, r, c, a, d, us, rfl, ha, fun e => ?_, by omega, by omega, hR, fun i u H1 c1 g1 hi => ?_⟩
    · rw [e] at ulen
      exact tne (List.eq_nil_of_length_eq_zero ulen.symm)
    have hS2 : S2 K H1 (.ref a) ts := ⟨a, us, rfl, c1.sqT ha, c1.s1s hp⟩
    obtain ⟨t, ht, at_, rfl, hat⟩ := prd_getL (c1.s1s hp) hi
    refine sq_set ?_
    refine lcT_drawX (r := r) (c := c) (d := d + 1) (fun ks => ks.length ≤ 8 ∧ ∀ n, n ∈ ks ↔ n ∈ ts.flatten) (fun R hR2 => ⟨_, rfl, .ref a, ts, rfl, hS2, t12, hpt, fun v H2 e2 hv k8 => ?_⟩) (fun _ => rfl) (fun _ => rfl) (fun _ e => by omega) (fun s1 H3 e c3 g3 he R hR2 => ?_) fun ks L ms H3 hk nL c3 g3 Lr hL ml mi => ?_
    · obtain ⟨b, rfl, hb⟩ := hv
      exact hR2 (folk ts) b H2 ⟨k8, fun n => once_mem⟩ (Cl.of e2) (g1.same e2) hb
    · refine ⟨_, rfl, _, rfl, at_, _, rfl, .inr (c3.sqT hat), rfl, flat_strs t, _, rfl, ite2 (fun _ => hR2 _ H3 Cl.refl (g3.le (by omega))) fun _ => ?_⟩
      exact ⟨_, rfl, r, c, 4, e, rfl, by decide, by decide, by omega, g3, fun z H4 c4 g4 z0 z1 => ⟨_, _, rfl, rfl, _, rfl, hR2 _ H4 c4 g4⟩⟩
    · refine ⟨_, rfl, L, _, rfl, .inl ⟨sl_ hL, fun l nl => ⟨_, rfl, (by decide : 2 ≤ sizeLine), fun p np => ?_⟩⟩⟩
      have s4 := same_upd (o := .tup (ms.map V.str)) nl
      have s5 := same_upd (o := .tup [.ref l, .ref at_]) np
      exact q p (.ref l) (.ref at_) ms t _ ((c1.trans c3).trans (Cl.of (s4.trans s5))) ((g3.same (s4.trans s5)).le (by omega)) (st_ upd_same) ⟨l, rfl, st_ (s5 _ _ upd_same)⟩ ⟨at_, rfl, sameT (s4.trans s5) (c3.sqT hat)⟩ (List.mem_of_getElem? ht) (by omega) fun n hn => (hk.2 n).mp (mi n hn)
end
end K17

namespace Cb
open PySem PySem.Spec PyProof.Rows L2 PySem.W
def rNinT (K : Frag) : R2 := fun x y H Q => ∃ d ds, Dp K H x d ∧ Dp K H y (.tuple ds) ∧ SeqAt.shaped d = true ∧ SeqAt.shaped (.list ds) = true ∧ Q (.bl (!ds.any fun z => PyData.eqv z d)) H
theorem o_ninT {X : Cx} {K : Frag} (hu : X.A.units + 65 < cLine) (e : X.K = K := by rfl) : OpR X (compareOp .NotIn) (rNinT K) := by
  subst e
  intro pins s σ H x y v u Q I rx ry h
  obtain ⟨d, ds, hd, he, sd, se, q⟩ := h
  obtain ⟨as, r1⟩ := Dp.reads I d x v hd rx
  obtain ⟨bs, r2⟩ := Dp.reads I (.tuple ds) y u he ry
  exact SeqAt.notIn_tuple_reads r2 r1 (SeqAt.canLay_of_shaped se) (SeqAt.canLay_of_shaped sd) (room_in_shaped sd hu) ⟨.bl _, H, I, rfl, q⟩
theorem nx_ret {te : TE} {D : Ends} {rt : VK} {bk ct : Stt → Hp → Prop} {σ : Stt} {H : Hp} (h : te σ H D.rt) : (Ends.mk (tRet te D) rt bk ct).nx σ H := h
theorem c_isi {X : Cx} {K : Frag} (e : X.K = K := by rfl) : CallR X (.builtin "isinstance") (rIsi K) := by subst e; exact call_isi
abbrev Okv : PD → Prop := Okd 14 4
theorem okv_tup {ds : List PD} (h : Okv (.tuple ds)) : ds.length ≤ 14 ∧ ∀ e ∈ ds, Okv e := by
  obtain ⟨k, hk, h1, h2⟩ := h.tup
  exact ⟨h1, fun e he => (h2 e he).mono (Nat.le_refl _) (by omega)⟩
end Cb
namespace K17
open PySem PySem.Spec PyProof.Rows L2 PySem.W Cb Evl
/-- a value is judged -/
def sp_pd (K : Frag) (f : PD → Bool) : Sp := fun vs H Q _ => ∃ (v : V) (d : PD), vs = [v] ∧ Dp K H v d ∧ Okv d ∧ ∀ H', Same H H' → Q (.bl (f d)) H'
structure Bl2 (mg : Str → Option Value) : Prop where
  isi : mg "isinstance" = none
  str : mg "str" = none
  zip : mg "zip" = none
section
variable {P : Program} {w : World} {K : Frag} {mg : Str → Option Value} {base : Heap}
/-! ### is_name -/
abbrev s_is_name : Stmt := top 12
abbrev N_is_name : List Str := ["thing", "letter"]
theorem sc_is_name : FnScope N_is_name ["thing"] (defScope s_is_name) := ⟨rfl, rfl, rfl, by decide +kernel, rfl, by decide +kernel, by decide +kernel⟩
theorem ok_is_name {f : Addr} {fd : FuncData} {k : Nat} {tM : Tok} (F : Fun K "is_name" "is_name" s_is_name f fd) (B : Blt mg) (C : Bl2 mg) (hM : mg "MOST_LETTERS" = some (Value.int 8 tM)) : FnOk P w K mg base CX0 (k + 1) f fd ["thing"] (sp_pd K isName) := by
  refine F.ok sc_is_name (fun vs H Q E h => ?_) (fun cdv A outer s H vs Q E hr h => ?_)
  · obtain ⟨_, _, rfl, _⟩ := h
    rfl
  · obtain ⟨v, d, rfl, hd, hok, q⟩ := h
    refine ⟨_, (pss_cons (ps_if (PW.pt (pw_or (pt_not (pt_val (pe_callB (c_isi (K := K)) (by rfl) C.isi (by decide +kernel) (pa_cons (pv 0) (pa_cons (pe_bltn (v := .ty "str") (by rfl) C.str (by decide +kernel) rfl) pa_nil))))) (pw_or1 (pt_not (pt_chain op_le op_le pe_int (pe_callB call_len_str (by rfl) B.len (by decide +kernel) (pa_cons (pv 0) pa_nil)) (pe_glob (v := .int 8) (by rfl) hM ⟨_, rfl⟩)))))) (pss_one (ps_ret pe_bl)) pss_nil)
      (pss_one (ps_ret (pe_callB (c_all K) (by rfl) B.all (by decide +kernel) (pa_cons (pe_lc (own := [("letter", 1)]) (g := gName 1) (tt := tYes) rfl sc_is_name.nd (pi_str (pv 0)) (blkOk_by (own := [("letter", 1)]) (N := N_is_name) (sc := defScope s_is_name) (by decide +kernel)) (fun _ _ _ _ _ => (pg_name (i := 1) sc_is_name.nd rfl (Or.inl rfl))) (fun _ _ _ _ _ => pts_nil) (fun _ _ _ _ _ => (pe_chain op_le_str op_le_str pe_str (pv 1) pe_str))) pa_nil))))), ?_⟩
    unfold tCB tCons tNil tC
    refine ⟨_, rfl, ?_⟩
    show rIsi K [v, .ty "str"] H _
    refine isi_str hd ⟨_, rfl, ?_⟩
    have no : (tyN d == "str") = false → isName d = false := fun e => by
      cases d <;> first | rfl | exact absurd e (by simp [tyN])
    cases hS : (tyN d == "str") with
    | false =>
      refine ite2 (fun _ => ?_) fun h => absurd rfl h
      have := q H (Same.refl _)
      rw [no hS] at this
      exact this
    | true =>
      obtain ⟨s, rfl⟩ : ∃ s, d = .str s := by
        cases d <;> first | exact ⟨_, rfl⟩ | exact absurd hS (by simp [tyN])
      obtain rfl := dp_str hd
      have hl := hok.str.2
      refine ite2 (fun h => absurd h (by decide)) fun _ => ?_
      refine ⟨_, rfl, s, rfl, Nat.le_of_lt (big (by omega)), _, _, rfl, rfl, _, rfl, ?_⟩
      by_cases h1 : (1 : Int) ≤ (s.length : Int)
      · rw [decide_eq_true h1]
        refine ite2 (fun _ => ?_) fun h => absurd rfl h
        refine ⟨_, _, rfl, rfl, _, rfl, ?_⟩
        by_cases h2 : (s.length : Int) ≤ 8
        · rw [decide_eq_true h2]
          refine ite2 (fun h => absurd h (by decide)) fun _ => ?_
          refine nx_ret ?_
          refine lcS_filter (x := s) (tl := tVar 0) (j := 1) (vs := [1]) (fun _ => true) (fun c => .bl (isLow ⟨#[c]⟩)) (fun R hR => ⟨_, rfl, hR⟩) (by omega) (fun _ => rfl) (fun c H1 e1 R hR => hR) (fun c _ H1 e1 R hR => ?_) fun D H' hD e hH => ?_
          · refine ⟨_, rfl, _, _, rfl, rfl, _, rfl, ?_⟩
            cases ha : (!decide ((⟨#[c]⟩ : Str).cps.toList < ("a" : Str).cps.toList)) with
            | true =>
              refine ite2 (fun _ => ⟨_, _, rfl, rfl, ?_⟩) fun h => absurd rfl h
              have el : isLow ⟨#[c]⟩ = !decide (("z" : Str).cps.toList < (⟨#[c]⟩ : Str).cps.toList) := by
                unfold isLow
                rw [ha]
                rfl
              rw [el] at hR
              exact hR
            | false =>
              refine ite2 (fun h => absurd h (by decide)) fun _ => ?_
              have el : isLow ⟨#[c]⟩ = false := by
                unfold isLow
                rw [ha]
                rfl
              rw [el] at hR
              exact hR
          · have e2 : (s.cps.toList.filter (fun _ => true)).map (fun c => V.bl (isLow ⟨#[c]⟩)) = (s.cps.toList.map fun c => isLow ⟨#[c]⟩).map V.bl := by
              rw [List.filter_eq_self.mpr (fun _ _ => rfl), List.map_map]
              rfl
            rw [e2] at hH
            refine ⟨D, _, rfl, sl_ hH, ?_⟩
            have e3 : (s.cps.toList.map fun c => isLow ⟨#[c]⟩).all id = isName (.str s) := by
              show _ = ((decide (1 ≤ (s.length : Int)) && decide ((s.length : Int) ≤ 8)) && _)
              rw [List.all_map, decide_eq_true h1, decide_eq_true h2]
              rfl
            rw [e3]
            exact q _ e
        · rw [decide_eq_false h2]
          refine ite2 (fun _ => ?_) fun h => absurd rfl h
          have e3 : isName (.str s) = false := by
            show ((decide (1 ≤ (s.length : Int)) && decide ((s.length : Int) ≤ 8)) && _) = false
            rw [decide_eq_true h1, decide_eq_false h2]
            rfl
          rw [e3] at q
          exact q H (Same.refl _)
      · rw [decide_eq_false h1]
        refine ite2 (fun h => absurd h (by decide)) fun _ => ⟨_, rfl, ite2 (fun _ => ?_) fun h => absurd rfl h⟩
        have e3 : isName (.str s) = false := by
          show ((decide (1 ≤ (s.length : Int)) && decide ((s.length : Int) ≤ 8)) && _) = false
          rw [decide_eq_false h1]
          rfl
        rw [e3] at q
        exact q H (Same.refl _)
/-! ### is_tuple_of_names -/
abbrev s_names : Stmt := top 14
abbrev N_names : List Str := ["thing", "name"]
theorem sc_names : FnScope N_names ["thing"] (defScope s_names) := ⟨rfl, rfl, rfl, by decide +kernel, rfl, by decide +kernel, by decide +kernel⟩
theorem ok_names {f : Addr} {fd : FuncData} {k : Nat} (F : Fun K "is_tuple_of_names" "is_tuple_of_names" s_names f fd) (B : Blt mg) (C : Bl2 mg) (D_name : Own P w K mg base 1 "is_name" ["thing"] (sp_pd K isName)) : FnOk P w K mg base CX0 (k + 2) f fd ["thing"] (sp_pd K namesD) := by
  refine F.ok sc_names (fun vs H Q E h => ?_) (fun cdv A outer s H vs Q E hr h => ?_)
  · obtain ⟨_, _, rfl, _⟩ := h
    rfl
  · obtain ⟨v, d, rfl, hd, hok, q⟩ := h
    have hr1 : Room 1 _ := hr.mono (by omega)
    refine ⟨_, (pss_one (ps_ret (pe_and (pe_callB (c_isi (K := K)) (by rfl) C.isi (by decide +kernel) (pa_cons (pv 0) (pa_cons (pe_bltn (v := .ty "tuple") (by rfl) B.tuple (by decide +kernel) rfl) pa_nil))) (pe_one (pe_callB (c_all K) (by rfl) B.all (by decide +kernel) (pa_cons (pe_lc (own := [("name", 1)]) (g := gName 1) (tt := tYes) rfl sc_names.nd (p_tup K (pv 0)) (blkOk_by (own := [("name", 1)]) (N := N_names) (sc := defScope s_names) (by decide +kernel)) (fun _ _ _ _ _ => (pg_name (i := 1) sc_names.nd rfl (Or.inl rfl))) (fun _ _ _ _ _ => pts_nil) (fun _ _ _ _ _ => (pe_call D_name.G hr1 rfl D_name.m D_name.kp D_name.b .nil pass0 (pa_cons (pv 1) pa_nil)))) pa_nil)))))), ?_⟩
    unfold tRet tCB tCons tNil tC
    refine ⟨_, rfl, ?_⟩
    show rIsi K [v, .ty "tuple"] H _
    refine isi_tup hd ⟨_, rfl, ?_⟩
    have no : (tyN d == "tuple") = false → namesD d = false := fun e => by
      cases d <;> first | rfl | exact absurd e (by simp [tyN])
    cases hS : (tyN d == "tuple") with
    | false =>
      refine ite2 (fun h => absurd h (by decide)) fun _ => ?_
      have := q H (Same.refl _)
      rw [no hS] at this
      exact this
    | true =>
      obtain ⟨ds, rfl⟩ : ∃ ds, d = .tuple ds := by
        cases d <;> first | exact ⟨_, rfl⟩ | exact absurd hS (by simp [tyN])
      obtain ⟨a, xs, rfl, ha, hxs⟩ := dp_tup hd
      obtain ⟨dl, de⟩ := okv_tup hok
      have xl := dps_len hxs
      refine ite2 (fun _ => ?_) fun h => absurd rfl h
      refine lcT_rel (K := K) (xs := xs) (tl := tVar 0) (j := 1) (vs := [1]) (F := fun _ (v : V) (b : Bool) => v = .bl b) (fun _ _ _ _ _ z => z) (ds.map isName) (fun R hR => ⟨_, rfl, hR a H (Same.refl H) ha⟩) (by omega) (by rw [List.length_map]; exact xl) (fun _ => rfl) (fun i x b hx hb H1 e1 R hR => ?_) fun D us H' hD e hH hp => ?_
      · rw [List.getElem?_map] at hb
        obtain ⟨d1, hd1, rfl⟩ := Option.map_eq_some_iff.mp hb
        obtain ⟨d2, hd2, hx2⟩ := prd_getL (dps_pair hxs) hx
        rw [hd1] at hd2
        cases hd2
        exact ⟨_, rfl, x, d1, rfl, dpSame e1 _ _ hx2, de d1 (List.mem_of_getElem? hd1), fun H2 e2 => hR _ H2 e2 rfl⟩
      · have eu : us = (ds.map isName).map V.bl := by
          have : ∀ (us : List V) (bs : List Bool), Paired (fun (v : V) (b : Bool) => v = .bl b) us bs → us = bs.map V.bl := fun us bs h => by
            induction h with
            | nil => rfl
            | cons r t ih => rw [r, ih]; rfl
          exact this _ _ hp
        subst eu
        refine ⟨D, _, rfl, sl_ hH, ?_⟩
        have e3 : (ds.map isName).all id = namesD (.tuple ds) := by
          rw [List.all_map]
          rfl
        rw [e3]
        exact q _ e
/-! ### is_ascending -/
abbrev s_asc : Stmt := top 5
abbrev N_asc : List Str := ["things", "one", "other"]
theorem sc_asc : FnScope N_asc ["things"] (defScope s_asc) := ⟨rfl, rfl, rfl, by decide +kernel, rfl, by decide +kernel, by decide +kernel⟩
def sp_asc (K : Frag) : Sp := fun vs H Q _ => ∃ (v : V) (ns : List Str), vs = [v] ∧ S1 K H v ns ∧ ns.length ≤ 1000 ∧ ∀ H', Same H H' → Q (.bl (asc ns)) H'
theorem ok_asc {f : Addr} {fd : FuncData} {k : Nat} (F : Fun K "is_ascending" "is_ascending" s_asc f fd) (B : Blt mg) (C : Bl2 mg) : FnOk P w K mg base CX0 (k + 1) f fd ["things"] (sp_asc K) := by
  refine F.ok sc_asc (fun vs H Q E h => ?_) (fun cdv A outer s H vs Q E hr h => ?_)
  · obtain ⟨_, _, rfl, _⟩ := h
    rfl
  · obtain ⟨v, ns, rfl, hv, hl, q⟩ := h
    refine ⟨_, (pss_one (ps_ret (pe_callB (c_all K) (by rfl) B.all (by decide +kernel) (pa_cons (pe_lc (own := [("one", 1), ("other", 2)]) (tt := tYes) rfl sc_asc.nd (show PI _ _ _ (RZ.iZipA K _) from RZ.pi_zipA rfl C.zip (pa_cons (pv 0) (pa_cons (pe_slice (s_tupA K) (pv 0) (po_some pe_int) po_none) pa_nil))) (blkOk_by (own := [("one", 1), ("other", 2)]) (N := N_asc) (sc := defScope s_asc) (by decide +kernel))
      (fun _ _ _ _ _ => (show PG _ _ (gTup K 2 _) from pg_tup rfl (pgs_cons (pg_name (i := 1) sc_asc.nd rfl (Or.inl rfl)) (pgs_cons (pg_name (i := 2) sc_asc.nd rfl (Or.inl rfl)) pgs_nil)))) (fun _ _ _ _ _ => pts_nil) (fun _ _ _ _ _ => (pe_cmpR op_lt_str (pv 1) (pv 2) (nomark _)))) pa_nil)))), ?_⟩
    unfold tRet tCB tCons tNil
    refine lcZ_map (K := K) (i := 1) (j := 2) (vs := [1, 2]) (ns := ns) (ms := ns.drop 1) (fun x y => .bl (ltS x y)) (fun R hR => ?_) hl (fun T x y H1 R hT hR => ?_) (fun _ _ => rfl) (fun x y H1 e1 R hR => ?_) fun D H' hD e hH => ?_
    · obtain ⟨a, rfl, ha⟩ := id hv
      refine ⟨_, rfl, _, rfl, 1, rfl, ?_⟩
      unfold tNoPart
      refine slA_names hv fun u H1 e1 hu => ?_
      rw [cut_one] at hu
      obtain ⟨b, rfl, hb⟩ := hu
      exact hR a b H1 e1 (sameT e1 ha) hb
    · exact ⟨T, _, rfl, st_ hT, rfl, _, _, rfl, _, _, rfl, rfl, hR⟩
    · exact ⟨_, rfl, _, rfl, _, _, rfl, rfl, hR⟩
    · have e2 : ((ns.zip (ns.drop 1)).map fun p => V.bl (ltS p.1 p.2)) = ((ns.zip (ns.drop 1)).map fun p => ltS p.1 p.2).map V.bl := by
        rw [List.map_map]
        rfl
      rw [e2] at hH
      refine ⟨D, _, rfl, sl_ hH, ?_⟩
      have e3 : ((ns.zip (ns.drop 1)).map fun p => ltS p.1 p.2).all id = asc ns := by
        rw [List.all_map]
        rfl
      rw [e3]
      exact q _ e
/-! ### is_set -/
def setD : PD → Bool
  | .tuple ds => ds.all isName && asc (ds.map strD)
  | _ => false
abbrev s_is_set : Stmt := top 13
theorem sc_is_set : FnScope ["thing"] ["thing"] (defScope s_is_set) := ⟨rfl, rfl, rfl, by decide +kernel, rfl, by decide +kernel, by decide +kernel⟩
theorem names_s1 {H : Hp} {v : V} {ds : List PD} (hd : Dp K H v (.tuple ds)) (hn : ds.all isName = true) : S1 K H v (ds.map strD) := by
  refine dp_s1 ?_
  unfold sD
  rw [← names_str hn]
  exact hd
theorem ok_is_set {f : Addr} {fd : FuncData} {k : Nat} (F : Fun K "is_set" "is_set" s_is_set f fd) (D_names : Own P w K mg base 2 "is_tuple_of_names" ["thing"] (sp_pd K namesD)) (D_asc : Own P w K mg base 1 "is_ascending" ["things"] (sp_asc K)) : FnOk P w K mg base CX0 (k + 3) f fd ["thing"] (sp_pd K setD) := by
  refine F.ok sc_is_set (fun vs H Q E h => ?_) (fun cdv A outer s H vs Q E hr h => ?_)
  · obtain ⟨_, _, rfl, _⟩ := h
    rfl
  · obtain ⟨v, d, rfl, hd, hok, q⟩ := h
    have hr1 : Room 1 _ := hr.mono (by omega)
    have hr2 : Room 2 _ := hr.mono (by omega)
    refine ⟨_, (pss_one (ps_ret (pe_and (pe_call D_names.G hr2 rfl D_names.m D_names.kp D_names.b .nil pass0 (pa_cons (pv 0) pa_nil)) (pe_one (pe_call D_asc.G hr1 rfl D_asc.m D_asc.kp D_asc.b .nil pass0 (pa_cons (pv 0) pa_nil)))))), ?_⟩
    refine ⟨_, rfl, v, d, rfl, hd, hok, fun H1 e1 => ⟨_, rfl, ?_⟩⟩
    cases hn : namesD d with
    | false =>
      refine ite2 (fun h => absurd h (by decide)) fun _ => ?_
      have e : setD d = false := by
        cases d <;> first | rfl | (show (List.all _ isName && _) = false; rw [show List.all _ isName = false from hn]; rfl)
      rw [e] at q
      exact q H1 e1
    | true =>
      obtain ⟨ds, rfl⟩ : ∃ ds, d = .tuple ds := by
        cases d <;> first | exact ⟨_, rfl⟩ | exact absurd (show false = true from hn) (by decide)
      have hn : ds.all isName = true := hn
      refine ite2 (fun _ => ?_) fun h => absurd rfl h
      have dl := (okv_tup hok).1
      refine ⟨_, rfl, v, ds.map strD, rfl, (names_s1 hd hn).same e1, by rw [List.length_map]; omega, fun H2 e2 => ?_⟩
      have e : setD (.tuple ds) = asc (ds.map strD) := by
        show (ds.all isName && asc (ds.map strD)) = _
        rw [hn]
        rfl
      rw [e] at q
      exact q H2 (e1.trans e2)
end
end K17

namespace Cb
open PySem PySem.Spec PyProof.Rows L2 PySem.W
section
variable {P : Program} {w : World} {K : Frag} {mg : Str → Option Value} {base : Heap}
/-- def f(a, .., *v) by its body, its exceptions told to nobody -/
theorem fun_star {x qual : Str} {st : Stmt} {f : Addr} {fd : FuncData} {N ps : List Str} {pv : Str} {k : Nat} {sp : Sp} (F : Fun K x qual st f fd) (S : FnScope N (ps ++ [pv]) (defScope st))
    (hb : ∀ (kV doc pm : Value) (an : Option Addr) (cdv ct : Value) (us rest : List Value), us.length = ps.length → bindArgs (PySem.W.fnOf x qual (defArgs st) (defBody st) (defScope st) .none kV doc pm an cdv ct) ⟨us ++ rest, []⟩ = (newTuple rest >>= fun t => pure (ps.zip us ++ [(pv, t)])))
    (hbody : ∀ (cdv : Value) (A : Around) (outer : List Env) (s : Shared) (H : Hp) (vs : List V) (Q : VK) (E : XK), Room k (A.deeper (envOfC qual (defScope st) s.heap.objs.size f cdv)) → sp vs H Q E →
      ∃ t, PSs (cxOf CX0 P w K mg base N qual (defScope st) f cdv A outer s H E).nox (defBody st) t ∧ t { nx := fun _ H' => Q .non H', rt := Q } (start N vs) H) :
    FnR P w K mg base CX0 (k + 1) f (fun vs H Q E => ∃ ws rest, vs = ws ++ rest ∧ ws.length = ps.length ∧ rest.length ≤ sizeLine ∧ ∀ p, H p = Option.none → sp (ws ++ [V.ref p]) (upd H p (.tup rest)) Q E) := by
  obtain ⟨oc, od, kV, doc, pm, an, cdv, ct, osl, rfl, lk, hcd⟩ := F.ex
  refine StX.fn_star lk hcd S StX.cxUp_none (hb kV doc pm an cdv ct) fun A outer s H vs Q E hr hsp => ?_
  obtain ⟨t, h, q⟩ := hbody cdv A outer s H vs Q E hr hsp
  exact ⟨t, h.nox, q⟩
end
/-- a def with a star that stands where its name says -/
structure OwnR (P : Program) (w : World) (K : Frag) (mg : Str → Option Value) (base : Heap) (k : Nat) (x : Str) (sp : Sp) where
  f : Addr
  G : FnR P w K mg base CX0 k f sp
  m : mg x = some (.ref f)
  kp : keepIn K (.ref f) = true
end Cb
namespace K17
open PySem PySem.Spec PyProof.Rows L2 PySem.W Cb Evl
theorem isIn_of {n : Str} {ns : List Str} (h : n ∈ ns) : Cb.isIn n ns = true := by
  unfold Cb.isIn
  rw [List.any_eq_true]
  exact ⟨n, h, by simp⟩
theorem Gt.ofPt {ts : List (List Str)} (h12 : ts.length ≤ 12) (h : ∀ t ∈ ts, Pt t) : Gt ts := ⟨by omega, fun t ht => (h t ht).ok⟩
/-! ### what a situation is, said twice -/
def psD : PD → List Str
  | .tuple ds => ds.map strD
  | _ => []
def isSit (ts : List (List Str)) : PD → Bool
  | .tuple [p, c] => setD p && has (folk ts) (psD p) && ((ts.map sD).any fun z => PyData.eqv z c) && has (psD p) (psD c)
  | _ => false
def sceneB (ts : List (List Str)) (ns cs : List Str) : Bool := decide (ns = (folk ts).filter fun n => isIn n ns) && isOne cs ts && has ns cs
def expd (ts : List (List Str)) : PD → Bool
  | .tuple [p, c] => namesD p && (namesD c && sceneB ts (psD p) (psD c))
  | _ => false
theorem eqvAll_inv : ∀ (t : List Str) (ds : List PD), PyData.eqvAll (t.map .str) ds = true → ds = t.map .str
  | [], [], _ => rfl
  | [], d :: ds, h => by simp [PyData.eqvAll] at h
  | n :: t, [], h => by simp [PyData.eqvAll] at h
  | n :: t, d :: ds, h => by
    have h : PyData.eqvAll (.str n :: t.map .str) (d :: ds) = true := h
    rw [PyData.eqvAll, Bool.and_eq_true] at h
    obtain ⟨h1, h2⟩ := h
    rw [eqvAll_inv t ds h2]
    have e : d = .str n := by
      cases d with
      | str m =>
        rw [PyData.eqv] at h1
        rw [eq_of_beq h1]
      | _ => simp [PyData.eqv] at h1
    rw [e]
    rfl
theorem eqv_inv {t : List Str} {c : PD} (h : PyData.eqv (sD t) c = true) : c = sD t := by
  unfold sD at h ⊢
  cases c with
  | tuple ds =>
    rw [PyData.eqv] at h
    rw [eqvAll_inv t ds h]
  | _ => simp [PyData.eqv] at h
theorem any_inv {ts : List (List Str)} {c : PD} (h : ((ts.map sD).any fun z => PyData.eqv z c) = true) : ∃ t, t ∈ ts ∧ c = sD t := by
  rw [List.any_map, List.any_eq_true] at h
  obtain ⟨t, ht, e⟩ := h
  exact ⟨t, ht, eqv_inv e⟩
theorem psD_sD (t : List Str) : psD (sD t) = t := strD_str t
theorem names_inv {d : PD} (h : namesD d = true) : d = sD (psD d) := by
  cases d with
  | tuple ds => exact congrArg PyData.tuple (names_str h)
  | _ => exact absurd (show false = true from h) (by decide)
theorem names_sD {t : List Str} (h : ∀ n ∈ t, nameS n = true) : namesD (sD t) = true := by
  show (t.map PyData.str).all isName = true
  rw [List.all_eq_true]
  intro d hd
  obtain ⟨n, hn, rfl⟩ := List.mem_map.mp hd
  exact h n hn
theorem setD_of {p : PD} (h : namesD p = true) : setD p = asc (psD p) := by
  cases p with
  | tuple ds =>
    show (ds.all isName && asc (ds.map strD)) = asc (ds.map strD)
    rw [show ds.all isName = true from h]
    rfl
  | _ => exact absurd (show false = true from h) (by decide)
theorem setD_no {p : PD} (h : namesD p = false) : setD p = false := by
  cases p with
  | tuple ds =>
    show (ds.all isName && asc (ds.map strD)) = false
    rw [show ds.all isName = false from h]
    rfl
  | _ => rfl
theorem same_words {ts : List (List Str)} (hn : ∀ t ∈ ts, ∀ n ∈ t, nameS n = true) (d : PD) : isSit ts d = expd ts d := by
  have two : ∀ p c : PD, isSit ts (.tuple [p, c]) = expd ts (.tuple [p, c]) := fun p c => by
    show (setD p && has (folk ts) (psD p) && ((ts.map sD).any fun z => PyData.eqv z c) && has (psD p) (psD c)) = (namesD p && (namesD c && sceneB ts (psD p) (psD c)))
    cases hp : namesD p with
    | false => rw [setD_no hp]; rfl
    | true =>
      rw [setD_of hp]
      cases hc : namesD c with
      | false =>
        have e : ((ts.map sD).any fun z => PyData.eqv z c) = false := by
          rw [Bool.eq_false_iff]
          intro h
          obtain ⟨t, ht, e⟩ := any_inv h
          rw [e, names_sD (hn t ht)] at hc
          cases hc
        rw [e]
        simp
      | true =>
        have ec := names_inv hc
        have e1 : ((ts.map sD).any fun z => PyData.eqv z c) = isOne (psD c) ts := by
          rw [ec, any_sD, psD_sD]
        have e2 : decide (psD p = (folk ts).filter fun n => isIn n (psD p)) = (asc (psD p) && has (folk ts) (psD p)) := by
          have fs := filter_self (F := folk ts) (ns := psD p) (once_asc ts.flatten)
          rw [Bool.eq_iff_iff, decide_eq_true_eq, fs, Bool.and_eq_true]
          refine and_congr Iff.rfl ?_
          unfold has
          rw [List.all_eq_true]
          exact ⟨fun h n hn => isIn_iff.mpr (h n hn), fun h n hn => isIn_iff.mp (h n hn)⟩
        unfold sceneB
        rw [e1, e2]
        simp
  match d with
  | .tuple [p, c] => exact two p c
  | .tuple [] => rfl
  | .tuple [_] => rfl
  | .tuple (_ :: _ :: _ :: _) => rfl
  | .none => rfl
  | .bool _ => rfl
  | .int _ => rfl
  | .str _ => rfl
  | .list _ => rfl
  | .dict _ => rfl
section
variable {P : Program} {w : World} {K : Frag} {mg : Str → Option Value} {base : Heap}
/-! ### the names are known -/
abbrev s_check_people : Stmt := top 9
abbrev N_check_people : List Str := ["crews", "groups", "known", "group", "person"]
theorem sc_check_people : FnScope N_check_people ((["crews"] : List Str) ++ (["groups"] : List Str)) (defScope s_check_people) := ⟨rfl, rfl, rfl, by decide +kernel, rfl, by decide +kernel, by decide +kernel⟩
def spB_check (K : Frag) : Sp := fun vs H Q _ => ∃ (x : V) (g : Addr) (gs : List V) (ts ls : List (List Str)), vs = [x, .ref g] ∧ H g = some (.tup gs) ∧ S2 K H x ts ∧ Gt ts ∧ Paired (S1 K H) gs ls ∧ (∀ l ∈ ls, ∀ n ∈ l, n ∈ ts.flatten) ∧ ∀ H', Same H H' → Q .non H'
def sp_check (K : Frag) : Sp := fun vs H Q _ => ∃ (x : V) (gs : List V) (ts ls : List (List Str)), vs = x :: gs ∧ gs.length ≤ 100 ∧ S2 K H x ts ∧ Gt ts ∧ Paired (S1 K H) gs ls ∧ (∀ l ∈ ls, ∀ n ∈ l, n ∈ ts.flatten) ∧ ∀ H', Same H H' → Q .non H'
theorem ok_check {f : Addr} {fd : FuncData} {k : Nat} (F : Fun K "check_people" "check_people" s_check_people f fd) (B : Blt mg) (D_people_of : Own P w K mg base 1 "people_of" ["crews"] (sp_people K)) : FnR P w K mg base CX0 (k + 2) f (sp_check K) := by
  have M : FnR P w K mg base CX0 (k + 2) f (fun vs H Q E => ∃ ws rest, vs = ws ++ rest ∧ ws.length = (["crews"] : List Str).length ∧ rest.length ≤ sizeLine ∧ ∀ p, H p = Option.none → spB_check K (ws ++ [V.ref p]) (upd H p (.tup rest)) Q E) := by
    refine fun_star (k := k + 1) F sc_check_people (fun kV doc pm an cdv ct => StX.bind_star1 (B := fun us => bindArgs (PySem.W.fnOf "check_people" "check_people" (defArgs s_check_people) (defBody s_check_people) (defScope s_check_people) .none kV doc pm an cdv ct) ⟨us, []⟩) (fun _ => rfl) (fun _ _ _ => rfl)) (fun cdv A outer s H vs Q E hr h => ?_)
    obtain ⟨x, g, gs, ts, ls, rfl, hg, hx, gt, hp, inA, q⟩ := h
    have hr1 : Room 1 _ := hr.mono (by omega)
    refine ⟨_, (pss_cons (ps_set (i := 2) sc_check_people.nd rfl (Or.inl rfl) (pe_call D_people_of.G hr1 rfl D_people_of.m D_people_of.kp D_people_of.b .nil pass0 (pa_cons (pv 0) pa_nil)))
      (pss_one (ps_for PassesOwn.never rfl (p_tup K (pv 1)) (pg_name (i := 3) sc_check_people.nd rfl (Or.inl rfl))
      (pss_one (ps_for PassesOwn.never rfl (p_tup K (pv 3)) (pg_name (i := 4) sc_check_people.nd rfl (Or.inl rfl))
      (pss_one (ps_if (pt_cmpR (o_nin K) (pv 4) (pv 2) rfl) (pss_one Cb.ps_never) pss_nil))))))), ?_⟩
    refine sq_set ⟨_, rfl, x, ts, rfl, hx, gt, fun v H1 e1 hv => ?_⟩
    obtain ⟨va, rfl, hv⟩ := hv
    have key : ∀ (a : Addr) (ns : List Str), SqT K H a (ns.map V.str) → (∀ n ∈ ns, n ∈ ts.flatten) → ∀ (v4 : Option V) (D : Ends), (∀ v4', D.nx [some x, some (.ref g), some (.ref va), some (.ref a), v4'] H1) →
        tFor (iTup K (tVar 3)) (gName 4) (tIfS (tTest (tOp (rIn K true) (tVar 4) (tVar 2))) (fun _ _ _ => False) tNext) D [some x, some (.ref g), some (.ref va), some (.ref a), v4] H1 := fun a ns ha hin v4 D hD => by
      refine ⟨_, rfl, a, rfl, ⟨_, sameT e1 ha⟩, for_tup (xs := ns.map V.str) (fun i σ' H' => H' = H1 ∧ ∃ v4, σ' = [some x, some (.ref g), some (.ref va), some (.ref a), v4]) ⟨rfl, v4, rfl⟩ (fun i σ' H' _ z => ?_) (fun i u σ' H' hi z => ?_) fun σ' H' z => ?_⟩
      · obtain ⟨rfl, _⟩ := z
        exact sameT e1 ha
      · obtain ⟨rfl, v4, rfl⟩ := z
        rw [List.getElem?_map] at hi
        obtain ⟨n, hn, rfl⟩ := Option.map_eq_some_iff.mp hi
        have hin2 : isIn n (folk ts) = true := isIn_of (once_mem.mpr (hin n (List.mem_of_getElem? hn)))
        refine ⟨_, rfl, _, rfl, va, _, rfl, .inr hv, rfl, flat_strs _, _, rfl, ?_⟩
        rw [inV_strs, hin2]
        exact ite2 (fun h => absurd h (by decide)) fun _ => ⟨rfl, _, rfl⟩
      · obtain ⟨rfl, v4, rfl⟩ := z
        exact hD v4
    refine ⟨_, rfl, g, rfl, ⟨_, st_ (e1 _ _ hg)⟩, for_tup (xs := gs) (fun i σ' H' => H' = H1 ∧ ∃ v3 v4, σ' = [some x, some (.ref g), some (.ref va), v3, v4]) ⟨rfl, none, none, rfl⟩ (fun i σ' H' _ z => ?_) (fun i u σ' H' hi z => ?_) fun σ' H' z => ?_⟩
    · obtain ⟨rfl, _⟩ := z
      exact st_ (e1 _ _ hg)
    · obtain ⟨rfl, v3, v4, rfl⟩ := z
      obtain ⟨l, hl, hu⟩ := prd_getL hp hi
      obtain ⟨ua, rfl, hu⟩ := hu
      exact key ua l hu (inA l (List.mem_of_getElem? hl)) v4 _ fun v4' => ⟨rfl, _, v4', rfl⟩
    · obtain ⟨rfl, v3, v4, rfl⟩ := z
      exact q H' e1
  exact fun A outer s H us vs Q E hr e0 r ⟨x, gs, ts, ls, e, gl, hx, gt, hp, inA, q⟩ => M A outer s H us vs Q E hr e0 r ⟨[x], gs, e, rfl, Nat.le_of_lt (big (by omega)), fun p np => ⟨x, p, gs, ts, ls, rfl, upd_same, hx.same (same_upd np), gt, prd_mono (fun _ _ z => z.same (same_upd np)) hp, inA, fun H' e' => q H' ((same_upd np).trans e')⟩⟩
/-! ### is_situation -/
abbrev s_sit : Stmt := top 16
abbrev N_sit : List Str := ["crews", "thing", "present", "crew"]
theorem sc_sit : FnScope N_sit ["crews", "thing"] (defScope s_sit) := ⟨rfl, rfl, rfl, by decide +kernel, rfl, by decide +kernel, by decide +kernel⟩
def sp_sit (K : Frag) : Sp := fun vs H Q _ => ∃ (x v : V) (ts : List (List Str)) (d : PD), vs = [x, v] ∧ S2 K H x ts ∧ Gt ts ∧ Dp K H v d ∧ Okv d ∧ ∀ H', Same H H' → Q (.bl (isSit ts d)) H'
theorem not_two {ts : List (List Str)} {ds : List PD} (h : ds.length ≠ 2) : isSit ts (.tuple ds) = false := by
  match ds, h with
  | [], _ => rfl
  | [_], _ => rfl
  | [_, _], h => exact absurd rfl h
  | _ :: _ :: _ :: _, _ => rfl
theorem ok_sit {f : Addr} {fd : FuncData} {k : Nat} (F : Fun K "is_situation" "is_situation" s_sit f fd) (B : Blt mg) (C : Bl2 mg) (D_set : Own P w K mg base 3 "is_set" ["thing"] (sp_pd K setD)) (D_contains : Own P w K mg base 1 "contains" ["larger", "smaller"] (sp_contains K)) (D_people : Own P w K mg base 1 "people_of" ["crews"] (sp_people K)) :
    FnOk P w K mg base CX0 (k + 4) f fd ["crews", "thing"] (sp_sit K) := by
  refine F.ok sc_sit (fun vs H Q E h => ?_) (fun cdv A outer s H vs Q E hr h => ?_)
  · obtain ⟨_, _, _, _, rfl, _⟩ := h
    rfl
  · obtain ⟨x, v, ts, d, rfl, hx, gt, hd, hok, q⟩ := h
    have hr1 : Room 1 _ := hr.mono (by omega)
    have hr3 : Room 3 _ := hr.mono (by omega)
    have hu : (A.deeper (envOfC "is_situation" (defScope s_sit) s.heap.objs.size f cdv)).units + 65 < cLine := by have := hr.un; omega
    refine ⟨_, (pss_cons (ps_if (PW.pt (pw_or (pt_not (pt_val (pe_callB (c_isi (K := K)) (by rfl) C.isi (by decide +kernel) (pa_cons (pv 1) (pa_cons (pe_bltn (v := .ty "tuple") (by rfl) B.tuple (by decide +kernel) rfl) pa_nil))))) (pw_or1 (pt_cmpR op_ne (pe_callB (c_len K) (by rfl) B.len (by decide +kernel) (pa_cons (pv 1) pa_nil)) pe_int (nomark _))))) (pss_one (ps_ret pe_bl)) pss_nil)
      (pss_cons (ps_asg (pv 1) (show PG _ _ (gTup K 2 _) from pg_tup rfl (pgs_cons (pg_name (i := 2) sc_sit.nd rfl (Or.inl rfl)) (pgs_cons (pg_name (i := 3) sc_sit.nd rfl (Or.inl rfl)) pgs_nil))))
      (pss_cons (ps_if (PW.pt (pw_or (pt_not (pt_val (pe_call D_set.G hr3 rfl D_set.m D_set.kp D_set.b .nil pass0 (pa_cons (pv 2) pa_nil)))) (pw_or1 (pt_not (pt_val (pe_call D_contains.G hr1 rfl D_contains.m D_contains.kp D_contains.b .nil pass0 (pa_cons (pe_call D_people.G hr1 rfl D_people.m D_people.kp D_people.b .nil pass0 (pa_cons (pv 0) pa_nil)) (pa_cons (pv 2) pa_nil)))))))) (pss_one (ps_ret pe_bl)) pss_nil)
      (pss_one (ps_ret (pe_and (pe_cmpR (o_inT K hu) (pv 3) (pv 0) rfl) (pe_one (pe_call D_contains.G hr1 rfl D_contains.m D_contains.kp D_contains.b .nil pass0 (pa_cons (pv 2) (pa_cons (pv 3) pa_nil)))))))))), ?_⟩
    unfold tCB tCons tNil tC
    refine ⟨_, rfl, ?_⟩
    show rIsi K [v, .ty "tuple"] H _
    refine isi_tup hd ⟨_, rfl, ?_⟩
    cases hS : (tyN d == "tuple") with
    | false =>
      have e : isSit ts d = false := by
        cases d <;> first | rfl | exact absurd hS (by simp [tyN])
      rw [e] at q
      exact ite2 (fun _ => q H (Same.refl _)) fun h => absurd rfl h
    | true =>
      obtain ⟨ds, rfl⟩ : ∃ ds, d = .tuple ds := by
        cases d <;> first | exact ⟨_, rfl⟩ | exact absurd hS (by simp [tyN])
      obtain ⟨a, xs, rfl, ha, hxs⟩ := dp_tup hd
      have xl := dps_len hxs
      refine ite2 (fun h => absurd h (by decide)) fun _ => ?_
      refine ⟨_, rfl, a, xs, rfl, .inr ha, rfl, _, rfl, ?_⟩
      by_cases h2 : ds.length = 2
      · obtain ⟨p, c, rfl⟩ : ∃ p c, ds = [p, c] := by
          match ds, h2 with
          | [p, c], _ => exact ⟨p, c, rfl⟩
        obtain ⟨u1, u2, rfl, hp, hc⟩ : ∃ u1 u2, xs = [u1, u2] ∧ Dp K H u1 p ∧ Dp K H u2 c := by
          cases hxs with
          | cons r1 t =>
            cases t with
            | cons r2 t =>
              cases t
              exact ⟨_, _, rfl, r1, r2⟩
        have okp : Okv p := (okv_tup hok).2 p List.mem_cons_self
        have okc : Okv c := (okv_tup hok).2 c (List.mem_cons_of_mem _ List.mem_cons_self)
        refine ite2 (fun h => absurd h (by simp)) fun _ => ?_
        refine nx_asg ⟨_, rfl, a, _, rfl, ha, rfl, _, _, rfl, _, _, rfl, rfl, ?_⟩
        refine ⟨_, rfl, u1, p, rfl, hp, okp, fun H1 e1 => ⟨_, rfl, ?_⟩⟩
        have q0 : ∀ H', Same H H' → Q (.bl (setD p && has (folk ts) (psD p) && ((ts.map sD).any fun z => PyData.eqv z c) && has (psD p) (psD c))) H' := q
        cases hs : setD p with
        | false =>
          rw [hs] at q0
          exact ite2 (fun _ => q0 _ e1) fun h => absurd rfl h
        | true =>
          rw [hs] at q0
          have hn : namesD p = true := by
            cases hn : namesD p with
            | true => rfl
            | false => rw [setD_no hn] at hs; cases hs
          have hp1 : S1 K H u1 (psD p) := dp_s1 (by rw [← names_inv hn]; exact hp)
          have pl : (psD p).length ≤ 1000 := by
            have ep := names_inv hn
            rw [ep] at okp
            have := (okv_tup okp).1
            rw [List.length_map] at this
            omega
          refine ite2 (fun h => absurd h (by decide)) fun _ => ?_
          refine ⟨_, rfl, x, ts, rfl, hx.same e1, gt, fun vf H2 e2 hf => ⟨_, rfl, vf, u1, folk ts, psD p, rfl, hf, (hp1.same e1).same e2, pl, fun H3 e3 => ⟨_, rfl, ?_⟩⟩⟩
          have s3 := (e1.trans e2).trans e3
          cases hh : has (folk ts) (psD p) with
          | false =>
            rw [hh] at q0
            exact ite2 (fun _ => q0 _ s3) fun h => absurd rfl h
          | true =>
            rw [hh] at q0
            refine ite2 (fun h => absurd h (by decide)) fun _ => ?_
            refine ⟨_, rfl, _, rfl, c, ts.map sD, dpSame s3 _ _ hc, (hx.same s3).dp, okc.shaped, shaped_teams (fun t ht => (gt.each t ht).2.2), _, rfl, ?_⟩
            cases hy : ((ts.map sD).any fun z => PyData.eqv z c) with
            | false =>
              rw [hy] at q0
              exact ite2 (fun h => absurd h (by decide)) fun _ => q0 _ s3
            | true =>
              rw [hy] at q0
              obtain ⟨t, ht, rfl⟩ := any_inv hy
              refine ite2 (fun _ => ?_) fun h => absurd rfl h
              refine ⟨_, rfl, _, rfl, u1, u2, psD p, t, rfl, hp1.same s3, (dp_s1 hc).same s3, by have := (gt.each t ht).2.1; omega, fun H4 e4 => ?_⟩
              have := q0 H4 (s3.trans e4)
              rw [psD_sD] at this
              exact this
      · rw [not_two h2] at q
        refine ite2 (fun _ => q H (Same.refl _)) fun h => absurd ?_ h
        rw [Bool.not_eq_true', decide_eq_false_iff_not]
        intro e
        injection e with e
        omega
/-! ### crews_left -/
abbrev s_cleft : Stmt := top 17
theorem sc_cleft : FnScope ["crews", "present"] ["crews", "present"] (defScope s_cleft) := ⟨rfl, rfl, rfl, by decide +kernel, rfl, by decide +kernel, by decide +kernel⟩
def sp_cleft (K : Frag) : Sp := fun vs H Q _ => ∃ (x y : V) (ts : List (List Str)) (ps : List Str), vs = [x, y] ∧ S2 K H x ts ∧ Gt ts ∧ S1 K H y ps ∧ (∀ n ∈ ps, n ∈ ts.flatten) ∧ ∀ v H', Same H H' → S2 K H' v (left ts ps) → Q v H'
theorem ok_cleft {f : Addr} {fd : FuncData} {k : Nat} (F : Fun K "crews_left" "crews_left" s_cleft f fd) (D_check : OwnR P w K mg base 2 "check_people" (sp_check K)) (D_cwithin : Own P w K mg base 2 "crews_within" ["crews", "people"] (sp_cwithin K)) : FnOk P w K mg base CX0 (k + 3) f fd ["crews", "present"] (sp_cleft K) := by
  refine F.ok sc_cleft (fun vs H Q E h => ?_) (fun cdv A outer s H vs Q E hr h => ?_)
  · obtain ⟨_, _, _, _, rfl, _⟩ := h
    rfl
  · obtain ⟨x, y, ts, ps, rfl, hx, gt, hy, inP, q⟩ := h
    have hr2 : Room 2 _ := hr.mono (by omega)
    refine ⟨_, (pss_cons (ps_expr (pe_callP D_check.G hr2 rfl D_check.m D_check.kp pass0 (pa_cons (pv 0) (pa_cons (pv 1) pa_nil))))
      (pss_one (ps_ret (pe_call D_cwithin.G hr2 rfl D_cwithin.m D_cwithin.kp D_cwithin.b .nil pass0 (pa_cons (pv 0) (pa_cons (pv 1) pa_nil)))))), ?_⟩
    refine ⟨_, rfl, _, rfl, x, [y], ts, [ps], rfl, (by decide : 1 ≤ 100), hx, gt, .cons hy .nil, fun l hl => by rw [List.mem_singleton.mp hl]; exact inP, fun H1 e1 => ?_⟩
    exact ⟨_, rfl, _, rfl, x, y, ts, ps, rfl, hx.same e1, hy.same e1, gt, fun v H2 e2 hv => q v H2 (e1.trans e2) hv⟩
end
end K17

namespace K17
open PySem PySem.Spec PyProof.Rows L2 PySem.W Cb Evl
theorem eqv_lists (xs ys : List Str) : PyData.eqv (.list (xs.map .str)) (.list (ys.map .str)) = decide (xs = ys) := by
  rw [PyData.eqv, eqv_strs]
theorem one_mem {c : List Str} {ts : List (List Str)} (h : isOne c ts = true) : c ∈ ts := by
  unfold isOne at h
  rw [List.any_eq_true] at h
  obtain ⟨t, ht, e⟩ := h
  rw [← of_decide_eq_true e]
  exact ht
theorem names_all : ∀ ds : List PD, (ds.filter fun d => !isName d).isEmpty = ds.all isName
  | [] => rfl
  | c :: cs => by
    rw [List.all_cons]
    cases hc : isName c with
    | true => rw [List.filter_cons_of_neg (by simp [hc]), names_all cs]; rfl
    | false => rw [List.filter_cons_of_pos (by simp [hc])]; rfl
section
variable {P : Program} {w : World} {K : Frag} {mg : Str → Option Value} {base : Heap}
/-! ### the law's is_name -/
abbrev s_lname : Stmt := top 33
abbrev N_lname : List Str := ["_law_item", "_law_c"]
theorem sc_lname : FnScope N_lname ["_law_item"] (defScope s_lname) := ⟨rfl, rfl, rfl, by decide +kernel, rfl, by decide +kernel, by decide +kernel⟩
theorem ok_lname {f : Addr} {fd : FuncData} {k : Nat} (F : Fun K "_law_is_name" "_law_is_name" s_lname f fd) (B : Blt mg) (C : Bl2 mg) : FnOk P w K mg base CX0 (k + 1) f fd ["_law_item"] (sp_pd K isName) := by
  refine F.ok sc_lname (fun vs H Q E h => ?_) (fun cdv A outer s H vs Q E hr h => ?_)
  · obtain ⟨_, _, rfl, _⟩ := h
    rfl
  · obtain ⟨v, d, rfl, hd, hok, q⟩ := h
    refine ⟨_, (pss_one (ps_ret (pe_and (pe_callB (c_isi (K := K)) (by rfl) C.isi (by decide +kernel) (pa_cons (pv 0) (pa_cons (pe_bltn (v := .ty "str") (by rfl) C.str (by decide +kernel) rfl) pa_nil))) (pe_and (pe_chain op_le op_le pe_int (pe_callB call_len_str (by rfl) B.len (by decide +kernel) (pa_cons (pv 0) pa_nil)) pe_int)
      (pe_one (pe_cmpR (o_eqD K hr.units) (pe_lc (own := [("_law_c", 1)]) (g := gName 1) rfl sc_lname.nd (pi_str (pv 0)) (blkOk_by (own := [("_law_c", 1)]) (N := N_lname) (sc := defScope s_lname) (by decide +kernel)) (fun _ _ _ _ _ => (pg_name (i := 1) sc_lname.nd rfl (Or.inl rfl))) (fun _ _ _ _ _ => (pts_one (pt_not (pt_chain op_le_str op_le_str pe_str (pv 1) pe_str)))) (fun _ _ _ _ _ => (pv 1))) (pe_lst pa_nil) (nomark _))))))), ?_⟩
    unfold tRet tCB tCons tNil tC
    refine ⟨_, rfl, ?_⟩
    show rIsi K [v, .ty "str"] H _
    refine isi_str hd ⟨_, rfl, ?_⟩
    have no : (tyN d == "str") = false → isName d = false := fun e => by
      cases d <;> first | rfl | exact absurd e (by simp [tyN])
    cases hS : (tyN d == "str") with
    | false =>
      have := q H (Same.refl _)
      rw [no hS] at this
      exact ite2 (fun h => absurd h (by decide)) fun _ => this
    | true =>
      obtain ⟨s, rfl⟩ : ∃ s, d = .str s := by
        cases d <;> first | exact ⟨_, rfl⟩ | exact absurd hS (by simp [tyN])
      obtain rfl := dp_str hd
      have hT := hok.str
      have hl := hT.2
      refine ite2 (fun _ => ?_) fun h => absurd rfl h
      refine ⟨_, rfl, s, rfl, Nat.le_of_lt (big (by omega)), _, _, rfl, rfl, _, rfl, ?_⟩
      by_cases h1 : (1 : Int) ≤ (s.length : Int)
      · rw [decide_eq_true h1]
        refine ite2 (fun _ => ?_) fun h => absurd rfl h
        refine ⟨_, _, rfl, rfl, _, rfl, ?_⟩
        by_cases h2 : (s.length : Int) ≤ 8
        · rw [decide_eq_true h2]
          refine ite2 (fun _ => ?_) fun h => absurd rfl h
          unfold tOp
          refine lcS_filter (x := s) (tl := tVar 0) (j := 1) (vs := [1]) (fun c => !isLow ⟨#[c]⟩) (fun c => .str ⟨#[c]⟩) (fun R hR => ⟨_, rfl, hR⟩) (by omega) (fun _ => rfl) (fun c H1 e1 R hR => ?_) (fun c _ H1 e1 R hR => ⟨_, rfl, hR⟩) fun D H' hD e hH => ?_
          · refine ⟨_, rfl, _, _, rfl, rfl, _, rfl, ?_⟩
            cases ha : (!decide ((⟨#[c]⟩ : Str).cps.toList < ("a" : Str).cps.toList)) with
            | true =>
              refine ite2 (fun _ => ⟨_, _, rfl, rfl, _, rfl, ?_⟩) fun h => absurd rfl h
              have el : isLow ⟨#[c]⟩ = !decide (("z" : Str).cps.toList < (⟨#[c]⟩ : Str).cps.toList) := by
                unfold isLow
                rw [ha]
                rfl
              rw [el] at hR
              exact hR
            | false =>
              refine ite2 (fun h => absurd h (by decide)) fun _ => ⟨_, rfl, ?_⟩
              have el : isLow ⟨#[c]⟩ = false := by
                unfold isLow
                rw [ha]
                rfl
              rw [el] at hR
              exact hR
          · have e2 : (s.cps.toList.filter (fun c => !isLow ⟨#[c]⟩)).map (fun c => V.str ⟨#[c]⟩) = ((s.cps.toList.filter (fun c => !isLow ⟨#[c]⟩)).map fun c => (⟨#[c]⟩ : Str)).map V.str := by
              rw [List.map_map]
              rfl
            rw [e2] at hH
            have sh : SeqAt.shaped (.list (((s.cps.toList.filter (fun c => !isLow ⟨#[c]⟩)).map fun c => (⟨#[c]⟩ : Str)).map .str)) = true := by
              unfold SeqAt.shaped
              rw [PyData.canLay0, PyData.depth, depth_strs, lay_all]
              · rfl
              · intro d hd
                obtain ⟨c, hc, rfl⟩ := List.mem_map.mp hd
                obtain ⟨n, hn, rfl⟩ := List.mem_map.mp hc
                have h4 := hT.1
                unfold PyData.strOk at h4
                rw [← Array.all_toList, List.all_eq_true] at h4
                have h5 := h4 n (List.mem_filter.mp hn).1
                rw [PyData.canLay0]
                unfold PyData.strOk
                rw [← Array.all_toList]
                show (List.all [n] _) = true
                rw [List.all_cons, h5]
                rfl
            refine ⟨Nat.zero_le _, fun l nl => ⟨_, .list [], .lst (sl_ (same_upd nl _ _ hH)) (dpStrs _), .lst (sl_ upd_same) .nil, sh, shaped_nil, ?_⟩⟩
            rw [eqv_strs_nil]
            have e3 : ((s.cps.toList.filter (fun c => !isLow ⟨#[c]⟩)).map fun c => (⟨#[c]⟩ : Str)).isEmpty = isName (.str s) := by
              show _ = ((decide (1 ≤ (s.length : Int)) && decide ((s.length : Int) ≤ 8)) && _)
              rw [decide_eq_true h1, decide_eq_true h2]
              have : ∀ cs : List Nat, ((cs.filter (fun c => !isLow ⟨#[c]⟩)).map fun c => (⟨#[c]⟩ : Str)).isEmpty = cs.all fun c => isLow ⟨#[c]⟩ := fun cs => by
                induction cs with
                | nil => rfl
                | cons c cs ih =>
                  rw [List.all_cons]
                  cases hc : isLow ⟨#[c]⟩ with
                  | true => rw [List.filter_cons_of_neg (by simp [hc]), ih]; rfl
                  | false => rw [List.filter_cons_of_pos (by simp [hc])]; rfl
              rw [this]
              rfl
            rw [e3]
            exact q _ (e.trans (same_upd nl))
        · rw [decide_eq_false h2]
          refine ite2 (fun h => absurd h (by decide)) fun _ => ?_
          have e3 : isName (.str s) = false := by
            show ((decide (1 ≤ (s.length : Int)) && decide ((s.length : Int) ≤ 8)) && _) = false
            rw [decide_eq_true h1, decide_eq_false h2]
            rfl
          rw [e3] at q
          exact q H (Same.refl _)
      · rw [decide_eq_false h1]
        refine ite2 (fun h => absurd h (by decide)) fun _ => ⟨_, rfl, ite2 (fun h => absurd h (by decide)) fun _ => ?_⟩
        have e3 : isName (.str s) = false := by
          show ((decide (1 ≤ (s.length : Int)) && decide ((s.length : Int) ≤ 8)) && _) = false
          rw [decide_eq_false h1]
          rfl
        rw [e3] at q
        exact q H (Same.refl _)
/-! ### tuples of what is looked at -/
abbrev s_ltof : Stmt := top 34
abbrev N_ltof : List Str := ["_law_item", "_law_look", "_law_one"]
theorem sc_ltof : FnScope N_ltof ["_law_item", "_law_look"] (defScope s_ltof) := ⟨rfl, rfl, rfl, by decide +kernel, rfl, by decide +kernel, by decide +kernel⟩
def sp_ltof (K : Frag) (fN : Addr) : Sp := fun vs H Q _ => ∃ (v : V) (d : PD), vs = [v, .ref fN] ∧ Dp K H v d ∧ Okv d ∧ ∀ H', Same H H' → Q (.bl (namesD d)) H'
theorem ok_ltof {f : Addr} {fd : FuncData} {k : Nat} (F : Fun K "_law_is_tuple_of" "_law_is_tuple_of" s_ltof f fd) (B : Blt mg) (C : Bl2 mg) (D_lname : Own P w K mg base 1 "_law_is_name" ["_law_item"] (sp_pd K isName)) : FnOk P w K mg base CX0 (k + 2) f fd ["_law_item", "_law_look"] (sp_ltof K D_lname.f) := by
  refine F.ok sc_ltof (fun vs H Q E h => ?_) (fun cdv A outer s H vs Q E hr h => ?_)
  · obtain ⟨_, _, rfl, _⟩ := h
    rfl
  · obtain ⟨v, d, rfl, hd, hok, q⟩ := h
    have hr1 : Room 1 _ := hr.mono (by omega)
    refine ⟨_, (pss_one (ps_ret (pe_and (pe_callB (c_isi (K := K)) (by rfl) C.isi (by decide +kernel) (pa_cons (pv 0) (pa_cons (pe_bltn (v := .ty "tuple") (by rfl) B.tuple (by decide +kernel) rfl) pa_nil))) (pe_one (pe_cmpR (o_eqD K hr.units) (pe_lc (own := [("_law_one", 2)]) (g := gName 2) rfl sc_ltof.nd (p_tup K (pv 0)) (blkOk_by (own := [("_law_one", 2)]) (N := N_ltof) (sc := defScope s_ltof) (by decide +kernel)) (fun _ _ _ _ _ => (pg_name (i := 2) sc_ltof.nd rfl (Or.inl rfl)))
      (fun _ _ _ _ _ => (pts_one (pt_not (pt_val (pe_callL (i := 1) D_lname.G hr1 rfl (by first | exact Or.inl rfl | exact Or.inr (Or.inl rfl) | exact Or.inr (Or.inr rfl)) D_lname.kp D_lname.b .nil pass0 (pa_cons (pv 2) pa_nil)))))) (fun _ _ _ _ _ => (pv 2))) (pe_lst pa_nil) (nomark _)))))), ?_⟩
    unfold tRet tCB tCons tNil tC
    refine ⟨_, rfl, ?_⟩
    show rIsi K [v, .ty "tuple"] H _
    refine isi_tup hd ⟨_, rfl, ?_⟩
    have no : (tyN d == "tuple") = false → namesD d = false := fun e => by
      cases d <;> first | rfl | exact absurd e (by simp [tyN])
    cases hS : (tyN d == "tuple") with
    | false =>
      have := q H (Same.refl _)
      rw [no hS] at this
      exact ite2 (fun h => absurd h (by decide)) fun _ => this
    | true =>
      obtain ⟨ds, rfl⟩ : ∃ ds, d = .tuple ds := by
        cases d <;> first | exact ⟨_, rfl⟩ | exact absurd hS (by simp [tyN])
      obtain ⟨a, xs, rfl, ha, hxs⟩ := dp_tup hd
      obtain ⟨dl, de⟩ := okv_tup hok
      refine ite2 (fun _ => ?_) fun h => absurd rfl h
      unfold tOp
      refine lcT_pair (K := K) (tl := tVar 0) (j := 2) (vs := [2]) (F := Dp K) (us := xs) (bs := ds) (fun _ _ _ _ e z => dpSame e _ _ z) (fun d => !isName d) (fun R hR => ⟨_, rfl, hR⟩) ha (dps_pair hxs) (by omega) (fun _ => rfl) (fun _ => rfl) (fun x b hb H1 e1 hx R hR => ?_) fun L ws H1 nL e1 hL hw => ?_
      · exact ⟨rfl, _, rfl, x, b, rfl, hx, de b hb, fun H2 e2 => ⟨_, rfl, hR H2 e2⟩⟩
      · have okf : Okd 14 5 (.list (ds.filter fun d => !isName d)) := .inr ⟨_, .inr rfl, Nat.le_trans (List.length_filter_le _ _) dl, fun e he => de e (List.mem_filter.mp he).1⟩
        refine ⟨Nat.zero_le _, fun l nl => ⟨.list (ds.filter fun d => !isName d), .list [], .lst (sl_ (same_upd nl _ _ hL)) (pair_dps (prd_mono (fun _ _ z => dpSame (same_upd nl) _ _ z) hw)), .lst (sl_ upd_same) .nil, okf.shaped, shaped_nil, ?_⟩⟩
        rw [eqv_list_nil]
        have e3 : (ds.filter fun d => !isName d).isEmpty = namesD (.tuple ds) := by
          exact names_all ds
        rw [e3]
        exact q _ (e1.trans (same_upd nl))
abbrev s_lnames : Stmt := top 35
theorem sc_lnames : FnScope ["_law_item"] ["_law_item"] (defScope s_lnames) := ⟨rfl, rfl, rfl, by decide +kernel, rfl, by decide +kernel, by decide +kernel⟩
theorem ok_lnames {f : Addr} {fd : FuncData} {k : Nat} (F : Fun K "_law_are_names" "_law_are_names" s_lnames f fd) (D_lname : Own P w K mg base 1 "_law_is_name" ["_law_item"] (sp_pd K isName)) (D_ltof : Own P w K mg base 2 "_law_is_tuple_of" ["_law_item", "_law_look"] (sp_ltof K D_lname.f)) : FnOk P w K mg base CX0 (k + 3) f fd ["_law_item"] (sp_pd K namesD) := by
  refine F.ok sc_lnames (fun vs H Q E h => ?_) (fun cdv A outer s H vs Q E hr h => ?_)
  · obtain ⟨_, _, rfl, _⟩ := h
    rfl
  · obtain ⟨v, d, rfl, hd, hok, q⟩ := h
    have hr2 : Room 2 _ := hr.mono (by omega)
    refine ⟨_, (pss_one (ps_ret (pe_call D_ltof.G hr2 rfl D_ltof.m D_ltof.kp D_ltof.b .nil pass0 (pa_cons (pv 0) (pa_cons (pe_glob (v := .ref D_lname.f) (by rfl) D_lname.m rfl) pa_nil))))), ?_⟩
    exact ⟨_, rfl, v, d, rfl, hd, hok, q⟩
/-! ### the law's situation -/
abbrev s_lscene : Stmt := top 36
abbrev N_lscene : List Str := ["_law_teams_here", "_law_here", "_law_team", "_law_folk_here", "_law_name"]
theorem sc_lscene : FnScope N_lscene ["_law_teams_here", "_law_here", "_law_team"] (defScope s_lscene) := ⟨rfl, rfl, rfl, by decide +kernel, rfl, by decide +kernel, by decide +kernel⟩
def sp_lscene (K : Frag) : Sp := fun vs H Q _ => ∃ (x y z : V) (ts : List (List Str)) (ns cs : List Str), vs = [x, y, z] ∧ S2 K H x ts ∧ ts.length ≤ 12 ∧ (∀ t ∈ ts, Pt t) ∧ S1 K H y ns ∧ S1 K H z cs ∧ Okv (sD ns) ∧ Okv (sD cs) ∧ ∀ H', Same H H' → Q (.bl (sceneB ts ns cs)) H'
theorem ok_lscene {f : Addr} {fd : FuncData} {k : Nat} (F : Fun K "_law_is_scene" "_law_is_scene" s_lscene f fd) (B : Blt mg) (D_folk : Own P w K mg base 1 "_law_folk" ["_law_teams_here"] (sp_folk K)) (D_part : Own P w K mg base 1 "_law_is_part" ["_law_some", "_law_others"] (sp_part K)) : FnOk P w K mg base CX0 (k + 2) f fd ["_law_teams_here", "_law_here", "_law_team"] (sp_lscene K) := by
  refine F.ok sc_lscene (fun vs H Q E h => ?_) (fun cdv A outer s H vs Q E hr h => ?_)
  · obtain ⟨_, _, _, _, _, _, rfl, _⟩ := h
    rfl
  · obtain ⟨x, y, z, ts, ns, cs, rfl, hx, t12, hpt, hy, hz, okn, okc, q⟩ := h
    have hr1 : Room 1 _ := hr.mono (by omega)
    have hu : (A.deeper (envOfC "_law_is_scene" (defScope s_lscene) s.heap.objs.size f cdv)).units + 65 < cLine := by have := hr.un; omega
    have gt := Gt.ofPt t12 hpt
    refine ⟨_, (pss_cons (ps_set (i := 3) sc_lscene.nd rfl (Or.inl rfl) (pe_call D_folk.G hr1 rfl D_folk.m D_folk.kp D_folk.b .nil pass0 (pa_cons (pv 0) pa_nil)))
      (pss_cons (ps_if (PW.pt (pw_or (pt_cmpR (o_neD K hr.units) (pe_callTy (c_list K) (by rfl) B.list (by decide +kernel) (pa_cons (pv 1) pa_nil)) (pe_lc (own := [("_law_name", 4)]) (g := gName 4) rfl sc_lscene.nd (p_tup K (pv 3)) (blkOk_by (own := [("_law_name", 4)]) (N := N_lscene) (sc := defScope s_lscene) (by decide +kernel)) (fun _ _ _ _ _ => (pg_name (i := 4) sc_lscene.nd rfl (Or.inl rfl))) (fun _ _ _ _ _ => (pts_one (pt_cmpR (o_in K) (pv 4) (pv 1) rfl))) (fun _ _ _ _ _ => (pv 4))) (nomark _)) (pw_or1 (pt_cmpR (o_ninT (K := K) hu) (pv 2) (pv 0) rfl)))) (pss_one (ps_ret pe_bl)) pss_nil)
      (pss_one (ps_ret (pe_call D_part.G hr1 rfl D_part.m D_part.kp D_part.b .nil pass0 (pa_cons (pv 2) (pa_cons (pv 1) pa_nil))))))), ?_⟩
    have inF : ∀ n ∈ folk ts, okS n := fun n hn => by
      obtain ⟨t, ht, hn⟩ := List.mem_flatten.mp (once_mem.mp hn)
      exact (gt.each t ht).2.2 n hn
    have nsl : ns.length ≤ 14 := by
      have := (okv_tup okn).1
      rwa [List.length_map] at this
    refine sq_set ⟨_, rfl, x, ts, rfl, hx, t12, hpt, fun v H1 e1 hv k8 => ?_⟩
    obtain ⟨fa, rfl, hf⟩ := hv
    obtain ⟨ay, rfl, hyT⟩ := id hy
    refine ⟨_, rfl, ay, _, rfl, .inr (sameT e1 hyT), fun l nl => ?_⟩
    have e2 := same_upd (o := .lst (ns.map V.str)) nl
    have hl : (upd H1 l (.lst (ns.map V.str))) l = some (.lst (ns.map V.str)) := upd_same
    generalize upd H1 l (.lst (ns.map V.str)) = H2 at e2 hl
    refine lcT_filter (K := K) (tl := tVar 3) (j := 4) (vs := [4]) (xs := (folk ts).map V.str) (fun v => match v with | .str p => isIn p ns | _ => false) id (fun R hR => ⟨_, rfl, hR fa H2 (Same.refl H2) (sameT e2 hf)⟩) (by rw [List.length_map]; omega) (fun _ => rfl) (fun v hv H3 e3 R hR => ?_) (fun v hv _ H3 e3 R hR => ⟨v, rfl, hR H3 (Same.refl H3)⟩) fun D H3 hD e3 hH => ?_
    · obtain ⟨p, _, rfl⟩ := List.mem_map.mp hv
      exact ⟨_, rfl, _, rfl, ay, _, rfl, .inr (sameT ((e1.trans e2).trans e3) hyT), rfl, flat_strs ns, _, rfl, by rw [inV_strs]; exact hR⟩
    · have ef : (((folk ts).map V.str).filter (fun v => match v with | .str p => isIn p ns | _ => false)).map id = ((folk ts).filter fun n => isIn n ns).map V.str := by
        rw [List.map_id, List.filter_map]
        rfl
      rw [ef] at hH
      have s3 := (e1.trans e2).trans e3
      have okl : Okd 14 4 (.list (ns.map .str)) := .inr ⟨_, .inr rfl, (okv_tup okn).1, fun e he => by
        obtain ⟨k, hk, _, h2⟩ := okn.tup
        have := h2 e he
        have : k = 3 := by omega
        subst this
        exact h2 e he⟩
      refine ⟨.list (ns.map .str), .list (((folk ts).filter fun n => isIn n ns).map .str), .lst (sl_ (e3 _ _ hl)) (dpStrs _), .lst (sl_ hH) (dpStrs _), okl.shaped, shaped_strs (fun n hn => inF n (List.mem_filter.mp hn).1), _, rfl, ?_⟩
      rw [eqv_lists]
      have q0 : ∀ H', Same H H' → Q (.bl (decide (ns = (folk ts).filter fun n => isIn n ns) && isOne cs ts && has ns cs)) H' := q
      cases h1 : decide (ns = (folk ts).filter fun n => isIn n ns) with
      | false =>
        rw [h1] at q0
        exact ite2 (fun _ => ite2 (fun _ => q0 _ s3) fun h => absurd rfl h) fun h => absurd rfl h
      | true =>
        rw [h1] at q0
        refine ite2 (fun h => absurd h (by decide)) fun _ => ?_
        refine ⟨_, rfl, _, rfl, sD cs, ts.map sD, (hz.same s3).dp, (hx.same s3).dp, okc.shaped, shaped_teams (fun t ht => (gt.each t ht).2.2), _, rfl, ?_⟩
        rw [any_sD]
        cases h2 : isOne cs ts with
        | false =>
          rw [h2] at q0
          exact ite2 (fun _ => q0 _ s3) fun h => absurd rfl h
        | true =>
          rw [h2] at q0
          have hm := one_mem h2
          refine ite2 (fun h => absurd h (by decide)) fun _ => ?_
          exact ⟨_, rfl, _, rfl, z, .ref ay, cs, ns, rfl, hz.same s3, ⟨ay, rfl, sameT s3 hyT⟩, by have := (gt.each cs hm).2.1; omega, (gt.each cs hm).2.2, fun H4 e4 => q0 H4 (s3.trans e4)⟩
/-! ### what is expected -/
abbrev s_lexp : Stmt := top 37
theorem sc_lexp : FnScope ["_law_teams_here", "_law_item"] ["_law_teams_here", "_law_item"] (defScope s_lexp) := ⟨rfl, rfl, rfl, by decide +kernel, rfl, by decide +kernel, by decide +kernel⟩
def sp_lexp (K : Frag) : Sp := fun vs H Q _ => ∃ (x v : V) (ts : List (List Str)) (d : PD), vs = [x, v] ∧ S2 K H x ts ∧ ts.length ≤ 12 ∧ (∀ t ∈ ts, Pt t) ∧ Dp K H v d ∧ Okv d ∧ ∀ H', Same H H' → Q (.bl (expd ts d)) H'
theorem exp_two {ts : List (List Str)} {ds : List PD} (h : ds.length ≠ 2) : expd ts (.tuple ds) = false := by
  match ds, h with
  | [], _ => rfl
  | [_], _ => rfl
  | [_, _], h => exact absurd rfl h
  | _ :: _ :: _ :: _, _ => rfl
theorem ok_lexp {f : Addr} {fd : FuncData} {k : Nat} (F : Fun K "_law_expected" "_law_expected" s_lexp f fd) (B : Blt mg) (C : Bl2 mg) (D_lnames : Own P w K mg base 3 "_law_are_names" ["_law_item"] (sp_pd K namesD)) (D_lscene : Own P w K mg base 2 "_law_is_scene" ["_law_teams_here", "_law_here", "_law_team"] (sp_lscene K)) : FnOk P w K mg base CX0 (k + 4) f fd ["_law_teams_here", "_law_item"] (sp_lexp K) := by
  refine F.ok sc_lexp (fun vs H Q E h => ?_) (fun cdv A outer s H vs Q E hr h => ?_)
  · obtain ⟨_, _, _, _, rfl, _⟩ := h
    rfl
  · obtain ⟨x, v, ts, d, rfl, hx, t12, hpt, hd, hok, q⟩ := h
    have hr2 : Room 2 _ := hr.mono (by omega)
    have hr3 : Room 3 _ := hr.mono (by omega)
    refine ⟨_, (pss_cons (ps_if (PW.pt (pw_or (pt_not (pt_val (pe_callB (c_isi (K := K)) (by rfl) C.isi (by decide +kernel) (pa_cons (pv 1) (pa_cons (pe_bltn (v := .ty "tuple") (by rfl) B.tuple (by decide +kernel) rfl) pa_nil))))) (pw_or1 (pt_cmpR op_ne (pe_callB (c_len K) (by rfl) B.len (by decide +kernel) (pa_cons (pv 1) pa_nil)) pe_int (nomark _))))) (pss_one (ps_ret pe_bl)) pss_nil)
      (pss_cons (ps_if (PW.pt (pw_or (pt_not (pt_val (pe_call D_lnames.G hr3 rfl D_lnames.m D_lnames.kp D_lnames.b .nil pass0 (pa_cons (pe_ix (i_tup K) (pv 1) pe_int (fun _ _ => rfl)) pa_nil)))) (pw_or1 (pt_not (pt_val (pe_call D_lnames.G hr3 rfl D_lnames.m D_lnames.kp D_lnames.b .nil pass0 (pa_cons (pe_ix (i_tup K) (pv 1) pe_int (fun _ _ => rfl)) pa_nil))))))) (pss_one (ps_ret pe_bl)) pss_nil)
      (pss_one (ps_ret (pe_call D_lscene.G hr2 rfl D_lscene.m D_lscene.kp D_lscene.b .nil pass0 (pa_cons (pv 0) (pa_cons (pe_ix (i_tup K) (pv 1) pe_int (fun _ _ => rfl)) (pa_cons (pe_ix (i_tup K) (pv 1) pe_int (fun _ _ => rfl)) pa_nil)))))))), ?_⟩
    unfold tCB tCons tNil tC
    refine ⟨_, rfl, ?_⟩
    show rIsi K [v, .ty "tuple"] H _
    refine isi_tup hd ⟨_, rfl, ?_⟩
    cases hS : (tyN d == "tuple") with
    | false =>
      have e : expd ts d = false := by
        cases d <;> first | rfl | exact absurd hS (by simp [tyN])
      rw [e] at q
      exact ite2 (fun _ => q H (Same.refl _)) fun h => absurd rfl h
    | true =>
      obtain ⟨ds, rfl⟩ : ∃ ds, d = .tuple ds := by
        cases d <;> first | exact ⟨_, rfl⟩ | exact absurd hS (by simp [tyN])
      obtain ⟨a, xs, rfl, ha, hxs⟩ := dp_tup hd
      have xl := dps_len hxs
      refine ite2 (fun h => absurd h (by decide)) fun _ => ?_
      refine ⟨_, rfl, a, xs, rfl, .inr ha, rfl, _, rfl, ?_⟩
      by_cases h2 : ds.length = 2
      · obtain ⟨p, c, rfl⟩ : ∃ p c, ds = [p, c] := by
          match ds, h2 with
          | [p, c], _ => exact ⟨p, c, rfl⟩
        obtain ⟨u1, u2, rfl, hp, hc⟩ : ∃ u1 u2, xs = [u1, u2] ∧ Dp K H u1 p ∧ Dp K H u2 c := by
          cases hxs with
          | cons r1 t =>
            cases t with
            | cons r2 t =>
              cases t
              exact ⟨_, _, rfl, r1, r2⟩
        have okp : Okv p := (okv_tup hok).2 p List.mem_cons_self
        have okc : Okv c := (okv_tup hok).2 c (List.mem_cons_of_mem _ List.mem_cons_self)
        have q0 : ∀ H', Same H H' → Q (.bl (namesD p && (namesD c && sceneB ts (psD p) (psD c)))) H' := q
        refine ite2 (fun h => absurd h (by simp)) fun _ => ?_
        refine ⟨_, rfl, a, _, 0, u1, rfl, rfl, ha, atI_nat (j := 0) rfl, u1, p, rfl, hp, okp, fun H1 e1 => ⟨_, rfl, ?_⟩⟩
        cases hn : namesD p with
        | false =>
          rw [hn] at q0
          exact ite2 (fun _ => ite2 (fun _ => q0 _ e1) fun h => absurd rfl h) fun h => absurd rfl h
        | true =>
          rw [hn] at q0
          refine ite2 (fun h => absurd h (by decide)) fun _ => ?_
          refine ⟨_, rfl, a, _, 1, u2, rfl, rfl, sameT e1 ha, atI_nat (j := 1) rfl, u2, c, rfl, dpSame e1 _ _ hc, okc, fun H2 e2 => ⟨_, rfl, ?_⟩⟩
          have s2 := e1.trans e2
          cases hm : namesD c with
          | false =>
            rw [hm] at q0
            exact ite2 (fun _ => q0 _ s2) fun h => absurd rfl h
          | true =>
            rw [hm] at q0
            refine ite2 (fun h => absurd h (by decide)) fun _ => ?_
            have ep := names_inv hn
            have ec := names_inv hm
            refine ⟨_, rfl, _, rfl, a, _, 0, u1, rfl, rfl, sameT s2 ha, atI_nat (j := 0) rfl, _, rfl, a, _, 1, u2, rfl, rfl, sameT s2 ha, atI_nat (j := 1) rfl, x, u1, u2, ts, psD p, psD c, rfl, hx.same s2, t12, hpt, dp_s1 (by rw [← ep]; exact dpSame s2 _ _ hp), dp_s1 (by rw [← ec]; exact dpSame s2 _ _ hc), by rw [← ep]; exact okp, by rw [← ec]; exact okc, fun H3 e3 => q0 H3 (s2.trans e3)⟩
      · rw [exp_two h2] at q
        refine ite2 (fun _ => q H (Same.refl _)) fun h => absurd ?_ h
        rw [Bool.not_eq_true', decide_eq_false_iff_not]
        intro e
        injection e with e
        omega
end
end K17

namespace Cb
open PySem PySem.Spec PyProof.Rows L2 PySem.W
theorem sIx_m1 (n d : Nat) : HT.sIx n d (some (-1)) = n - 1 := by
  show (if (-1 : Int) < 0 then (-1 + (n : Int)).toNat else min (-1 : Int).toNat n) = n - 1
  rw [if_pos (by decide)]
  omega
def cutP (ds : List PD) (lo hi : Option Int) : List PD := (ds.drop (HT.sIx ds.length 0 lo)).take (HT.sIx ds.length ds.length hi - HT.sIx ds.length 0 lo)
theorem cutP_len (ds : List PD) (lo hi : Option Int) : (cutP ds lo hi).length ≤ HT.sIx ds.length ds.length hi - HT.sIx ds.length 0 lo := by
  unfold cutP
  rw [List.length_take]
  omega
theorem cutP_mem {ds : List PD} {lo hi : Option Int} {d : PD} (h : d ∈ cutP ds lo hi) : d ∈ ds := List.mem_of_mem_drop (List.mem_of_mem_take h)
theorem strOk_app {s t : Str} (h1 : PyData.strOk s = true) (h2 : PyData.strOk t = true) : PyData.strOk (s ++ t) = true := by
  unfold PyData.strOk at *
  show (s.cps ++ t.cps).all _ = true
  rw [Array.all_append, h1, h2]
  rfl
theorem strOk_cut {s : Str} (h : PyData.strOk s = true) (lo hi : Option Int) : PyData.strOk (cutS s lo hi) = true := by
  unfold PyData.strOk at *
  rw [← Array.all_toList, List.all_eq_true] at *
  intro c hc
  have hc : c ∈ ((s.cps.toList.drop (HT.sIx s.length 0 lo)).take (HT.sIx s.length s.length hi - HT.sIx s.length 0 lo)).toArray.toList := hc
  exact h c (List.mem_of_mem_drop (List.mem_of_mem_take (by simpa using hc)))
/-- data that stands, but for the list at r -/
def Dq (K : Frag) (r : Addr) (H : Hp) (v : V) (d : PD) : Prop := Dp K (er r H) v d
theorem Dq.same {K : Frag} {r : Addr} {H H' : Hp} {v : V} {d : PD} (e : Same H H') (h : Dq K r H v d) : Dq K r H' v d := dpSame (er_mono e) _ _ h
theorem Dq.dp {K : Frag} {r : Addr} {H : Hp} {v : V} {d : PD} (h : Dq K r H v d) : Dp K H v d := dpSame er_same _ _ h
end Cb
namespace K17
open PySem PySem.Spec PyProof.Rows L2 PySem.W Cb Evl
section
variable {K : Frag} {r c : Addr} {H H' : Hp} {Q : VK} {v u : V} {d : PD} {ds es : List PD} {e : Int}
theorem cl_er (h : Cl r H H') : Same (er r H) (er r H') := fun b o hb => by
  by_cases n : b = r
  · subst n
    unfold er at hb
    rw [if_pos rfl] at hb
    cases hb
  · rw [er_at n] at hb ⊢
    exact h.lst n hb
theorem dq_cl (h : Cl r H H') (z : Dq K r H v d) : Dq K r H' v d := dpSame (cl_er h) _ _ z
theorem er_tup {p : Addr} {xs : List V} (n : p ≠ r) : SqT K (er r (upd H p (.tup xs))) p xs := st_ (by rw [er_at n]; exact upd_same)
theorem er_lst {p : Addr} {xs : List V} (n : p ≠ r) : SqL K (er r (upd H p (.lst xs))) p xs := sl_ (by rw [er_at n]; exact upd_same)
theorem dq_new {p : Addr} {xs : List V} (g : Fd H r c e) (np : H p = none) (h : Paired (Dq K r H) xs ds) : Dq K r (upd H p (.tup xs)) (.ref p) (.tuple ds) :=
  .tup (er_tup (g.ne np)) (pair_dps (prd_mono (fun _ _ z => Dq.same (same_upd np) z) h))
theorem dq_newL {p : Addr} {xs : List V} (g : Fd H r c e) (np : H p = none) (h : Paired (Dq K r H) xs ds) : Dq K r (upd H p (.lst xs)) (.ref p) (.list ds) :=
  .lst (er_lst (g.ne np)) (pair_dps (prd_mono (fun _ _ z => Dq.same (same_upd np) z) h))
theorem dq_tup (h : Dq K r H v (.tuple ds)) : ∃ a xs, v = .ref a ∧ SqT K H a xs ∧ Paired (Dq K r H) xs ds := by
  obtain ⟨a, xs, e, h1, h2⟩ := dp_tup h
  exact ⟨a, xs, e, sameT er_same h1, dps_pair h2⟩
theorem slD {lo hi : Option Int} (h : Dq K r H v (.tuple ds)) (g : Fd H r c e) (q : ∀ w H', Same H H' → Dq K r H' w (.tuple (cutP ds lo hi)) → Q w H') : rSlA K v lo hi H Q := by
  obtain ⟨a, xs, rfl, ha, hp⟩ := dq_tup h
  have xl := prd_len hp
  refine ⟨a, xs, rfl, ha, fun hw => ?_, fun _ p np => ?_⟩
  · rw [xl] at hw
    refine q _ H (Same.refl _) ?_
    unfold cutP
    rw [hw.1, hw.2, List.drop_zero, Nat.sub_zero, List.take_length]
    exact h
  · refine q _ _ (same_upd np) (dq_new g np ?_)
    unfold cutP cutV
    rw [xl]
    exact prd_take _ (prd_drop _ hp)
theorem catD (h1 : Dq K r H v (.tuple ds)) (h2 : Dq K r H u (.tuple es)) (g : Fd H r c e) (hl : ds.length + es.length ≤ 100000) (q : ∀ w H', Same H H' → Dq K r H' w (.tuple (ds ++ es)) → Q w H') : rCatA K v u H Q := by
  obtain ⟨a, xs, rfl, ha, hp⟩ := dq_tup h1
  obtain ⟨b, ys, rfl, hb, hq⟩ := dq_tup h2
  have xl := prd_len hp
  have yl := prd_len hq
  refine ⟨a, b, xs, ys, rfl, rfl, ha, hb, Nat.le_of_lt (big (by omega)), fun z => ?_, fun _ z => ?_, fun _ _ p np => ?_⟩
  · subst z
    have : ds = [] := List.eq_nil_of_length_eq_zero xl.symm
    subst this
    exact q _ H (Same.refl _) h2
  · subst z
    have : es = [] := List.eq_nil_of_length_eq_zero yl.symm
    subst this
    refine q _ H (Same.refl _) ?_
    rw [List.append_nil]
    exact h1
  · exact q _ _ (same_upd np) (dq_new g np (prd_app hp hq))
end
theorem okd_up {n k : Nat} {ds : List PD} (h : ∀ d ∈ ds, Okd n k d ∨ d = .none ∨ Okd (n + 1) (k + 1) d) (l : ds.length ≤ n + 1) : Okd (n + 1) (k + 2) (.tuple ds) := .inr ⟨ds, .inl rfl, l, fun d hd => by
  rcases h d hd with h | rfl | h
  · exact h.mono (by omega) (by omega)
  · exact Sc.okd (.inl rfl) _
  · exact h⟩
theorem okd_upL {n k : Nat} {ds : List PD} (h : ∀ d ∈ ds, Okd n k d) (l : ds.length ≤ n + 1) : Okd (n + 1) (k + 2) (.list ds) := .inr ⟨ds, .inr rfl, l, fun d hd => (h d hd).mono (by omega) (by omega)⟩
theorem sc_str {n : Nat} {s : Str} (h : okT n s) : Sc n (.str s) := .inr (.inr (.inr (.inr ⟨s, rfl, h⟩)))
section
variable {P : Program} {w : World} {K : Frag} {mg : Str → Option Value} {base : Heap}
/-! ### another value in its place -/
abbrev s_repl : Stmt := top 31
abbrev N_repl : List Str := ["_law_feed_here", "_law_item", "_law_at", "_law_some"]
theorem sc_repl : FnScope N_repl ["_law_feed_here", "_law_item"] (defScope s_repl) := ⟨rfl, rfl, rfl, by decide +kernel, rfl, by decide +kernel, by decide +kernel⟩
def sp_repl (K : Frag) (n m : Nat) : Sp := fun vs H Q _ => ∃ (r c : Addr) (v : V) (d : PD) (e : Int), vs = [.ref r, v] ∧ Dq K r H v d ∧ Okd n m d ∧ 12 ≤ n ∧ n ≤ 100 ∧ e ≤ 900000 ∧ Fd H r c e ∧ ∀ v' d' H', Cl r H H' → Fd H' r c (e + 2) → Dq K r H' v' d' → Okd (n + 1) (m + 1) d' → Q v' H'
theorem ok_repl {f : Addr} {fd : FuncData} {k n m : Nat} (F : Fun K "_law_replacement" "_law_replacement" s_repl f fd) (B : Blt mg) (C : Bl2 mg) (D_draw : Own P w K mg base 1 "_law_draw" ["_law_feed_here", "_law_limit"] sp_draw) (D_choice : Own P w K mg base 2 "_law_choice" ["_law_feed_here", "_law_some"] (sp_choiceL K)) :
    FnOk P w K mg base CX0 (k + 3) f fd ["_law_feed_here", "_law_item"] (sp_repl K n m) := by
  refine F.ok sc_repl (fun vs H Q E h => ?_) (fun cdv A outer s H vs Q E hr h => ?_)
  · obtain ⟨_, _, _, _, _, rfl, _⟩ := h
    rfl
  · obtain ⟨r, c, v, d, e, rfl, hd, hok, n12, n100, he, hR, q⟩ := h
    have hr1 : Room 1 _ := hr.mono (by omega)
    have hr2 : Room 2 _ := hr.mono (by omega)
    refine ⟨_, (pss_cons (ps_if (pt_val (pe_callB (c_isi (K := K)) (by rfl) C.isi (by decide +kernel) (pa_cons (pv 1) (pa_cons (pe_bltn (v := .ty "tuple") (by rfl) B.tuple (by decide +kernel) rfl) pa_nil)))) (pss_cons (ps_set (i := 2) sc_repl.nd rfl (Or.inl rfl) (pe_call D_draw.G hr1 rfl D_draw.m D_draw.kp D_draw.b .nil pass0 (pa_cons (pv 0) (pa_cons (pe_op op_add (pe_callB (c_len K) (by rfl) B.len (by decide +kernel) (pa_cons (pv 1) pa_nil)) pe_int) pa_nil))))
      (pss_cons (ps_set (i := 3) sc_repl.nd rfl (Or.inl rfl) (pe_lst (pa_cons (pe_op (o_catA K) (pe_slice (s_tupA K) (pv 1) po_none (po_some (pv 2))) (pe_slice (s_tupA K) (pv 1) (po_some (pe_op op_add (pv 2) pe_int)) po_none)) (pa_cons (pe_op (o_catA K) (pv 1) (pe_slice (s_tupA K) (pv 1) (po_some (pe_un un_neg pe_int)) po_none)) (pa_cons (pe_revT (K := K) (pv 1)) (pa_cons (pe_callTy (c_list K) (by rfl) B.list (by decide +kernel) (pa_cons (pv 1) pa_nil)) pa_nil))))))
      (pss_one (ps_ret (pe_ix (i_list K) (pe_op op_cat (pv 3) (pe_lst (pa_cons (pe_tup pa_nil) (pa_cons pe_non (pa_cons (pe_op (o_catA K) (pe_op (o_catA K) (pe_slice (s_tupA K) (pv 1) po_none (po_some (pv 2))) (pe_tup (pa_cons pe_non pa_nil))) (pe_slice (s_tupA K) (pv 1) (po_some (pv 2)) po_none)) pa_nil))))) (pe_call D_draw.G hr1 rfl D_draw.m D_draw.kp D_draw.b .nil pass0 (pa_cons (pv 0) (pa_cons pe_int pa_nil))) (fun _ _ => rfl)))))) pss_nil)
      (pss_cons (ps_if (pt_val (pe_callB (c_isi (K := K)) (by rfl) C.isi (by decide +kernel) (pa_cons (pv 1) (pa_cons (pe_bltn (v := .ty "str") (by rfl) C.str (by decide +kernel) rfl) pa_nil)))) (pss_one (ps_ret (pe_call D_choice.G hr2 rfl D_choice.m D_choice.kp D_choice.b .nil pass0 (pa_cons (pv 0) (pa_cons (pe_lst (pa_cons (pe_op op_add_str (pv 1) pe_str) (pa_cons (pe_slice sl_str (pv 1) (po_some pe_int) po_none) (pa_cons pe_str (pa_cons pe_str (pa_cons pe_str (pa_cons pe_str (pa_cons pe_str (pa_cons pe_str (pa_cons pe_str (pa_cons pe_str (pa_cons pe_int pa_nil)))))))))))) pa_nil))))) pss_nil)
      (pss_one (ps_ret (pe_call D_choice.G hr2 rfl D_choice.m D_choice.kp D_choice.b .nil pass0 (pa_cons (pv 0) (pa_cons (pe_lst (pa_cons pe_non (pa_cons pe_int (pa_cons pe_str (pa_cons (pe_tup pa_nil) (pa_cons pe_bl (pa_cons (pe_tup (pa_cons pe_str pa_nil)) (pa_cons (pe_tup (pa_cons pe_str (pa_cons pe_str pa_nil))) pa_nil)))))))) pa_nil))))))), ?_⟩
    unfold tCB tCons tNil tC tNoPart
    refine ⟨_, rfl, ?_⟩
    show rIsi K [v, .ty "tuple"] H _
    refine isi_tup hd.dp ⟨_, rfl, ?_⟩
    cases hS : (tyN d == "tuple") with
    | true =>
      obtain ⟨ds, rfl⟩ : ∃ ds, d = .tuple ds := by
        cases d <;> first | exact ⟨_, rfl⟩ | exact absurd hS (by simp [tyN])
      obtain ⟨km, rfl, dl, de⟩ := hok.tup
      obtain ⟨a, xs, rfl, ha, hp⟩ := dq_tup hd
      have xl := prd_len hp
      refine ite2 (fun _ => ?_) fun h => absurd rfl h
      refine sq_set ⟨_, rfl, _, rfl, a, xs, rfl, .inr ha, _, _, rfl, rfl, r, c, _, e, rfl, by omega, by omega, by omega, hR, fun z H1 c1 g1 z0 z1 => ?_⟩
      obtain ⟨j, rfl⟩ : ∃ j : Nat, z = (j : Int) := ⟨z.toNat, by omega⟩
      have jl : j ≤ ds.length := by omega
      have hd1 := dq_cl c1 hd
      have cutlo : HT.sIx ds.length ds.length (some (j : Int)) = min j ds.length := HT.sIx_nat _ _ _
      have cutlo0 : HT.sIx ds.length 0 (some (j : Int)) = min j ds.length := HT.sIx_nat _ _ _
      have cutlo1 : HT.sIx ds.length 0 (some ((j : Int) + 1)) = min (j + 1) ds.length := by
        have : (j : Int) + 1 = ((j + 1 : Nat) : Int) := by omega
        rw [this]
        exact HT.sIx_nat _ _ _
      have l1 := cutP_len ds none (some (j : Int))
      have l2 := cutP_len ds (some ((j : Int) + 1)) none
      have l3 := cutP_len ds (some (-1)) none
      have l4 := cutP_len ds (some (j : Int)) none
      rw [cutlo, HT.sIx_none] at l1
      rw [cutlo1, HT.sIx_none] at l2
      rw [sIx_m1, HT.sIx_none] at l3
      rw [cutlo0, HT.sIx_none] at l4
      -- the four
      refine sq_set ⟨_, rfl, _, rfl, _, rfl, slD hd1 g1 fun w1 H2 e2 h2 => ⟨_, rfl, _, rfl, _, _, rfl, rfl, _, rfl, slD (hd1.same e2) (g1.same e2) fun w2 H3 e3 h3 => catD (h2.same e3) h3 ((g1.same e2).same e3) (by omega) fun w3 H4 e4 h4 => ?_⟩⟩
      have s4 := (e2.trans e3).trans e4
      have g4 := g1.same s4
      have hd4 := hd1.same s4
      refine ⟨_, rfl, _, rfl, 1, rfl, _, rfl, slD hd4 g4 fun w4 H5 e5 h5 => catD (hd4.same e5) h5 (g4.same e5) (by omega) fun w5 H6 e6 h6 => ?_⟩
      have s6 := e5.trans e6
      have g6 := g4.same s6
      have hd6 := hd4.same s6
      obtain ⟨a', xs', ea, ha6, hp6⟩ := dq_tup hd6
      cases ea
      have xl6 := prd_len hp6
      refine ⟨_, rfl, a, xs', rfl, ha6, fun p7 n7 => ?_⟩
      have e7 := same_upd (o := .tup xs'.reverse) n7
      have prev : Paired (Dq K r H6) xs'.reverse ds.reverse := by
        obtain ⟨zs, rfl, rfl, hz⟩ := prd_fst hp6
        rw [← List.map_reverse, ← List.map_reverse]
        exact prd_of fun z hz2 => hz z (List.mem_reverse.mp hz2)
      have h7 : Dq K r (upd H6 p7 (.tup xs'.reverse)) (.ref p7) (.tuple ds.reverse) := dq_new g6 n7 prev
      have g7 := g6.same e7
      have hp7 : Paired (Dq K r (upd H6 p7 (.tup xs'.reverse))) xs' ds := prd_mono (fun _ _ z => Dq.same e7 z) hp6
      have ha7 := sameT e7 ha6
      generalize upd H6 p7 (.tup xs'.reverse) = H7 at e7 h7 g7 hp7 ha7
      refine ⟨_, rfl, a, xs', rfl, .inr ha7, fun p8 n8 => ?_⟩
      have e8 := same_upd (o := .lst xs') n8
      have h8 : Dq K r (upd H7 p8 (.lst xs')) (.ref p8) (.list ds) := dq_newL g7 n8 hp7
      have g8 := g7.same e8
      generalize upd H7 p8 (.lst xs') = H8 at e8 h8 g8
      refine ⟨(by decide : 4 ≤ sizeLine), fun p9 n9 => ?_⟩
      have e9 := same_upd (o := .lst [w3, w5, .ref p7, .ref p8]) n9
      have hL9 : (upd H8 p9 (.lst [w3, w5, .ref p7, .ref p8])) p9 = some (.lst [w3, w5, .ref p7, .ref p8]) := upd_same
      have g9 := g8.same e9
      have s49 := ((s6.trans e7).trans e8).trans e9
      have s69 := (e7.trans e8).trans e9
      have k3 := h4.same s49
      have k5 := h6.same s69
      have k7 := h7.same (e8.trans e9)
      have k8 := h8.same e9
      have kd := hd4.same s49
      have c9 : Cl r H (upd H8 p9 (.lst [w3, w5, .ref p7, .ref p8])) := c1.trans (Cl.of (s4.trans s49))
      generalize upd H8 p9 (.lst [w3, w5, .ref p7, .ref p8]) = H9 at e9 hL9 g9 k3 k5 k7 k8 kd c9
      -- the seven
      refine ⟨_, rfl, Nat.zero_le _, fun pA nA => ?_⟩
      have eA := same_upd (o := .tup []) nA
      have kA : Dq K r (upd H9 pA (.tup [])) (.ref pA) (.tuple []) := dq_new g9 nA .nil
      have gA := g9.same eA
      have kdA := kd.same eA
      refine ⟨_, rfl, _, rfl, _, rfl, slD kdA gA fun u1 HB eB hB => ⟨(by decide : 1 ≤ sizeLine), fun pC nC => ?_⟩⟩
      have gB := gA.same eB
      have eC := same_upd (o := .tup [V.non]) nC
      have hC : Dq K r (upd HB pC (.tup [V.non])) (.ref pC) (.tuple [.none]) := dq_new gB nC (.cons .non .nil)
      have gC := gB.same eC
      refine catD (hB.same eC) hC gC (by simp; omega) fun u2 HD eD hD => ?_
      have gD := gC.same eD
      have sAD := (eB.trans eC).trans eD
      refine ⟨_, rfl, _, rfl, _, rfl, slD (kdA.same sAD) gD fun u3 HE eE hE => catD (hD.same eE) hE (gD.same eE) (by simp; omega) fun u4 HF eF hF => ?_⟩
      have sAF := (sAD.trans eE).trans eF
      have gF := gA.same sAF
      refine ⟨(by decide : 3 ≤ sizeLine), fun pG nG => ?_⟩
      have eG := same_upd (o := .lst [.ref pA, V.non, u4]) nG
      have s9G := (eA.trans sAF).trans eG
      refine ⟨p9, pG, [w3, w5, .ref p7, .ref p8], [.ref pA, .non, u4], rfl, rfl, s9G _ _ hL9, upd_same, (by decide : 7 ≤ sizeLine), fun pH nH => ?_⟩
      have eH := same_upd (o := .lst ([w3, w5, .ref p7, .ref p8] ++ [.ref pA, V.non, u4])) nH
      have hLH : (upd (upd HF pG (.lst [.ref pA, V.non, u4])) pH (.lst ([w3, w5, .ref p7, .ref p8] ++ [.ref pA, V.non, u4]))) pH = some (.lst ([w3, w5, .ref p7, .ref p8] ++ [.ref pA, V.non, u4])) := upd_same
      have s9H := s9G.trans eH
      have gH := g9.same s9H
      have all : Paired (Dq K r (upd (upd HF pG (.lst [.ref pA, V.non, u4])) pH (.lst ([w3, w5, .ref p7, .ref p8] ++ [.ref pA, V.non, u4])))) ([w3, w5, .ref p7, .ref p8] ++ [.ref pA, V.non, u4])
          [.tuple (cutP ds none (some (j : Int)) ++ cutP ds (some ((j : Int) + 1)) none), .tuple (ds ++ cutP ds (some (-1)) none), .tuple ds.reverse, .list ds, .tuple [], .none, .tuple ((cutP ds none (some (j : Int)) ++ [.none]) ++ cutP ds (some (j : Int)) none)] :=
        .cons (k3.same s9H) (.cons (k5.same s9H) (.cons (k7.same s9H) (.cons (k8.same s9H) (.cons (kA.same ((sAF.trans eG).trans eH)) (.cons .non (.cons (hF.same (eG.trans eH)) .nil))))))
      have cH : Cl r H (upd (upd HF pG (.lst [.ref pA, V.non, u4])) pH (.lst ([w3, w5, .ref p7, .ref p8] ++ [.ref pA, V.non, u4]))) := c9.trans (Cl.of s9H)
      have nHr : pH ≠ r := (gF.same eG).ne nH
      generalize upd (upd HF pG (.lst [.ref pA, V.non, u4])) pH (.lst ([w3, w5, .ref p7, .ref p8] ++ [.ref pA, V.non, u4])) = HH at hLH gH all cH
      refine ⟨_, rfl, r, c, 7, e + 1, rfl, by decide, by decide, by omega, gH, fun z HI cI gI z0 z1 => ?_⟩
      obtain ⟨i, rfl⟩ : ∃ i : Nat, z = (i : Int) := ⟨z.toNat, by omega⟩
      have il : i < ([w3, w5, .ref p7, .ref p8] ++ [.ref pA, V.non, u4]).length := by show i < 7; omega
      have hi := List.getElem?_eq_getElem il
      obtain ⟨d', hd', hq'⟩ := prd_getL all hi
      refine ⟨pH, _, i, _, rfl, rfl, sl_ (cI.lst nHr hLH), atI_nat hi, ?_⟩
      refine q _ d' HI (cH.trans cI) (gI.le (by omega)) (dq_cl cI hq') ?_
      have hm := List.mem_of_getElem? hd'
      simp only [List.mem_cons, List.not_mem_nil, or_false] at hm
      rcases hm with rfl | rfl | rfl | rfl | rfl | rfl | rfl
      · refine okd_up (fun d hd => ?_) (by rw [List.length_append]; omega)
        rcases List.mem_append.mp hd with h | h
        · exact .inl (de _ (cutP_mem h))
        · exact .inl (de _ (cutP_mem h))
      · refine okd_up (fun d hd => ?_) (by rw [List.length_append]; omega)
        rcases List.mem_append.mp hd with h | h
        · exact .inl (de _ h)
        · exact .inl (de _ (cutP_mem h))
      · exact okd_up (fun d hd => .inl (de _ (List.mem_reverse.mp hd))) (by rw [List.length_reverse]; omega)
      · exact okd_upL de (by omega)
      · exact okd_up (fun d hd => absurd hd (by simp)) (by simp)
      · exact Sc.okd (.inl rfl) _
      · refine okd_up (fun d hd => ?_) (by rw [List.length_append, List.length_append]; simp; omega)
        rcases List.mem_append.mp hd with h | h
        · rcases List.mem_append.mp h with h | h
          · exact .inl (de _ (cutP_mem h))
          · exact .inr (.inl (List.mem_singleton.mp h))
        · exact .inl (de _ (cutP_mem h))
    | false =>
      refine ite2 (fun h => absurd h (by decide)) fun _ => ?_
      have scal : Okd n m d → (tyN d == "tuple") = false → True := fun _ _ => trivial
      refine ⟨_, rfl, ?_⟩
      show rIsi K [v, .ty "str"] H _
      refine isi_str hd.dp ⟨_, rfl, ?_⟩
      cases hT : (tyN d == "str") with
      | true =>
        obtain ⟨s, rfl⟩ : ∃ s, d = .str s := by
          cases d <;> first | exact ⟨_, rfl⟩ | exact absurd hT (by simp [tyN])
        obtain rfl := dp_str hd.dp
        have ht := hok.str
        have hl := ht.2
        refine ite2 (fun _ => ?_) fun h => absurd rfl h
        have x1 : ("x" : Str).length = 1 := rfl
        refine ⟨_, rfl, _, rfl, _, _, rfl, rfl, Nat.le_of_lt (big (by omega)), _, rfl, 1, rfl, s, rfl, Nat.le_of_lt (big (by omega)), (by show 11 ≤ sizeLine; decide), fun l nl => ?_⟩
        have el := same_upd (o := .lst [V.str (s ++ "x"), .str (cutS s (some 1) none), .str "A", .str "", .str "ann", .str "z", .str "calm", .str "not", .str "stuck", .str "careless", .int 0]) nl
        refine ⟨r, c, l, e, _, rfl, upd_same, hR.ne nl, by simp, (by show 11 ≤ 1000; decide), by omega, hR.same el, fun i x H1 c1 g1 hi => ?_⟩
        have all : Paired (Dq K r H1) [V.str (s ++ "x"), .str (cutS s (some 1) none), .str "A", .str "", .str "ann", .str "z", .str "calm", .str "not", .str "stuck", .str "careless", .int 0]
            [.str (s ++ "x"), .str (cutS s (some 1) none), .str "A", .str "", .str "ann", .str "z", .str "calm", .str "not", .str "stuck", .str "careless", .int 0] :=
          .cons (.str _) (.cons (.str _) (.cons (.str _) (.cons (.str _) (.cons (.str _) (.cons (.str _) (.cons (.str _) (.cons (.str _) (.cons (.str _) (.cons (.str _) (.cons (.int _) .nil))))))))))
        obtain ⟨d', hd', hq'⟩ := prd_getL all hi
        refine q x d' H1 ((Cl.of el).trans c1) (g1.le (by omega)) hq' (Sc.okd ?_ _)
        have hm := List.mem_of_getElem? hd'
        simp only [List.mem_cons, List.not_mem_nil, or_false] at hm
        have k12 : ∀ t : Str, okT 12 t → Sc (n + 1) (.str t) := fun t h => (sc_str h).mono (by omega)
        rcases hm with rfl | rfl | rfl | rfl | rfl | rfl | rfl | rfl | rfl | rfl | rfl
        · exact sc_str ⟨strOk_app ht.1 (by decide +kernel), by rw [strLen_append]; omega⟩
        · exact sc_str ⟨strOk_cut ht.1 _ _, Nat.le_trans (cutS_length s _ _) (by omega)⟩
        · exact k12 _ ⟨by decide +kernel, by decide +kernel⟩
        · exact k12 _ ⟨by decide +kernel, by decide +kernel⟩
        · exact k12 _ ⟨by decide +kernel, by decide +kernel⟩
        · exact k12 _ ⟨by decide +kernel, by decide +kernel⟩
        · exact k12 _ ⟨by decide +kernel, by decide +kernel⟩
        · exact k12 _ ⟨by decide +kernel, by decide +kernel⟩
        · exact k12 _ ⟨by decide +kernel, by decide +kernel⟩
        · exact k12 _ ⟨by decide +kernel, by decide +kernel⟩
        · exact .inr (.inr (.inl rfl))
      | false =>
        refine ite2 (fun h => absurd h (by decide)) fun _ => ?_
        refine nx_ret ?_
        refine ⟨_, rfl, Nat.zero_le _, fun p1 n1 => ⟨(by decide : 1 ≤ sizeLine), fun p2 n2 => ⟨(by decide : 2 ≤ sizeLine), fun p3 n3 => ⟨(by show 7 ≤ sizeLine; decide), fun l nl => ?_⟩⟩⟩⟩
        have e1 := same_upd (o := .tup []) n1
        have k1 : Dq K r (upd H p1 (.tup [])) (.ref p1) (.tuple []) := dq_new hR n1 .nil
        have g1 := hR.same e1
        have e2 := same_upd (o := .tup [V.str "ann"]) n2
        have k2 : Dq K r (upd (upd H p1 (.tup [])) p2 (.tup [V.str "ann"])) (.ref p2) (.tuple [.str "ann"]) := dq_new g1 n2 (.cons (.str _) .nil)
        have g2 := g1.same e2
        have e3 := same_upd (o := .tup [V.str "m", V.str "z"]) n3
        have k3 : Dq K r (upd (upd (upd H p1 (.tup [])) p2 (.tup [V.str "ann"])) p3 (.tup [V.str "m", V.str "z"])) (.ref p3) (.tuple [.str "m", .str "z"]) := dq_new g2 n3 (.cons (.str _) (.cons (.str _) .nil))
        have g3 := g2.same e3
        have el := same_upd (o := .lst [V.non, .int 0, .str "ann", .ref p1, .bl true, .ref p2, .ref p3]) nl
        refine ⟨r, c, l, e, _, rfl, upd_same, g3.ne nl, by simp, (by show 7 ≤ 1000; decide), by omega, g3.same el, fun i x H1 c1 g5 hi => ?_⟩
        have all : Paired (Dq K r H1) [V.non, .int 0, .str "ann", .ref p1, .bl true, .ref p2, .ref p3] [.none, .int 0, .str "ann", .tuple [], .bool true, .tuple [.str "ann"], .tuple [.str "m", .str "z"]] :=
          .cons .non (.cons (.int _) (.cons (.str _) (.cons (dq_cl c1 (k1.same ((e2.trans e3).trans el))) (.cons (.bl _) (.cons (dq_cl c1 (k2.same (e3.trans el))) (.cons (dq_cl c1 (k3.same el)) .nil))))))
        obtain ⟨d', hd', hq'⟩ := prd_getL all hi
        refine q x d' H1 ((Cl.of (((e1.trans e2).trans e3).trans el)).trans c1) (g5.le (by omega)) hq' ?_
        have hm := List.mem_of_getElem? hd'
        simp only [List.mem_cons, List.not_mem_nil, or_false] at hm
        have k12 : ∀ (t : Str) (m : Nat), okT 12 t → Okd (n + 1) m (.str t) := fun t m h => Sc.okd ((sc_str h).mono (by omega)) m
        have ann : okT 12 "ann" := ⟨by decide +kernel, by decide +kernel⟩
        have mm : okT 12 "m" := ⟨by decide +kernel, by decide +kernel⟩
        have zz : okT 12 "z" := ⟨by decide +kernel, by decide +kernel⟩
        rcases hm with rfl | rfl | rfl | rfl | rfl | rfl | rfl
        · exact Sc.okd (.inl rfl) _
        · exact Sc.okd (.inr (.inr (.inl rfl))) _
        · exact k12 _ _ ann
        · exact .inr ⟨[], .inl rfl, by simp, fun e he => absurd he (by simp)⟩
        · exact Sc.okd (.inr (.inl ⟨true, rfl⟩)) _
        · exact .inr ⟨_, .inl rfl, by show 1 ≤ n + 1; omega, fun e he => by rw [List.mem_singleton.mp he]; exact k12 _ _ ann⟩
        · refine .inr ⟨_, .inl rfl, by show 2 ≤ n + 1; omega, fun e he => ?_⟩
          simp only [List.mem_cons, List.not_mem_nil, or_false] at he
          rcases he with rfl | rfl
          · exact k12 _ _ mm
          · exact k12 _ _ zz
end
end K17

namespace K17
open PySem PySem.Spec PyProof.Rows L2 PySem.W Cb Evl
section
variable {P : Program} {w : World} {K : Frag} {mg : Str → Option Value} {base : Heap}
/-! ### a changed value -/
abbrev s_mut : Stmt := top 32
abbrev N_mut : List Str := ["_law_feed_here", "_law_item", "_law_at"]
theorem sc_mut : FnScope N_mut ["_law_feed_here", "_law_item"] (defScope s_mut) := ⟨rfl, rfl, rfl, by decide +kernel, rfl, by decide +kernel, by decide +kernel⟩
def sp_mut (K : Frag) (n m : Nat) : Sp := fun vs H Q _ => ∃ (r c : Addr) (v : V) (d : PD) (e : Int), vs = [.ref r, v] ∧ Dq K r H v d ∧ Okd n m d ∧ 12 ≤ n ∧ n ≤ 100 ∧ m ≤ 40 ∧ e + 4 * m ≤ 800000 ∧ Fd H r c e ∧ ∀ v' d' H', Cl r H H' → Fd H' r c (e + 4 * m + 4) → Dq K r H' v' d' → Okd (n + 1) (m + 1) d' → Q v' H'
theorem ok_mut1 {f : Addr} {fd : FuncData} {lv n m : Nat} {sp0 : Sp} (F : Fun K "_law_mutated" "_law_mutated" s_mut f fd) (B : Blt mg) (C : Bl2 mg) (D_draw : Own P w K mg base 1 "_law_draw" ["_law_feed_here", "_law_limit"] sp_draw) (D_repl : Own P w K mg base 3 "_law_replacement" ["_law_feed_here", "_law_item"] (sp_repl K n m))
    (D_mut : Own P w K mg base lv "_law_mutated" ["_law_feed_here", "_law_item"] sp0) (h3 : 3 ≤ lv) (hsp : ∀ k, m = k + 1 → ∀ vs H Q E, sp_mut K n k vs H Q E → sp0 vs H Q E) : FnOk P w K mg base CX0 (lv + 1) f fd ["_law_feed_here", "_law_item"] (sp_mut K n m) := by
  refine F.ok sc_mut (fun vs H Q E h => ?_) (fun cdv A outer s H vs Q E hr h => ?_)
  · obtain ⟨_, _, _, _, _, rfl, _⟩ := h
    rfl
  · obtain ⟨r, c, v, d, e, rfl, hd, hok, n12, n100, m40, he, hR, q⟩ := h
    have hr1 : Room 1 _ := hr.mono (by omega)
    have hr3 : Room 3 _ := hr.mono (by omega)
    refine ⟨_, (pss_cons (ps_if (PW.pt (pw_and (pt_val (pe_callB (c_isi (K := K)) (by rfl) C.isi (by decide +kernel) (pa_cons (pv 1) (pa_cons (pe_bltn (v := .ty "tuple") (by rfl) B.tuple (by decide +kernel) rfl) pa_nil)))) (pw_and (pt_cmpR (o_neD K hr.units) (pv 1) (pe_tup pa_nil) (nomark _)) (pw_and1 (pt_cmpR op_gt (pe_call D_draw.G hr1 rfl D_draw.m D_draw.kp D_draw.b .nil pass0 (pa_cons (pv 0) (pa_cons pe_int pa_nil))) pe_int (nomark _)))))) (pss_cons (ps_set (i := 2) sc_mut.nd rfl (Or.inl rfl) (pe_call D_draw.G hr1 rfl D_draw.m D_draw.kp D_draw.b .nil pass0 (pa_cons (pv 0) (pa_cons (pe_callB (c_len K) (by rfl) B.len (by decide +kernel) (pa_cons (pv 1) pa_nil)) pa_nil))))
      (pss_one (ps_ret (pe_op (o_catA K) (pe_op (o_catA K) (pe_slice (s_tupA K) (pv 1) po_none (po_some (pv 2))) (pe_tup (pa_cons (pe_call D_mut.G hr rfl D_mut.m D_mut.kp D_mut.b .nil pass0 (pa_cons (pv 0) (pa_cons (pe_ix (i_tup K) (pv 1) (pv 2) (fun _ _ => rfl)) pa_nil))) pa_nil))) (pe_slice (s_tupA K) (pv 1) (po_some (pe_op op_add (pv 2) pe_int)) po_none))))) pss_nil)
      (pss_one (ps_ret (pe_call D_repl.G hr3 rfl D_repl.m D_repl.kp D_repl.b .nil pass0 (pa_cons (pv 0) (pa_cons (pv 1) pa_nil)))))), ?_⟩
    have rep : ∀ H1 e1, Cl r H H1 → Fd H1 r c e1 → e1 ≤ e + 1 → sp_repl K n m [.ref r, v] H1 Q E0 := fun H1 e1 c1 g1 l => ⟨r, c, v, d, e1, rfl, dq_cl c1 hd, hok, n12, n100, by omega, g1, fun v' d' H' c2 g2 k2 o2 => q v' d' H' (c1.trans c2) (g2.le (by omega)) k2 o2⟩
    unfold tCB tCons tNil tC tNoPart
    refine ⟨_, rfl, ?_⟩
    show rIsi K [v, .ty "tuple"] H _
    refine isi_tup hd.dp ⟨_, rfl, ?_⟩
    cases hS : (tyN d == "tuple") with
    | false =>
      refine ite2 (fun h => absurd h (by decide)) fun _ => ite2 (fun h => absurd h (by decide)) fun _ => ?_
      exact ⟨_, rfl, _, rfl, rep H e Cl.refl hR (by omega)⟩
    | true =>
      obtain ⟨ds, rfl⟩ : ∃ ds, d = .tuple ds := by
        cases d <;> first | exact ⟨_, rfl⟩ | exact absurd hS (by simp [tyN])
      obtain ⟨km, rfl, dl, de⟩ := hok.tup
      obtain ⟨a, xs, rfl, ha, hp⟩ := dq_tup hd
      have xl := prd_len hp
      refine ite2 (fun _ => ?_) fun h => absurd rfl h
      refine ⟨_, rfl, Nat.zero_le _, fun l nl => ⟨.tuple ds, .tuple [], (hd.same (same_upd nl)).dp, .tup (st_ upd_same) .nil, hok.shaped, shaped_nilT, _, rfl, ?_⟩⟩
      rw [eqv_tup_nil]
      have el := same_upd (o := .tup []) nl
      have g1 := hR.same el
      generalize upd H l (.tup []) = H1 at el g1
      cases hE : ds.isEmpty with
      | true =>
        refine ite2 (fun h => absurd h (by decide)) fun _ => ite2 (fun h => absurd h (by decide)) fun _ => ?_
        exact ⟨_, rfl, _, rfl, rep H1 e (Cl.of el) g1 (by omega)⟩
      | false =>
        have dne : 0 < ds.length := by
          cases ds with
          | nil => cases hE
          | cons _ _ => exact Nat.succ_pos _
        refine ite2 (fun _ => ?_) fun h => absurd rfl h
        refine ⟨_, rfl, r, c, 6, e, rfl, by decide, by decide, by omega, g1, fun z0 H2 c2 g2 _ _ => ⟨_, _, rfl, rfl, _, rfl, ite2 (fun _ => ?_) (fun _ => ?_)⟩⟩
        · have hd2 := dq_cl ((Cl.of el).trans c2) hd
          obtain ⟨a2, xs2, ea, ha2, hp2⟩ := dq_tup hd2
          cases ea
          have xl2 := prd_len hp2
          refine sq_set ⟨_, rfl, _, rfl, a, xs2, rfl, .inr ha2, r, c, _, e + 1, rfl, by omega, by omega, by omega, g2, fun z H3 c3 g3 z0 z1 => ?_⟩
          obtain ⟨j, rfl⟩ : ∃ j : Nat, z = (j : Int) := ⟨z.toNat, by omega⟩
          have jl : j < ds.length := by omega
          have hd3 := dq_cl c3 hd2
          have cutlo : HT.sIx ds.length ds.length (some (j : Int)) = min j ds.length := HT.sIx_nat _ _ _
          have cutlo1 : HT.sIx ds.length 0 (some ((j : Int) + 1)) = min (j + 1) ds.length := by
            have : (j : Int) + 1 = ((j + 1 : Nat) : Int) := by omega
            rw [this]
            exact HT.sIx_nat _ _ _
          have l1 := cutP_len ds none (some (j : Int))
          have l2 := cutP_len ds (some ((j : Int) + 1)) none
          rw [cutlo, HT.sIx_none] at l1
          rw [cutlo1, HT.sIx_none] at l2
          refine ⟨_, rfl, _, rfl, _, rfl, slD hd3 g3 fun w1 H4 e4 h4 => ?_⟩
          have g4 := g3.same e4
          have hd4 := hd3.same e4
          obtain ⟨a4, xs4, ea4, ha4, hp4⟩ := dq_tup hd4
          cases ea4
          have hj : ds[j]? = some ds[j] := List.getElem?_eq_getElem jl
          obtain ⟨u, hu, hdu⟩ := prd_get hp4 hj
          refine ⟨_, rfl, _, rfl, _, rfl, a, xs4, j, u, rfl, rfl, ha4, atI_nat hu, hsp km rfl _ _ _ _ ⟨r, c, u, ds[j], e + 2, rfl, hdu, de _ (List.getElem_mem jl), n12, n100, by omega, by omega, g4.le (by omega), fun v' d' H5 c5 g5 k5 o5 => ⟨(by decide : 1 ≤ sizeLine), fun p6 n6 => ?_⟩⟩⟩
          have e6 := same_upd (o := .tup [v']) n6
          have k6 : Dq K r (upd H5 p6 (.tup [v'])) (.ref p6) (.tuple [d']) := dq_new g5 n6 (.cons k5 .nil)
          have g6 := g5.same e6
          refine catD ((dq_cl c5 h4).same e6) k6 g6 (by simp; omega) fun w7 H7 e7 h7 => ?_
          have g7 := g6.same e7
          have hd7 := ((dq_cl c5 hd4).same e6).same e7
          refine ⟨_, rfl, _, rfl, _, _, rfl, rfl, _, rfl, slD hd7 g7 fun w8 H8 e8 h8 => catD (h7.same e8) h8 (g7.same e8) (by simp; omega) fun w9 H9 e9 h9 => ?_⟩
          have s9 := ((e6.trans e7).trans e8).trans e9
          refine q w9 _ H9 (((((Cl.of el).trans c2).trans c3).trans (Cl.of e4)).trans (c5.trans (Cl.of s9))) ((g5.same s9).le (by omega)) h9 ?_
          refine okd_up (fun d hd => ?_) (by rw [List.length_append, List.length_append]; simp; omega)
          rcases List.mem_append.mp hd with h | h
          · rcases List.mem_append.mp h with h | h
            · exact .inl (de _ (cutP_mem h))
            · exact .inr (.inr (by rw [List.mem_singleton.mp h]; exact o5))
          · exact .inl (de _ (cutP_mem h))
        · exact ⟨_, rfl, _, rfl, rep H2 (e + 1) ((Cl.of el).trans c2) g2 (by omega)⟩
theorem ok_never {f : Addr} {fd : FuncData} {k : Nat} {ps : List Str} : FnOk P w K mg base CX0 k f fd ps (fun _ _ _ _ => False) := ⟨fun _ _ _ _ h => h.elim, fun _ _ _ _ _ _ _ _ _ _ _ _ _ h => h.elim⟩
theorem ok_mut {f : Addr} {fd : FuncData} (F : Fun K "_law_mutated" "_law_mutated" s_mut f fd) (B : Blt mg) (C : Bl2 mg) (D_draw : Own P w K mg base 1 "_law_draw" ["_law_feed_here", "_law_limit"] sp_draw) (hm : mg "_law_mutated" = some (.ref f)) (hk : keepIn K (.ref f) = true) (hb : Binds K fd ["_law_feed_here", "_law_item"] [])
    (D_repl : ∀ n m, Own P w K mg base 3 "_law_replacement" ["_law_feed_here", "_law_item"] (sp_repl K n m)) (n : Nat) : ∀ m, FnOk P w K mg base CX0 (m + 4) f fd ["_law_feed_here", "_law_item"] (sp_mut K n m)
  | 0 => ok_mut1 (lv := 3) (sp0 := fun _ _ _ _ => False) F B C D_draw (D_repl n 0) ⟨f, fd, ok_never, hm, hk, hb⟩ (by omega) (fun k h => absurd h (by omega))
  | m + 1 => ok_mut1 (lv := m + 4) (sp0 := sp_mut K n m) F B C D_draw (D_repl n (m + 1)) ⟨f, fd, ok_mut F B C D_draw hm hk hb D_repl n m, hm, hk, hb⟩ (by omega) (fun k h vs H Q E z => by
      have : k = m := by omega
      subst this
      exact z)
end
end K17

namespace K17
open PySem PySem.Spec PyProof.Rows L2 PySem.W Cb
/-! ### what evaluates to data, making new objects alone -/
def EvD (K : Frag) (r : Addr) (σ : Stt) (H : Hp) (te : TE) (d : PD) : Prop := ∀ H1, Same H H1 → ∀ R : VK, (∀ v H2, Same H1 H2 → Dq K r H2 v d → R v H2) → te σ H1 R
def EvA (K : Frag) (r : Addr) (σ : Stt) (H : Hp) (ta : TA) (ds : List PD) : Prop := ∀ H1, Same H H1 → ∀ R : List V → Hp → Prop, (∀ vs H2, Same H1 H2 → Paired (Dq K r H2) vs ds → R vs H2) → ta σ H1 R
def EvL (K : Frag) (r : Addr) (σ : Stt) (H : Hp) (te : TE) (ds : List PD) : Prop := ∀ H1, Same H H1 → ∀ R : VK, (∀ l xs H2, Same H1 H2 → l ≠ r → H2 l = some (.lst xs) → Paired (Dq K r H2) xs ds → R (.ref l) H2) → te σ H1 R
section
variable {K : Frag} {r c : Addr} {σ : Stt} {H : Hp} {e : Int} {te ta' tb' : TE} {ta : TA} {d : PD} {ds es : List PD}
theorem er_dt {a : Addr} {xs : List V} (g : Fd H r c e) (h : SqT K H a xs) : SqT K (er r H) a xs := by
  obtain ⟨_, _, _, _, g1, _⟩ := g
  have ne : ∀ {o : HO}, H a = some o → (∀ ys, o ≠ .lst ys) → a ≠ r := fun {o} h n z => by
    subst z
    rw [g1] at h
    cases h
    exact n _ rfl
  rcases h with (h | ⟨o, h⟩) | h
  · exact .inl (.inl (by rw [er_at (ne h fun _ z => by cases z)]; exact h))
  · exact .inl (.inr ⟨o, by rw [er_at (ne h fun _ z => by cases z)]; exact h⟩)
  · exact .inr h
theorem dq_s1 {v : V} {ns : List Str} (g : Fd H r c e) (h : S1 K H v ns) : Dq K r H v (sD ns) := by
  obtain ⟨a, rfl, h⟩ := h
  exact .tup (er_dt g h) (dpStrs ns)
theorem ev_var (i : Nat) {v : V} (h : Dq K r H v d) (hi : σ[i]? = some (some v) := by rfl) : EvD K r σ H (tVar i) d := fun H1 e1 R q => ⟨v, hi, q v H1 (Same.refl _) (h.same e1)⟩
theorem ev_int (i : Int) : EvD K r σ H (tC (.int i)) (.int i) := fun H1 e1 R q => q _ H1 (Same.refl _) (.int i)
theorem ev_str (s : Str) : EvD K r σ H (tC (.str s)) (.str s) := fun H1 e1 R q => q _ H1 (Same.refl _) (.str s)
theorem ev_non : EvD K r σ H (tC .non) .none := fun H1 e1 R q => q _ H1 (Same.refl _) .non
theorem ev_bl (b : Bool) : EvD K r σ H (tC (.bl b)) (.bool b) := fun H1 e1 R q => q _ H1 (Same.refl _) (.bl b)
theorem evs_nil : EvA K r σ H tNil [] := fun H1 e1 R q => q [] H1 (Same.refl _) .nil
theorem evs_cons (h : EvD K r σ H te d) (t : EvA K r σ H ta ds) : EvA K r σ H (tCons te ta) (d :: ds) := fun H1 e1 R q =>
  h H1 e1 _ fun v H2 e2 hd => t H2 (e1.trans e2) _ fun vs H3 e3 hp => q (v :: vs) H3 (e2.trans e3) (.cons (hd.same e3) hp)
theorem ev_tup (g : Fd H r c e) (h : EvA K r σ H ta ds) (l : ds.length ≤ 1000 := by simp) : EvD K r σ H (tTup ta) (.tuple ds) := fun H1 e1 R q =>
  h H1 e1 _ fun vs H2 e2 hp => ⟨by have := prd_len hp; exact Nat.le_of_lt (big (by omega)), fun p np => q _ _ (e2.trans (same_upd np)) (dq_new (g.same (e1.trans e2)) np hp)⟩
theorem ev_lst (g : Fd H r c e) (h : EvA K r σ H ta ds) (l : ds.length ≤ 1000 := by simp) : EvL K r σ H (tLst ta) ds := fun H1 e1 R q =>
  h H1 e1 _ fun vs H2 e2 hp => ⟨by have := prd_len hp; exact Nat.le_of_lt (big (by omega)), fun p np => q p vs _ (e2.trans (same_upd np)) ((g.same (e1.trans e2)).ne np) upd_same (prd_mono (fun _ _ z => Dq.same (same_upd np) z) hp)⟩
theorem ev_ofL (h : EvL K r σ H te ds) : EvD K r σ H te (.list ds) := fun H1 e1 R q => h H1 e1 _ fun l xs H2 e2 nl hl hp => q _ H2 e2 (.lst (sl_ (by rw [er_at nl]; exact hl)) (pair_dps hp))
theorem ev_listOf (g : Fd H r c e) (h : EvD K r σ H te (.tuple ds)) : EvD K r σ H (tCB (rListOf K) (tCons te tNil)) (.list ds) := fun H1 e1 R q => by
  unfold tCB tCons tNil
  refine h H1 e1 _ fun v H2 e2 hd => ?_
  obtain ⟨a, xs, rfl, ha, hp⟩ := dq_tup hd
  exact ⟨a, xs, rfl, .inr ha, fun l nl => q _ _ (e2.trans (same_upd nl)) (dq_newL (g.same (e1.trans e2)) nl hp)⟩
theorem ev_revT (g : Fd H r c e) (h : EvD K r σ H te (.tuple ds)) : EvD K r σ H (tRevT K te) (.tuple ds.reverse) := fun H1 e1 R q =>
  h H1 e1 _ fun v H2 e2 hd => by
    obtain ⟨a, xs, rfl, ha, hp⟩ := dq_tup hd
    refine ⟨a, xs, rfl, ha, fun p np => q _ _ (e2.trans (same_upd np)) (dq_new (g.same (e1.trans e2)) np ?_)⟩
    obtain ⟨zs, rfl, rfl, hz⟩ := prd_fst hp
    rw [← List.map_reverse, ← List.map_reverse]
    exact prd_of fun z hz2 => hz z (List.mem_reverse.mp hz2)
theorem ev_last (g : Fd H r c e) (h : EvD K r σ H te (.tuple ds)) : EvD K r σ H (tSl (rSlA K) te (tPart (tUn (rU fun i => .int (-i)) (tC (.int 1)))) tNoPart) (.tuple (cutP ds (some (-1)) none)) := fun H1 e1 R q => by
  unfold tSl tNoPart
  exact h H1 e1 _ fun v H2 e2 hd => ⟨1, rfl, -1, rfl, slD hd (g.same (e1.trans e2)) fun w H3 e3 h3 => q w H3 (e2.trans e3) h3⟩
theorem ev_first (g : Fd H r c e) (h : EvD K r σ H te (.tuple ds)) : EvD K r σ H (tSl (rSlA K) te tNoPart (tPart (tC (.int 1)))) (.tuple (cutP ds none (some 1))) := fun H1 e1 R q => by
  unfold tSl tNoPart
  exact h H1 e1 _ fun v H2 e2 hd => ⟨1, rfl, slD hd (g.same (e1.trans e2)) fun w H3 e3 h3 => q w H3 (e2.trans e3) h3⟩
theorem ev_cat (g : Fd H r c e) (h1 : EvD K r σ H ta' (.tuple ds)) (h2 : EvD K r σ H tb' (.tuple es)) (hl : ds.length + es.length ≤ 100000) : EvD K r σ H (tOp (rCatA K) ta' tb') (.tuple (ds ++ es)) := fun H1 e1 R q =>
  h1 H1 e1 _ fun v H2 e2 hv => h2 H2 (e1.trans e2) _ fun u H3 e3 hu => catD (hv.same e3) hu (g.same ((e1.trans e2).trans e3)) hl fun w H4 e4 h4 => q w H4 ((e2.trans e3).trans e4) h4
theorem ev_varL (i : Nat) {F : Addr} {xs : List V} (hF : H F = some (.lst xs)) (n : F ≠ r) (h : Paired (Dq K r H) xs ds) (hi : σ[i]? = some (some (.ref F)) := by rfl) : EvL K r σ H (tVar i) ds := fun H1 e1 R q => ⟨_, hi, q F xs H1 (Same.refl _) n (e1 _ _ hF) (prd_mono (fun _ _ z => Dq.same e1 z) h)⟩
theorem ev_catL (g : Fd H r c e) (h1 : EvL K r σ H ta' ds) (h2 : EvL K r σ H tb' es) (hl : ds.length + es.length ≤ 1000) : EvL K r σ H (tOp rCat ta' tb') (ds ++ es) := fun H1 e1 R q =>
  h1 H1 e1 _ fun l xs H2 e2 nl hl1 hp => h2 H2 (e1.trans e2) _ fun b ys H3 e3 nb hb hq =>
    ⟨l, b, xs, ys, rfl, rfl, e3 _ _ hl1, hb, by have := prd_len hp; have := prd_len hq; exact Nat.le_of_lt (big (by omega)), fun p np => q p _ _ ((e2.trans e3).trans (same_upd np)) ((g.same ((e1.trans e2).trans e3)).ne np) upd_same
      (prd_app (prd_mono (fun _ _ z => Dq.same (e3.trans (same_upd np)) z) hp) (prd_mono (fun _ _ z => Dq.same (same_upd np) z) hq))⟩
/-- [(t1, t2) for t in ts], sets of people -/
theorem ev_lc2 {a : Addr} {xs : List V} {ts : List (List Str)} {j : Nat} {vs : List Nat} {tl : TE} (g : Fd H r c e) (f : List Str → List Str × List Str) (hl : ∀ H1, ∀ R : VK, R (.ref a) H1 → tl σ H1 R) (hs : SqT K H a xs) (hp : Paired (S1 K H) xs ts) (hn : ts.length ≤ 1000)
    (hj : ∀ x, wipe ((wipe σ vs).set j (some x)) vs = wipe σ vs)
    (he : ∀ x t H1, Same H H1 → S1 K H1 x t → ∀ R : VK, (∀ p u1 u2 H2, Same H1 H2 → SqT K H2 p [u1, u2] → S1 K H2 u1 (f t).1 → S1 K H2 u2 (f t).2 → R (.ref p) H2) → te ((wipe σ vs).set j (some x)) H1 R) :
    EvL K r σ H (tLc (iTup K tl) (gName j) tYes te vs) (ts.map fun t => .tuple [sD (f t).1, sD (f t).2]) := fun H1 e1 R q => by
  have xl := prd_len hp
  refine lcT_rel (K := K) (xs := xs) (F := fun H v (b : List Str × List Str) => ∃ p u1 u2, v = .ref p ∧ SqT K H p [u1, u2] ∧ S1 K H u1 b.1 ∧ S1 K H u2 b.2) (fun Ha Hb v b fx z => ?_) (ts.map f) (fun R hR => hl H1 _ (hR a H1 (Same.refl _) (sameT e1 hs))) (by omega) (by rw [List.length_map]; exact xl) hj (fun i x b hx hb H2 e2 R hR => ?_) fun D us H2 nD e2 hD hu => ?_
  · obtain ⟨p, u1, u2, rfl, h1, h2, h3⟩ := z
    exact ⟨p, u1, u2, rfl, fx.sqT h1, fx.s1 h2, fx.s1 h3⟩
  · rw [List.getElem?_map] at hb
    obtain ⟨t, ht, rfl⟩ := Option.map_eq_some_iff.mp hb
    obtain ⟨t2, ht2, hx2⟩ := prd_getL hp hx
    rw [ht] at ht2
    cases ht2
    exact he x t H2 (e1.trans e2) (hx2.same (e1.trans e2)) R fun p u1 u2 H3 e3 h1 h2 h3 => hR _ H3 e3 ⟨p, u1, u2, rfl, h1, h2, h3⟩
  · have g2 := g.same (e1.trans e2)
    have nDr : D ≠ r := (g.same e1).ne nD
    refine q D us H2 e2 nDr hD ?_
    have cv : ∀ {us : List V} {bs : List (List Str × List Str)}, Paired (fun v (b : List Str × List Str) => ∃ p u1 u2, v = .ref p ∧ SqT K H2 p [u1, u2] ∧ S1 K H2 u1 b.1 ∧ S1 K H2 u2 b.2) us bs → Paired (Dq K r H2) us (bs.map fun b => .tuple [sD b.1, sD b.2]) := fun h => by
      induction h with
      | nil => exact .nil
      | cons r1 t ih =>
        obtain ⟨p, u1, u2, rfl, h1, h2, h3⟩ := r1
        exact .cons (.tup (er_dt g2 h1) (.cons (dq_s1 g2 h2) (.cons (dq_s1 g2 h3) .nil))) ih
    have := cv hu
    rw [List.map_map] at this
    exact this
end
/-! ### values out of names -/
theorem pool_okT {n : Str} (h : n ∈ pool) : okT 12 n := by
  have e : (pool.all fun n => PyData.strOk n && decide (n.length ≤ 12)) = true := by decide +kernel
  have := List.all_eq_true.mp e n h
  simp only [Bool.and_eq_true, decide_eq_true_eq] at this
  exact this
/-- texts -/
def Nm (ds : List PD) : Prop := ∀ e ∈ ds, Sc 12 e
theorem nm_names {ns : List Str} (h : ∀ n ∈ ns, n ∈ pool) : Nm (ns.map PyData.str) := fun e he => by
  obtain ⟨n, hn, rfl⟩ := List.mem_map.mp he
  exact sc_str (pool_okT (h n hn))
theorem nm_app {ds es : List PD} (h1 : Nm ds) (h2 : Nm es) : Nm (ds ++ es) := fun e he => (List.mem_append.mp he).elim (h1 e) (h2 e)
theorem nm_rev {ds : List PD} (h : Nm ds) : Nm ds.reverse := fun e he => h e (List.mem_reverse.mp he)
theorem nm_cut {ds : List PD} {lo hi : Option Int} (h : Nm ds) : Nm (cutP ds lo hi) := fun e he => h e (cutP_mem he)
theorem nm_one {s : Str} (h : okT 12 s) : Nm [.str s] := fun e he => by
  rw [List.mem_singleton.mp he]
  exact sc_str h
theorem nm_nil : Nm [] := fun e he => absurd he (by simp)
theorem nm_tup {ds : List PD} (h : Nm ds) (l : ds.length ≤ 12) : Okd 12 1 (.tuple ds) := .inr ⟨ds, .inl rfl, l, h⟩
theorem nm_lst {ds : List PD} (h : Nm ds) (l : ds.length ≤ 12) : Okd 12 1 (.list ds) := .inr ⟨ds, .inr rfl, l, h⟩
theorem ok2 {a b : PD} (h1 : Okd 12 1 a) (h2 : Okd 12 1 b) : Okd 12 2 (.tuple [a, b]) := .inr ⟨_, .inl rfl, (by show 2 ≤ 12; decide), fun e he => by
  simp only [List.mem_cons, List.not_mem_nil, or_false] at he
  rcases he with rfl | rfl
  · exact h1
  · exact h2⟩
theorem okv2 {a b : PD} (h1 : Okd 12 1 a) (h2 : Okd 12 1 b) : Okv (.tuple [a, b]) := (ok2 h1 h2).mono (by decide) (by decide)
end K17

namespace K17
open PySem PySem.Spec PyProof.Rows L2 PySem.W Cb
theorem sq_for' {wi : TI} {g : TG} {tb u : TS} {D : Ends} {σ : Stt} {H : Hp} (h : tFor wi g tb { D with nx := u D } σ H) : tSeq (tFor wi g tb) u D σ H := h
section
variable {P : Program} {w : World} {K : Frag} {mg : Str → Option Value} {base : Heap}
/-! ### the items -/
abbrev s_items : Stmt := top 38
abbrev N_items : List Str := ["_law_feed_here", "_law_teams_here", "_law_here", "_law_team", "_law_folk_here", "_law_found", "_law_k", "_law_mutated_here", "_law_own"]
theorem sc_items : FnScope N_items ["_law_feed_here", "_law_teams_here"] (defScope s_items) := ⟨rfl, rfl, rfl, by decide +kernel, rfl, by decide +kernel, by decide +kernel⟩
def sp_items (K : Frag) : Sp := fun vs H Q _ => ∃ (r c : Addr) (x : V) (ts : List (List Str)) (d : Int), vs = [.ref r, x] ∧ S2 K H x ts ∧ ts ≠ [] ∧ ts.length ≤ 12 ∧ (∀ t ∈ ts, Pt t) ∧ d ≤ 700000 ∧ Fd H r c d ∧
  ∀ F xs ds H', Cl r H H' → Fd H' r c (d + 500) → H' F = some (.lst xs) → F ≠ r → Paired (Dq K r H') xs ds → ds.length ≤ 200 → (∀ e ∈ ds, Okv e) → Q (.ref F) H'
theorem ok_items {f : Addr} {fd : FuncData} {k : Nat} (F : Fun K "_law_items" "_law_items" s_items f fd) (B : Blt mg) (D_scene : Own P w K mg base 3 "_law_scene" ["_law_feed_here", "_law_teams_here"] (sp_scene K)) (D_folk : Own P w K mg base 1 "_law_folk" ["_law_teams_here"] (sp_folk K))
    (D_mutA : Own P w K mg base 6 "_law_mutated" ["_law_feed_here", "_law_item"] (sp_mut K 12 2)) (D_mutB : Own P w K mg base 7 "_law_mutated" ["_law_feed_here", "_law_item"] (sp_mut K 13 3)) : FnOk P w K mg base CX0 (k + 8) f fd ["_law_feed_here", "_law_teams_here"] (sp_items K) := by
  refine F.ok sc_items (fun vs H Q E h => ?_) (fun cdv A outer s H vs Q E hr h => ?_)
  · obtain ⟨_, _, _, _, _, rfl, _⟩ := h
    rfl
  · obtain ⟨r, c, x, ts, d, rfl, hx, tne, t12, hpt, hd, hR, q⟩ := h
    have hr1 : Room 1 _ := hr.mono (by omega)
    have hr3 : Room 3 _ := hr.mono (by omega)
    have hr6 : Room 6 _ := hr.mono (by omega)
    have hr7 : Room 7 _ := hr.mono (by omega)
    refine ⟨_, (pss_cons (ps_asg (pe_call D_scene.G hr3 rfl D_scene.m D_scene.kp D_scene.b .nil pass0 (pa_cons (pv 0) (pa_cons (pv 1) pa_nil))) (show PG _ _ (gTup K 2 _) from pg_tup rfl (pgs_cons (pg_name (i := 2) sc_items.nd rfl (Or.inl rfl)) (pgs_cons (pg_name (i := 3) sc_items.nd rfl (Or.inr rfl)) pgs_nil))))
      (pss_cons (ps_set (i := 4) sc_items.nd rfl (Or.inr rfl) (pe_call D_folk.G hr1 rfl D_folk.m D_folk.kp D_folk.b .nil pass0 (pa_cons (pv 1) pa_nil)))
      (pss_cons (ps_set (i := 5) sc_items.nd rfl (Or.inl rfl) (pe_lst (pa_cons (pe_tup (pa_cons (pv 2) (pa_cons (pv 3) pa_nil))) (pa_cons (pe_lst (pa_cons (pv 2) (pa_cons (pv 3) pa_nil))) (pa_cons (pe_tup (pa_cons (pe_callTy (c_list K) (by rfl) B.list (by decide +kernel) (pa_cons (pv 2) pa_nil)) (pa_cons (pv 3) pa_nil))) (pa_cons (pe_tup (pa_cons (pv 2) (pa_cons (pe_callTy (c_list K) (by rfl) B.list (by decide +kernel) (pa_cons (pv 3) pa_nil)) pa_nil))) (pa_cons (pe_tup (pa_cons (pe_revT (K := K) (pv 2)) (pa_cons (pv 3) pa_nil))) (pa_cons (pe_tup (pa_cons (pv 2) (pa_cons (pe_revT (K := K) (pv 3)) pa_nil))) pa_nil))))))))
      (pss_cons (ps_set (i := 5) sc_items.nd rfl (Or.inl rfl) (pe_op op_cat (pv 5) (pe_lst (pa_cons (pe_tup (pa_cons (pv 2) pa_nil)) (pa_cons (pe_tup (pa_cons (pv 2) (pa_cons (pv 3) (pa_cons pe_int pa_nil)))) (pa_cons (pe_tup (pa_cons (pe_op (o_catA K) (pv 2) (pe_slice (s_tupA K) (pv 2) (po_some (pe_un un_neg pe_int)) po_none)) (pa_cons (pv 3) pa_nil))) (pa_cons (pe_tup (pa_cons (pv 2) (pa_cons (pe_tup pa_nil) pa_nil))) (pa_cons (pe_tup (pa_cons (pe_tup pa_nil) (pa_cons (pe_tup pa_nil) pa_nil))) (pa_cons (pe_tup (pa_cons (pe_tup pa_nil) (pa_cons (pv 3) pa_nil))) (pa_cons (pe_tup (pa_cons (pv 3) (pa_cons (pv 3) pa_nil))) pa_nil))))))))))
      (pss_cons (ps_set (i := 5) sc_items.nd rfl (Or.inl rfl) (pe_op op_cat (pe_op op_cat (pe_op op_cat (pv 5) (pe_lc (own := [("_law_own", 8)]) (g := gName 8) (tt := tYes) rfl sc_items.nd (p_tup K (pv 1)) (blkOk_by (own := [("_law_own", 8)]) (N := N_items) (sc := defScope s_items) (by decide +kernel)) (fun _ _ _ _ _ => (pg_name (i := 8) sc_items.nd rfl (Or.inl rfl))) (fun _ _ _ _ _ => pts_nil) (fun _ _ _ _ _ => (pe_tup (pa_cons (pv 4) (pa_cons (pv 8) pa_nil)))))) (pe_lc (own := [("_law_own", 8)]) (g := gName 8) (tt := tYes) rfl sc_items.nd (p_tup K (pv 1)) (blkOk_by (own := [("_law_own", 8)]) (N := N_items) (sc := defScope s_items) (by decide +kernel)) (fun _ _ _ _ _ => (pg_name (i := 8) sc_items.nd rfl (Or.inl rfl))) (fun _ _ _ _ _ => pts_nil) (fun _ _ _ _ _ => (pe_tup (pa_cons (pv 8) (pa_cons (pv 3) pa_nil)))))) (pe_lst (pa_cons (pe_tup (pa_cons (pv 4) (pa_cons (pv 4) pa_nil))) (pa_cons (pe_tup (pa_cons (pv 4) (pa_cons (pe_slice (s_tupA K) (pv 4) po_none (po_some pe_int)) pa_nil))) pa_nil)))))
      (pss_cons (ps_set (i := 5) sc_items.nd rfl (Or.inl rfl) (pe_op op_cat (pv 5) (pe_lst (pa_cons (pe_tup (pa_cons (pe_op (o_catA K) (pv 4) (pe_tup (pa_cons pe_str pa_nil))) (pa_cons (pv 3) pa_nil))) (pa_cons (pe_tup (pa_cons (pe_op (o_catA K) (pe_tup (pa_cons pe_str pa_nil)) (pv 4)) (pa_cons (pv 3) pa_nil))) (pa_cons (pe_tup (pa_cons (pv 4) (pa_cons (pe_op (o_catA K) (pv 3) (pe_tup (pa_cons pe_str pa_nil))) pa_nil))) (pa_cons pe_non (pa_cons (pe_tup pa_nil) (pa_cons pe_bl (pa_cons pe_str (pa_cons pe_int pa_nil)))))))))))
      (pss_cons (ps_for PassesOwn.never rfl (pi_range1 rfl B.range (pa_cons pe_int pa_nil)) (pg_name (i := 6) sc_items.nd rfl (Or.inl rfl))
      (pss_cons (ps_set (i := 7) sc_items.nd rfl (Or.inl rfl) (pe_call D_mutA.G hr6 rfl D_mutA.m D_mutA.kp D_mutA.b .nil pass0 (pa_cons (pv 0) (pa_cons (pe_tup (pa_cons (pv 2) (pa_cons (pv 3) pa_nil))) pa_nil))))
      (pss_one (ps_set (i := 5) sc_items.nd rfl (Or.inl rfl) (pe_op op_cat (pv 5) (pe_lst (pa_cons (pv 7) (pa_cons (pe_call D_mutB.G hr7 rfl D_mutB.m D_mutB.kp D_mutB.b .nil pass0 (pa_cons (pv 0) (pa_cons (pv 7) pa_nil))) pa_nil))))))))
      (pss_one (ps_ret (pv 5)))))))))), ?_⟩
    refine sq_asg ⟨_, rfl, _, rfl, r, c, x, d, ts, rfl, hx, tne, t12, hpt, by omega, hR, fun p v u ms tm H1 c1 g1 hp hv hu htm m8 inM => ⟨p, _, rfl, hp, rfl, _, _, rfl, _, _, rfl, rfl, ?_⟩⟩
    refine sq_set ⟨_, rfl, x, ts, rfl, c1.s2 hx, t12, hpt, fun vf H2 e2 hf k8 => ?_⟩
    have g2 := g1.same e2
    have hx2 := (c1.s2 hx).same e2
    have hv2 := hv.same e2
    have hu2 := hu.same e2
    have pin : ∀ n, n ∈ ts.flatten → n ∈ pool := fun n hn => by
      obtain ⟨t, ht, hn⟩ := List.mem_flatten.mp hn
      exact (hpt t ht).2.2 n hn
    have nm : Nm (ms.map PyData.str) := nm_names fun n hn => pin n (inM n hn)
    have nt : Nm (tm.map PyData.str) := nm_names fun n hn => (hpt tm htm).2.2 n hn
    have nf : Nm ((folk ts).map PyData.str) := nm_names fun n hn => pin n (once_mem.mp hn)
    have lm : (ms.map PyData.str).length ≤ 8 := by rw [List.length_map]; exact m8
    have lt : (tm.map PyData.str).length ≤ 8 := by rw [List.length_map]; exact (hpt tm htm).2.1
    have lf : ((folk ts).map PyData.str).length ≤ 8 := by rw [List.length_map]; exact k8
    have kv : Dq K r H2 v (.tuple (ms.map PyData.str)) := dq_s1 g2 hv2
    have ku : Dq K r H2 u (.tuple (tm.map PyData.str)) := dq_s1 g2 hu2
    have kf : Dq K r H2 vf (.tuple ((folk ts).map PyData.str)) := dq_s1 g2 hf
    have okt : ∀ t ∈ ts, Okd 12 1 (sD t) := fun t ht => nm_tup (nm_names (hpt t ht).2.2) (by rw [List.length_map]; have := (hpt t ht).2.1; omega)
    have om := nm_tup nm (by omega)
    have ot := nm_tup nt (by omega)
    have of_ := nm_tup nf (by omega)
    have c2 : Cl r H H2 := c1.trans (Cl.of e2)
    -- the first six
    have E0 : EvL K r [some (.ref r), some x, some v, some u, some vf, none, none, none, none] H2 _ _ := ev_lst g2 (evs_cons (ev_tup g2 (evs_cons (ev_var 2 kv) (evs_cons (ev_var 3 ku) evs_nil))) (evs_cons (ev_ofL (ev_lst g2 (evs_cons (ev_var 2 kv) (evs_cons (ev_var 3 ku) evs_nil)))) (evs_cons (ev_tup g2 (evs_cons (ev_listOf g2 (ev_var 2 kv)) (evs_cons (ev_var 3 ku) evs_nil)))
      (evs_cons (ev_tup g2 (evs_cons (ev_var 2 kv) (evs_cons (ev_listOf g2 (ev_var 3 ku)) evs_nil))) (evs_cons (ev_tup g2 (evs_cons (ev_revT g2 (ev_var 2 kv)) (evs_cons (ev_var 3 ku) evs_nil))) (evs_cons (ev_tup g2 (evs_cons (ev_var 2 kv) (evs_cons (ev_revT g2 (ev_var 3 ku)) evs_nil))) evs_nil))))))
    refine sq_set (E0 H2 (Same.refl _) _ fun F0 xs0 H3 e3 n0 h0 p0 => ?_)
    have o0 : ∀ e ∈ [PyData.tuple [.tuple (ms.map PyData.str), .tuple (tm.map PyData.str)], .list [.tuple (ms.map PyData.str), .tuple (tm.map PyData.str)], .tuple [.list (ms.map PyData.str), .tuple (tm.map PyData.str)], .tuple [.tuple (ms.map PyData.str), .list (tm.map PyData.str)], .tuple [.tuple (ms.map PyData.str).reverse, .tuple (tm.map PyData.str)], .tuple [.tuple (ms.map PyData.str), .tuple (tm.map PyData.str).reverse]], Okv e := fun e he => by
      simp only [List.mem_cons, List.not_mem_nil, or_false] at he
      rcases he with rfl | rfl | rfl | rfl | rfl | rfl
      · exact okv2 om ot
      · refine .inr ⟨_, .inr rfl, (by show 2 ≤ 14; decide), fun e he => ?_⟩
        simp only [List.mem_cons, List.not_mem_nil, or_false] at he
        rcases he with rfl | rfl
        · exact om.mono (by decide) (by decide)
        · exact ot.mono (by decide) (by decide)
      · exact okv2 (nm_lst nm (by omega)) ot
      · exact okv2 om (nm_lst nt (by omega))
      · exact okv2 (nm_tup (nm_rev nm) (by rw [List.length_reverse]; omega)) ot
      · exact okv2 om (nm_tup (nm_rev nt) (by rw [List.length_reverse]; omega))
    have g3 := g2.same e3
    have kv3 := kv.same e3
    have ku3 := ku.same e3
    have kf3 := kf.same e3
    -- seven more
    have E1 : EvL K r [some (.ref r), some x, some v, some u, some vf, some (.ref F0), none, none, none] H3 _ _ := ev_catL g3 (ev_varL 5 h0 n0 p0) (ev_lst g3 (evs_cons (ev_tup g3 (evs_cons (ev_var 2 kv3) evs_nil)) (evs_cons (ev_tup g3 (evs_cons (ev_var 2 kv3) (evs_cons (ev_var 3 ku3) (evs_cons (ev_int 1) evs_nil)))) (evs_cons (ev_tup g3 (evs_cons (ev_cat g3 (ev_var 2 kv3) (ev_last g3 (ev_var 2 kv3)) (by have := cutP_len (ms.map PyData.str) (some (-1)) none; rw [sIx_m1, HT.sIx_none] at this; omega)) (evs_cons (ev_var 3 ku3) evs_nil)))
      (evs_cons (ev_tup g3 (evs_cons (ev_var 2 kv3) (evs_cons (ev_tup g3 evs_nil) evs_nil))) (evs_cons (ev_tup g3 (evs_cons (ev_tup g3 evs_nil) (evs_cons (ev_tup g3 evs_nil) evs_nil))) (evs_cons (ev_tup g3 (evs_cons (ev_tup g3 evs_nil) (evs_cons (ev_var 3 ku3) evs_nil))) (evs_cons (ev_tup g3 (evs_cons (ev_var 3 ku3) (evs_cons (ev_var 3 ku3) evs_nil))) evs_nil)))))))) (by simp)
    refine sq_set (E1 H3 (Same.refl _) _ fun F1 xs1 H4 e4 n1 h1 p1 => ?_)
    have lcm := cutP_len (ms.map PyData.str) (some (-1)) none
    rw [sIx_m1, HT.sIx_none] at lcm
    have o1 : ∀ e ∈ [PyData.tuple [.tuple (ms.map PyData.str)], .tuple [.tuple (ms.map PyData.str), .tuple (tm.map PyData.str), .int 1], .tuple [.tuple (ms.map PyData.str ++ cutP (ms.map PyData.str) (some (-1)) none), .tuple (tm.map PyData.str)], .tuple [.tuple (ms.map PyData.str), .tuple []], .tuple [.tuple [], .tuple []], .tuple [.tuple [], .tuple (tm.map PyData.str)], .tuple [.tuple (tm.map PyData.str), .tuple (tm.map PyData.str)]], Okv e := fun e he => by
      simp only [List.mem_cons, List.not_mem_nil, or_false] at he
      have o_ : Okd 12 1 (.tuple []) := nm_tup nm_nil (by decide)
      rcases he with rfl | rfl | rfl | rfl | rfl | rfl | rfl
      · exact .inr ⟨_, .inl rfl, (by show 1 ≤ 14; decide), fun e he => by rw [List.mem_singleton.mp he]; exact om.mono (by decide) (by decide)⟩
      · refine .inr ⟨_, .inl rfl, (by show 3 ≤ 14; decide), fun e he => ?_⟩
        simp only [List.mem_cons, List.not_mem_nil, or_false] at he
        rcases he with rfl | rfl | rfl
        · exact om.mono (by decide) (by decide)
        · exact ot.mono (by decide) (by decide)
        · exact Sc.okd (.inr (.inr (.inr (.inl rfl)))) _
      · exact okv2 (nm_tup (nm_app nm (nm_cut nm)) (by rw [List.length_append]; omega)) ot
      · exact okv2 om o_
      · exact okv2 o_ o_
      · exact okv2 o_ ot
      · exact okv2 ot ot
    have g4 := g3.same e4
    have kv4 := kv3.same e4
    have ku4 := ku3.same e4
    have kf4 := kf3.same e4
    have hf4 := (hf.same e3).same e4
    have hu4 := (hu2.same e3).same e4
    obtain ⟨ax, ys, rfl, hax, hys⟩ := (hx2.same e3).same e4
    obtain ⟨af, rfl, haf⟩ := id hf4
    obtain ⟨au, rfl, hau⟩ := id hu4
    -- with the crews
    have lcf := cutP_len ((folk ts).map PyData.str) none (some 1)
    have s1e : HT.sIx ((folk ts).map PyData.str).length ((folk ts).map PyData.str).length (some ((1 : Nat) : Int)) = min 1 ((folk ts).map PyData.str).length := HT.sIx_nat _ _ _
    have s1e : HT.sIx ((folk ts).map PyData.str).length ((folk ts).map PyData.str).length (some 1) = min 1 ((folk ts).map PyData.str).length := s1e
    rw [s1e, HT.sIx_none] at lcf
    have E2 : EvL K r [some (.ref r), some (.ref ax), some v, some (.ref au), some (.ref af), some (.ref F1), none, none, none] H4 _ _ := ev_catL g4 (ev_catL g4 (ev_catL g4 (ev_varL 5 h1 n1 p1)
      (ev_lc2 (tl := tVar 1) (te := tTup (tCons (tVar 4) (tCons (tVar 8) tNil))) (j := 8) (vs := [8]) g4 (fun t => (folk ts, t)) (fun H1 R hR => ⟨_, rfl, hR⟩) hax hys (by omega) (fun _ => rfl) (fun y t H1 e1 hy R hR => ⟨_, rfl, _, rfl, (by decide : 2 ≤ sizeLine), fun p np => hR p _ _ _ (same_upd np) (st_ upd_same) ((hf4.same e1).same (same_upd np)) (hy.same (same_upd np))⟩)) (by rw [List.length_map]; show 13 + ts.length ≤ 1000; omega))
      (ev_lc2 (tl := tVar 1) (te := tTup (tCons (tVar 8) (tCons (tVar 3) tNil))) (j := 8) (vs := [8]) g4 (fun t => (t, tm)) (fun H1 R hR => ⟨_, rfl, hR⟩) hax hys (by omega) (fun _ => rfl) (fun y t H1 e1 hy R hR => ⟨_, rfl, _, rfl, (by decide : 2 ≤ sizeLine), fun p np => hR p _ _ _ (same_upd np) (st_ upd_same) (hy.same (same_upd np)) ((hu4.same e1).same (same_upd np))⟩)) (by rw [List.length_append, List.length_map, List.length_map]; show 13 + ts.length + ts.length ≤ 1000; omega))
      (ev_lst g4 (evs_cons (ev_tup g4 (evs_cons (ev_var 4 kf4) (evs_cons (ev_var 4 kf4) evs_nil))) (evs_cons (ev_tup g4 (evs_cons (ev_var 4 kf4) (evs_cons (ev_first g4 (ev_var 4 kf4)) evs_nil))) evs_nil))) (by rw [List.length_append, List.length_append, List.length_map, List.length_map]; show 13 + ts.length + ts.length + 2 ≤ 1000; omega)
    refine sq_set (E2 H4 (Same.refl _) _ fun F2 xs2 H5 e5 n2 h2 p2 => ?_)
    have g5 := g4.same e5
    have kv5 := kv4.same e5
    have ku5 := ku4.same e5
    have kf5 := kf4.same e5
    have zz : okT 12 "zz" := ⟨by decide +kernel, by decide +kernel⟩
    have aa : okT 12 "aa" := ⟨by decide +kernel, by decide +kernel⟩
    have ann : okT 12 "ann" := ⟨by decide +kernel, by decide +kernel⟩
    -- the last eight
    have E3 : EvL K r [some (.ref r), some (.ref ax), some v, some (.ref au), some (.ref af), some (.ref F2), none, none, none] H5 _ _ := ev_catL g5 (ev_varL 5 h2 n2 p2) (ev_lst g5 (evs_cons (ev_tup g5 (evs_cons (ev_cat g5 (ev_var 4 kf5) (ev_tup g5 (evs_cons (ev_str "zz") evs_nil)) (by show ((folk ts).map PyData.str).length + 1 ≤ 100000; omega)) (evs_cons (ev_var 3 ku5) evs_nil)))
      (evs_cons (ev_tup g5 (evs_cons (ev_cat g5 (ev_tup g5 (evs_cons (ev_str "aa") evs_nil)) (ev_var 4 kf5) (by show 1 + ((folk ts).map PyData.str).length ≤ 100000; omega)) (evs_cons (ev_var 3 ku5) evs_nil))) (evs_cons (ev_tup g5 (evs_cons (ev_var 4 kf5) (evs_cons (ev_cat g5 (ev_var 3 ku5) (ev_tup g5 (evs_cons (ev_str "zz") evs_nil)) (by show (tm.map PyData.str).length + 1 ≤ 100000; omega)) evs_nil)))
      (evs_cons ev_non (evs_cons (ev_tup g5 evs_nil) (evs_cons (ev_bl true) (evs_cons (ev_str "ann") (evs_cons (ev_int 0) evs_nil))))))))) (by rw [List.length_append, List.length_append, List.length_append, List.length_map, List.length_map]; show 13 + ts.length + ts.length + 2 + 8 ≤ 1000; omega)
    refine sq_set (E3 H5 (Same.refl _) _ fun F3 xs3 H6 e6 n3 h3 p3 => ?_)
    have g6 := g5.same e6
    have s26 := ((e3.trans e4).trans e5).trans e6
    have kv6 := kv.same s26
    have ku6 := ku.same s26
    have o2 : ∀ e ∈ (ts.map fun t => PyData.tuple [sD (folk ts), sD t]), Okv e := fun e he => by
      obtain ⟨t, ht, rfl⟩ := List.mem_map.mp he
      exact okv2 of_ (okt t ht)
    have o2b : ∀ e ∈ (ts.map fun t => PyData.tuple [sD t, sD tm]), Okv e := fun e he => by
      obtain ⟨t, ht, rfl⟩ := List.mem_map.mp he
      exact okv2 (okt t ht) ot
    have o2c : ∀ e ∈ [PyData.tuple [.tuple ((folk ts).map PyData.str), .tuple ((folk ts).map PyData.str)], .tuple [.tuple ((folk ts).map PyData.str), .tuple (cutP ((folk ts).map PyData.str) none (some 1))]], Okv e := fun e he => by
      simp only [List.mem_cons, List.not_mem_nil, or_false] at he
      rcases he with rfl | rfl
      · exact okv2 of_ of_
      · exact okv2 of_ (nm_tup (nm_cut nf) (by omega))
    have o3 : ∀ e ∈ [PyData.tuple [.tuple ((folk ts).map PyData.str ++ [.str "zz"]), .tuple (tm.map PyData.str)], .tuple [.tuple ([.str "aa"] ++ (folk ts).map PyData.str), .tuple (tm.map PyData.str)], .tuple [.tuple ((folk ts).map PyData.str), .tuple (tm.map PyData.str ++ [.str "zz"])], .none, .tuple [], .bool true, .str "ann", .int 0], Okv e := fun e he => by
      simp only [List.mem_cons, List.not_mem_nil, or_false] at he
      rcases he with rfl | rfl | rfl | rfl | rfl | rfl | rfl | rfl
      · exact okv2 (nm_tup (nm_app nf (nm_one zz)) (by rw [List.length_append]; show _ + 1 ≤ 12; omega)) ot
      · exact okv2 (nm_tup (nm_app (nm_one aa) nf) (by rw [List.length_append]; show 1 + _ ≤ 12; omega)) ot
      · exact okv2 of_ (nm_tup (nm_app nt (nm_one zz)) (by rw [List.length_append]; show _ + 1 ≤ 12; omega))
      · exact Sc.okd (.inl rfl) _
      · exact (nm_tup nm_nil (by decide)).mono (by decide) (by decide)
      · exact Sc.okd (.inr (.inl ⟨true, rfl⟩)) _
      · exact Sc.okd ((sc_str ann).mono (by decide)) _
      · exact Sc.okd (.inr (.inr (.inl rfl))) _
    have lenD := prd_len p3
    have lenX : xs3.length ≤ 100 := by
      rw [lenD, List.length_append, List.length_append, List.length_append, List.length_append, List.length_append, List.length_map, List.length_map]
      show 6 + 7 + ts.length + ts.length + 2 + 8 ≤ 100
      omega
    have okAll : ∀ e ∈ _, Okv e := fun e (he : e ∈ ((((([PyData.tuple [.tuple (ms.map PyData.str), .tuple (tm.map PyData.str)], .list [.tuple (ms.map PyData.str), .tuple (tm.map PyData.str)], .tuple [.list (ms.map PyData.str), .tuple (tm.map PyData.str)], .tuple [.tuple (ms.map PyData.str), .list (tm.map PyData.str)], .tuple [.tuple (ms.map PyData.str).reverse, .tuple (tm.map PyData.str)], .tuple [.tuple (ms.map PyData.str), .tuple (tm.map PyData.str).reverse]] ++
      [PyData.tuple [.tuple (ms.map PyData.str)], .tuple [.tuple (ms.map PyData.str), .tuple (tm.map PyData.str), .int 1], .tuple [.tuple (ms.map PyData.str ++ cutP (ms.map PyData.str) (some (-1)) none), .tuple (tm.map PyData.str)], .tuple [.tuple (ms.map PyData.str), .tuple []], .tuple [.tuple [], .tuple []], .tuple [.tuple [], .tuple (tm.map PyData.str)], .tuple [.tuple (tm.map PyData.str), .tuple (tm.map PyData.str)]]) ++
      (ts.map fun t => PyData.tuple [sD (folk ts), sD t])) ++ (ts.map fun t => PyData.tuple [sD t, sD tm])) ++ [PyData.tuple [.tuple ((folk ts).map PyData.str), .tuple ((folk ts).map PyData.str)], .tuple [.tuple ((folk ts).map PyData.str), .tuple (cutP ((folk ts).map PyData.str) none (some 1))]]) ++
      [PyData.tuple [.tuple ((folk ts).map PyData.str ++ [.str "zz"]), .tuple (tm.map PyData.str)], .tuple [.tuple ([.str "aa"] ++ (folk ts).map PyData.str), .tuple (tm.map PyData.str)], .tuple [.tuple ((folk ts).map PyData.str), .tuple (tm.map PyData.str ++ [.str "zz"])], .none, .tuple [], .bool true, .str "ann", .int 0])) => by
      rcases List.mem_append.mp he with he | he
      · rcases List.mem_append.mp he with he | he
        · rcases List.mem_append.mp he with he | he
          · rcases List.mem_append.mp he with he | he
            · rcases List.mem_append.mp he with he | he
              · exact o0 e he
              · exact o1 e he
            · exact o2 e he
          · exact o2b e he
        · exact o2c e he
      · exact o3 e he
    -- changed ones
    refine sq_for' ?_
    refine ⟨6, rfl, by decide, by decide, ?_⟩
    refine for_range (lo := 0) (n := (6 : Int).toNat) (fun i σ' H' => ∃ (F' : Addr) (xs : List V) (ds : List PD) (v6 v7 : Option V), σ' = [some (.ref r), some (.ref ax), some v, some (.ref au), some (.ref af), some (.ref F'), v6, v7, none] ∧ Cl r H6 H' ∧ Fd H' r c (d + 20 + 40 * i) ∧ H' F' = some (.lst xs) ∧ F' ≠ r ∧ Paired (Dq K r H') xs ds ∧ xs.length ≤ 100 + 2 * i ∧ ∀ e ∈ ds, Okv e)
      ⟨F3, xs3, _, none, none, rfl, Cl.refl, g6.le (by omega), h3, n3, p3, by omega, okAll⟩ (fun i σ' H7 hi z => ?_) fun σ' H7 z => ?_
    · obtain ⟨F', xs, ds, v6, v7, rfl, c7, g7, hF, nF, hp7, l7, o7⟩ := z
      have hi6 : i < 6 := by omega
      refine sq_set ⟨_, rfl, _, rfl, _, rfl, (by decide : 2 ≤ sizeLine), fun p np => ⟨r, c, .ref p, .tuple [.tuple (ms.map PyData.str), .tuple (tm.map PyData.str)], d + 20 + 40 * i, rfl, dq_new g7 np (.cons (dq_cl c7 kv6) (.cons (dq_cl c7 ku6) .nil)), ok2 om ot, by decide, by decide, by decide, by omega, g7.same (same_upd np), fun v' d' H8 c8 g8 k8 o8 => ?_⟩⟩
      have c78 : Cl r H7 H8 := (Cl.of (same_upd np)).trans c8
      refine ⟨_, rfl, _, rfl, _, rfl, _, rfl, r, c, v', d', d + 20 + 40 * i + 12, rfl, k8, o8, by decide, by decide, by decide, by omega, g8.le (by omega), fun v2 d2 H9 c9 g9 k9 o9 => ⟨(by decide : 2 ≤ sizeLine), fun p2 np2 => ?_⟩⟩
      have c79 := c78.trans c9
      have e10 := same_upd (o := .lst [v', v2]) np2
      have hF9 := c79.lst nF hF
      refine ⟨F', p2, xs, [v', v2], rfl, rfl, e10 _ _ hF9, upd_same, Nat.le_of_lt (big (by show xs.length + 2 ≤ 100000; omega)), fun p3 np3 => ?_⟩
      have e11 := same_upd (o := .lst (xs ++ [v', v2])) np3
      have s := e10.trans e11
      have g10 := g9.same e10
      refine ⟨p3, xs ++ [v', v2], ds ++ [d', d2], _, _, rfl, (c7.trans c79).trans (Cl.of s), (g9.same s).le (by omega), upd_same, g10.ne np3, prd_app (prd_mono (fun _ _ z => Dq.same s (dq_cl c79 z)) hp7) (.cons ((dq_cl c9 k8).same s) (.cons (k9.same s) .nil)), by rw [List.length_append]; show xs.length + 2 ≤ _; omega, fun e he => ?_⟩
      rcases List.mem_append.mp he with he | he
      · exact o7 e he
      · simp only [List.mem_cons, List.not_mem_nil, or_false] at he
        rcases he with rfl | rfl
        · exact o8.mono (by decide) (by decide)
        · exact o9.mono (by decide) (by decide)
    · obtain ⟨F', xs, ds, v6, v7, rfl, c7, g7, hF, nF, hp7, l7, o7⟩ := z
      have l6 : xs.length ≤ 112 := l7
      have dl := prd_len hp7
      refine ⟨_, rfl, q F' xs ds H7 ((c2.trans (Cl.of s26)).trans c7) (g7.le (by show d + 20 + 40 * ((6 : Nat) : Int) ≤ d + 500; omega)) hF nF hp7 (by omega) o7⟩
end
end K17

namespace K17
open PySem PySem.Spec PyProof.Rows L2 PySem.W Cb
theorem sq_par {i j : Nat} {ta : TA} {rest : TS} {D : Ends} {σ : Stt} {H : Hp} (h : ta σ H fun vs H1 => ∃ v w, vs = [v, w] ∧ rest D ((σ.set i (some v)).set j (some w)) H1) : tSeq (tPar i j ta) rest D σ H := h
theorem nx_for {wi : TI} {g : TG} {tb u : TS} {D : Ends} {rt : VK} {bk ct : Stt → Hp → Prop} {σ : Stt} {H : Hp} (h : tFor wi g tb { D with nx := u D } σ H) : (Ends.mk (tSeq (tFor wi g tb) u D) rt bk ct).nx σ H := h
theorem pool_name {n : Str} (h : n ∈ pool) : nameS n = true := by
  have e : (pool.all nameS) = true := by decide +kernel
  exact List.all_eq_true.mp e n h
theorem nice_bb (a b : Bool) : Nice 1 100 (.list [.bool a, .bool b]) := (nice_lst (m := 0) (L := 20) fun d hd => by
  simp only [List.mem_cons, List.not_mem_nil, or_false] at hd
  rcases hd with rfl | rfl
  · exact nice_bool a
  · exact nice_bool b).mono (Nat.le_refl _) (by show 2 * 22 + 2 ≤ 100; decide)
theorem nice_tt {ts : List (List Str)} (g : Gt ts) : Nice 3 70000 (.list [tD ts, tD ts]) := (nice_lst (m := 2) (L := 20000) fun d hd => by
  simp only [List.mem_cons, List.not_mem_nil, or_false] at hd
  rcases hd with rfl | rfl
  · exact nice_tD (fun t ht => (g.each t ht).2) g.many
  · exact nice_tD (fun t ht => (g.each t ht).2) g.many).mono (Nat.le_refl _) (by show 2 * 20002 + 2 ≤ 70000; decide)
theorem nice_ss {ns : List Str} (h : ∀ n ∈ ns, okS n) (l : ns.length ≤ 8) : Nice 2 500 (.list [sD ns, sD ns]) := (nice_lst (m := 1) (L := 200) fun d hd => by
  simp only [List.mem_cons, List.not_mem_nil, or_false] at hd
  rcases hd with rfl | rfl
  · exact nice_sD8 h l
  · exact nice_sD8 h l).mono (Nat.le_refl _) (by show 2 * 202 + 2 ≤ 500; decide)
theorem Gt.sub {ts : List (List Str)} (g : Gt ts) (p : List Str → Bool) : Gt (ts.filter p) := ⟨Nat.le_trans (List.length_filter_le _ _) g.many, fun t h => g.each t (List.mem_filter.mp h).1⟩
structure OwnG (P : Program) (w : World) (K : Frag) (mg : Str → Option Value) (base : Heap) (k : Nat) (x : Str) (ps : List Str) (sp : Sp) where
  f : Addr
  fd : FuncData
  G : FnG P w K mg base k f fd ps sp
  m : mg x = some (.ref f)
  kp : keepIn K (.ref f) = true
  b : Binds K fd ps []
section
variable {P : Program} {w : World} {K : Frag} {mg : Str → Option Value} {base : Heap}
/-! ### the law -/
abbrev s_law : Stmt := top 39
abbrev N_law : List Str := ["_law_script", "_law_feed_here", "_law_attempt", "_law_teams_here", "_law_before", "_law_item", "_law_own", "_law_expected_here", "_law_found", "_law_here", "_law_names", "_law_one", "_law_two", "_law_name"]
theorem sc_law : FnScope N_law ["_law_script"] (defScope s_law) := ⟨rfl, rfl, rfl, by decide +kernel, rfl, by decide +kernel, by decide +kernel⟩
def sp_law (K : Frag) : Sp := fun vs H Q _ => ∃ (a : Addr) (ns : List Int), vs = [.ref a] ∧ SqL K H a (ns.map V.int) ∧ ∀ H', Q (.bl true) H'
theorem ok_law {f : Addr} {fd : FuncData} (F : Fun K "law" "law" s_law f fd) (B : Blt mg) (br : mg "repr" = none) (D_feed : Own P w K mg base 1 "_law_feed" ["_law_script"] (sp_feed K)) (D_teams : Own P w K mg base 3 "_law_teams" ["_law_feed_here", "_law_most"] (sp_teams K)) (D_folk : Own P w K mg base 1 "_law_folk" ["_law_teams_here"] (sp_folk K))
    (D_scene : Own P w K mg base 3 "_law_scene" ["_law_feed_here", "_law_teams_here"] (sp_scene K)) (D_subset : Own P w K mg base 2 "_law_subset" ["_law_feed_here", "_law_some"] (sp_subset K)) (D_left : Own P w K mg base 2 "_law_left" ["_law_teams_here", "_law_here"] (sp_left K)) (D_items : Own P w K mg base 8 "_law_items" ["_law_feed_here", "_law_teams_here"] (sp_items K))
    (D_exp : Own P w K mg base 4 "_law_expected" ["_law_teams_here", "_law_item"] (sp_lexp K)) (D_sit : Own P w K mg base 4 "is_situation" ["crews", "thing"] (sp_sit K)) (ks : FnKW P w K mg base CX0 4 D_sit.f ["thing", "crews"] (revSp2 (sp_sit K))) (D_cleft : Own P w K mg base 3 "crews_left" ["crews", "present"] (sp_cleft K)) (kc : FnKW P w K mg base CX0 3 D_cleft.f ["present", "crews"] (revSp2 (sp_cleft K)))
    (D_new : Own P w K mg base 1 "newcomers" ["crew", "other"] (sp_newcomers K)) (kn : FnKW P w K mg base CX0 1 D_new.f ["other", "crew"] (revSp2 (sp_newcomers K))) : FnG P w K mg base 9 f fd ["_law_script"] (sp_law K) := by
  refine fnG_mk F sc_law (fun vs H Q E h => ?_) (fun cdv A outer s H vs Q E g hr h => ?_)
  · obtain ⟨_, _, rfl, _⟩ := h
    rfl
  · obtain ⟨a, zs, rfl, ha, q⟩ := h
    have hr1 : Room 1 _ := hr.mono (by omega)
    have hr2 : Room 2 _ := hr.mono (by omega)
    have hr3 : Room 3 _ := hr.mono (by omega)
    have hr4 : Room 4 _ := hr.mono (by omega)
    have g2 : Gu (A.deeper (envOfC "law" (defScope s_law) s.heap.objs.size f cdv)) := g
    refine ⟨_, (pss_cons (ps_set (i := 1) sc_law.nd rfl (Or.inl rfl) (pe_call D_feed.G hr1 rfl D_feed.m D_feed.kp D_feed.b .nil pass0 (pa_cons (pv 0) pa_nil)))
      (pss_cons (ps_for PassesOwn.never rfl (pi_range1 rfl B.range (pa_cons pe_int pa_nil)) (pg_name (i := 2) sc_law.nd rfl (Or.inl rfl))
      (pss_cons (ps_set (i := 3) sc_law.nd rfl (Or.inl rfl) (pe_call D_teams.G hr3 rfl D_teams.m D_teams.kp D_teams.b .nil pass0 (pa_cons (pv 1) (pa_cons pe_int pa_nil))))
      (pss_cons (ps_set (i := 4) sc_law.nd rfl (Or.inl rfl) (pe_callB (c_reprD (K := K) hr.units g2) (by rfl) br (by decide +kernel) (pa_cons (pv 3) pa_nil)))
      (pss_cons (ps_for PassesOwn.never rfl (p_list K (pe_call D_items.G hr rfl D_items.m D_items.kp D_items.b .nil pass0 (pa_cons (pv 1) (pa_cons (pv 3) pa_nil)))) (pg_name (i := 5) sc_law.nd rfl (Or.inl rfl))
      (pss_cons (ps_par (by rfl) sc_law.nd (i := 6) (j := 7) rfl rfl (by decide) rfl rfl (pa_cons (pe_callB (c_reprD (K := K) hr.units g2) (by rfl) br (by decide +kernel) (pa_cons (pv 5) pa_nil)) (pa_cons (pe_call D_exp.G hr4 rfl D_exp.m D_exp.kp D_exp.b .nil pass0 (pa_cons (pv 3) (pa_cons (pv 5) pa_nil))) pa_nil)) (by rfl))
      (pss_cons (ps_set (i := 8) sc_law.nd rfl (Or.inl rfl) (pe_lst (pa_cons (pe_call D_sit.G hr4 rfl D_sit.m D_sit.kp D_sit.b .nil pass0 (pa_cons (pv 3) (pa_cons (pv 5) pa_nil))) (pa_cons (pe_callKW ks hr4 rfl D_sit.m D_sit.kp pass0 (pk_cons (pv 5) (pk_cons (pv 3) pk_nil))) pa_nil))))
      (pss_one (ps_if (PW.pt (pw_or (pt_cmpR op_ne (pe_callB (c_reprD (K := K) hr.units g2) (by rfl) br (by decide +kernel) (pa_cons (pv 8) pa_nil)) (pe_callB (c_reprD (K := K) hr.units g2) (by rfl) br (by decide +kernel) (pa_cons (pe_lst (pa_cons (pv 7) (pa_cons (pv 7) pa_nil))) pa_nil)) (nomark _)) (pw_or1 (pt_cmpR op_ne (pe_callB (c_reprD (K := K) hr.units g2) (by rfl) br (by decide +kernel) (pa_cons (pv 5) pa_nil)) (pv 6) (nomark _))))) (pss_one (ps_ret pe_bl)) pss_nil)))))
      (pss_cons (ps_for PassesOwn.never rfl (p_tup K (pe_tup (pa_cons (pe_call D_folk.G hr1 rfl D_folk.m D_folk.kp D_folk.b .nil pass0 (pa_cons (pv 3) pa_nil)) (pa_cons (pe_tup pa_nil) (pa_cons (pe_ix (i_tup K) (pe_call D_scene.G hr3 rfl D_scene.m D_scene.kp D_scene.b .nil pass0 (pa_cons (pv 1) (pa_cons (pv 3) pa_nil))) pe_int (fun _ _ => rfl)) (pa_cons (pe_call D_subset.G hr2 rfl D_subset.m D_subset.kp D_subset.b .nil pass0 (pa_cons (pv 1) (pa_cons (pe_call D_folk.G hr1 rfl D_folk.m D_folk.kp D_folk.b .nil pass0 (pa_cons (pv 3) pa_nil)) pa_nil))) pa_nil)))))) (pg_name (i := 9) sc_law.nd rfl (Or.inl rfl))
      (pss_cons (ps_set (i := 7) sc_law.nd rfl (Or.inl rfl) (pe_call D_left.G hr2 rfl D_left.m D_left.kp D_left.b .nil pass0 (pa_cons (pv 3) (pa_cons (pv 9) pa_nil))))
      (pss_one (ps_if (pt_cmpR op_ne (pe_callB (c_reprD (K := K) hr.units g2) (by rfl) br (by decide +kernel) (pa_cons (pe_lst (pa_cons (pe_call D_cleft.G hr3 rfl D_cleft.m D_cleft.kp D_cleft.b .nil pass0 (pa_cons (pv 3) (pa_cons (pv 9) pa_nil))) (pa_cons (pe_callKW kc hr3 rfl D_cleft.m D_cleft.kp pass0 (pk_cons (pv 9) (pk_cons (pv 3) pk_nil))) pa_nil))) pa_nil)) (pe_callB (c_reprD (K := K) hr.units g2) (by rfl) br (by decide +kernel) (pa_cons (pe_lst (pa_cons (pv 7) (pa_cons (pv 7) pa_nil))) pa_nil)) (nomark _)) (pss_one (ps_ret pe_bl)) pss_nil))))
      (pss_cons (ps_set (i := 10) sc_law.nd rfl (Or.inl rfl) (pe_tup (pa_cons pe_str (pa_cons pe_str (pa_cons pe_str (pa_cons pe_str (pa_cons pe_str (pa_cons pe_str (pa_cons pe_str (pa_cons pe_str pa_nil))))))))))
      (pss_cons (ps_asg (pe_tup (pa_cons (pe_call D_subset.G hr2 rfl D_subset.m D_subset.kp D_subset.b .nil pass0 (pa_cons (pv 1) (pa_cons (pv 10) pa_nil))) (pa_cons (pe_call D_subset.G hr2 rfl D_subset.m D_subset.kp D_subset.b .nil pass0 (pa_cons (pv 1) (pa_cons (pv 10) pa_nil))) pa_nil))) (show PG _ _ (gTup K 2 _) from pg_tup rfl (pgs_cons (pg_name (i := 11) sc_law.nd rfl (Or.inr rfl)) (pgs_cons (pg_name (i := 12) sc_law.nd rfl (Or.inl rfl)) pgs_nil))))
      (pss_cons (ps_set (i := 7) sc_law.nd rfl (Or.inl rfl) (pe_callTy (c_tuple K) (by rfl) B.tuple (by decide +kernel) (pa_cons (pe_lc (own := [("_law_name", 13)]) (g := gName 13) rfl sc_law.nd (p_tup K (pv 12)) (blkOk_by (own := [("_law_name", 13)]) (N := N_law) (sc := defScope s_law) (by decide +kernel)) (fun _ _ _ _ _ => (pg_name (i := 13) sc_law.nd rfl (Or.inl rfl))) (fun _ _ _ _ _ => (pts_one (pt_cmpR (o_nin K) (pv 13) (pv 11) rfl))) (fun _ _ _ _ _ => (pv 13))) pa_nil)))
      (pss_cons (ps_if (pt_cmpR op_ne (pe_callB (c_reprD (K := K) hr.units g2) (by rfl) br (by decide +kernel) (pa_cons (pe_lst (pa_cons (pe_call D_new.G hr1 rfl D_new.m D_new.kp D_new.b .nil pass0 (pa_cons (pv 11) (pa_cons (pv 12) pa_nil))) (pa_cons (pe_callKW kn hr1 rfl D_new.m D_new.kp pass0 (pk_cons (pv 12) (pk_cons (pv 11) pk_nil))) pa_nil))) pa_nil)) (pe_callB (c_reprD (K := K) hr.units g2) (by rfl) br (by decide +kernel) (pa_cons (pe_lst (pa_cons (pv 7) (pa_cons (pv 7) pa_nil))) pa_nil)) (nomark _)) (pss_one (ps_ret pe_bl)) pss_nil)
      (pss_one (ps_if (pt_cmpR op_ne (pe_callB (c_reprD (K := K) hr.units g2) (by rfl) br (by decide +kernel) (pa_cons (pv 3) pa_nil)) (pv 4) (nomark _)) (pss_one (ps_ret pe_bl)) pss_nil)))))))))))
      (pss_one (ps_ret pe_bl)))), ?_⟩
    refine sq_set ⟨_, rfl, a, zs, rfl, ha, fun r c H1 s1 nr hR => ?_⟩
    refine sq_for ?_
    refine ⟨5, rfl, by decide, by decide, ?_⟩
    refine for_range (lo := 0) (n := (5 : Int).toNat) (fun i σ' H' => ∃ (v2 v3 v4 v5 v6 v7 v8 v9 v10 v11 v12 v13 : Option V), σ' = [some (.ref a), some (.ref r), v2, v3, v4, v5, v6, v7, v8, v9, v10, v11, v12, v13] ∧ Fd H' r c (1000 * i)) ⟨none, none, none, none, none, none, none, none, none, none, none, none, rfl, hR.le (by omega)⟩ (fun i σ' H2 hi z => ?_) fun σ' H2 z => ?_
    · obtain ⟨v2, v3, v4, v5, v6, v7, v8, v9, v10, v11, v12, v13, rfl, gA⟩ := z
      have hi5 : i < 5 := by omega
      refine sq_set ⟨_, rfl, r, c, 1000 * i, rfl, by omega, gA, fun x ts H3 c3 g3 hx tne t12 hpt => ?_⟩
      have gt := Gt.ofPt t12 hpt
      have pin : ∀ n, n ∈ ts.flatten → n ∈ pool := fun n hn => by
        obtain ⟨t, ht, hn⟩ := List.mem_flatten.mp hn
        exact (hpt t ht).2.2 n hn
      have ntD : Nice 2 20000 (tD ts) := nice_tD (fun t ht => (gt.each t ht).2) gt.many
      unfold tCB tCons tNil
      -- before
      refine sq_set ⟨_, rfl, ?_⟩
      show rReprD K [x] _ _
      refine repr_niceD ntD hx.dp ?_
      -- the items
      refine sq_for ?_
      refine ⟨_, rfl, _, rfl, r, c, x, ts, 1000 * i + 200, rfl, hx, tne, t12, hpt, by omega, g3, fun Fa xs ds H4 c4 g4 hF nF hp dl okd => ?_⟩
      have hx4 := c4.s2 hx
      have xl := prd_len hp
      refine ⟨Fa, rfl, ⟨xs, sl_ hF⟩, for_list (xs := xs) (fun j σ' H' => ∃ (v5 v6 v7 v8 : Option V), σ' = [some (.ref a), some (.ref r), some (.int (0 + i)), some x, some (.str (tD ts).shown), v5, v6, v7, v8, v9, v10, v11, v12, v13] ∧ Same H4 H') ⟨_, _, _, _, rfl, Same.refl _⟩ (fun j σ' H' _ z => ?_) (fun j y σ' H' hj z => ?_) fun σ' H' z => ?_⟩
      · obtain ⟨_, _, _, _, _, e⟩ := z
        exact sl_ (e _ _ hF)
      · obtain ⟨v5, v6, v7, v8, rfl, eA⟩ := z
        obtain ⟨d, hd, hq⟩ := prd_getL hp hj
        have od := okd d (List.mem_of_getElem? hd)
        have hdp : Dp K H' y d := dpSame eA _ _ hq.dp
        have hx5 := hx4.same eA
        have ew : isSit ts d = expd ts d := same_words (fun t ht n hn => pool_name ((hpt t ht).2.2 n hn)) d
        refine sq_par ⟨_, rfl, ?_⟩
        show rReprD K [y] _ _
        refine repr_okd od hdp ?_
        refine ⟨_, rfl, _, rfl, x, y, ts, d, rfl, hx5, t12, hpt, hdp, od, fun H5 e5 => ⟨_, _, rfl, ?_⟩⟩
        refine sq_set ⟨_, rfl, _, rfl, x, y, ts, d, rfl, hx5.same e5, gt, dpSame e5 _ _ hdp, od, fun H6 e6 => ⟨_, rfl, _, rfl, x, y, rfl, x, y, ts, d, rfl, (hx5.same e5).same e6, gt, dpSame e6 _ _ (dpSame e5 _ _ hdp), od, fun H7 e7 => ⟨(by decide : 2 ≤ sizeLine), fun p np => ?_⟩⟩⟩
        rw [ew]
        have e8 := same_upd (o := .lst [V.bl (expd ts d), .bl (expd ts d)]) np
        refine ⟨_, rfl, ?_⟩
        show rReprD K [.ref p] _ _
        refine repr_niceD (nice_bb (expd ts d) (expd ts d)) (.lst (sl_ upd_same) (.cons (.bl _) (.cons (.bl _) .nil))) ?_
        refine ⟨_, rfl, _, rfl, (by decide : 2 ≤ sizeLine), fun l nl => ?_⟩
        show rReprD K [.ref l] _ _
        refine repr_niceD (nice_bb (expd ts d) (expd ts d)) (.lst (sl_ upd_same) (.cons (.bl _) (.cons (.bl _) .nil))) ?_
        refine ⟨rfl, _, rfl, ite2 (fun h => absurd h (by simp)) fun _ => ?_⟩
        have sZ := (((e5.trans e6).trans e7).trans e8).trans (same_upd (o := .lst [V.bl (expd ts d), .bl (expd ts d)]) nl)
        refine ⟨_, rfl, ?_⟩
        show rReprD K [y] _ _
        refine repr_okd od (dpSame sZ _ _ hdp) ?_
        exact ⟨_, rfl, rfl, _, rfl, ite2 (fun h => absurd h (by simp)) fun _ => ⟨_, _, _, _, rfl, eA.trans sZ⟩⟩
      · obtain ⟨v5, v6, v7, v8, rfl, eA⟩ := z
        have hx5 := hx4.same eA
        have g5 := g4.same eA
        -- the four
        refine nx_for ?_
        refine ⟨_, rfl, x, ts, rfl, hx5, t12, hpt, fun vf H5 e5 hf k8 => ⟨Nat.zero_le _, fun p5 np5 => ?_⟩⟩
        have s6 := e5.trans (same_upd (o := .tup []) np5)
        have hE : S1 K (upd H5 p5 (.tup [])) (.ref p5) [] := ⟨p5, rfl, st_ upd_same⟩
        have hf6 := hf.same (same_upd (o := .tup []) np5)
        have g6 := g5.same s6
        have hx6 := hx5.same s6
        generalize upd H5 p5 (.tup []) = H6 at s6 hE hf6 g6 hx6
        refine ⟨_, rfl, _, rfl, r, c, x, 1000 * i + 700, ts, rfl, hx6, tne, t12, hpt, by omega, g6.le (by omega), fun p7 v7a u7 ms7 tm7 H7 c7 g7 h7 hv7 hu7 htm7 m7 in7 => ⟨p7, _, 0, v7a, rfl, rfl, h7, atI_nat (j := 0) rfl, ?_⟩⟩
        refine ⟨_, rfl, _, rfl, x, ts, rfl, c7.s2 hx6, t12, hpt, fun vf8 H8 e8 hf8 k88 => ⟨r, c, vf8, 1000 * i + 720, folk ts, rfl, hf8, k88, by omega, (g7.same e8).le (by omega), fun v9a ms9 H9 c9 g9 hv9 m9 in9 => ⟨(by decide : 4 ≤ sizeLine), fun pT npT => ?_⟩⟩⟩
        have c69 : Cl r H6 H9 := (c7.trans (Cl.of e8)).trans c9
        have sT := same_upd (o := .tup [vf, .ref p5, v7a, v9a]) npT
        have hT : SqT K (upd H9 pT (.tup [vf, .ref p5, v7a, v9a])) pT [vf, .ref p5, v7a, v9a] := st_ upd_same
        have it : Paired (S1 K (upd H9 pT (.tup [vf, .ref p5, v7a, v9a]))) [vf, .ref p5, v7a, v9a] [folk ts, [], ms7, ms9] := .cons ((c69.s1 hf6).same sT) (.cons ((c69.s1 hE).same sT) (.cons ((((c9.s1 (hv7.same e8)))).same sT) (.cons (hv9.same sT) .nil)))
        have facts : ∀ l ∈ [folk ts, [], ms7, ms9], l.length ≤ 8 ∧ ∀ n ∈ l, n ∈ ts.flatten := fun l hl => by
          simp only [List.mem_cons, List.not_mem_nil, or_false] at hl
          rcases hl with rfl | rfl | rfl | rfl
          · exact ⟨k8, fun n hn => once_mem.mp hn⟩
          · exact ⟨by decide, fun n hn => absurd hn (by simp)⟩
          · exact ⟨m7, in7⟩
          · exact ⟨m9, fun n hn => once_mem.mp (in9 n hn)⟩
        have gT := g9.same sT
        have hxT := (c69.s2 hx6).same sT
        generalize upd H9 pT (.tup [vf, .ref p5, v7a, v9a]) = HT at hT it gT hxT
        refine ⟨pT, rfl, ⟨_, hT⟩, for_tup (xs := [vf, .ref p5, v7a, v9a]) (fun j σ' H' => ∃ (v5 v6 v7 v8 v9 : Option V), σ' = [some (.ref a), some (.ref r), some (.int (0 + i)), some x, some (.str (tD ts).shown), v5, v6, v7, v8, v9, v10, v11, v12, v13] ∧ Same HT H') ⟨_, _, _, _, _, rfl, Same.refl _⟩ (fun j σ' H' _ z => ?_) (fun j y σ' H' hj z => ?_) fun σ' H' z => ?_⟩
        · obtain ⟨_, _, _, _, _, _, e⟩ := z
          exact sameT e hT
        · obtain ⟨v5, v6, v7, v8, v9, rfl, eB⟩ := z
          obtain ⟨l, hl, hy⟩ := prd_getL it hj
          obtain ⟨l8, inL⟩ := facts l (List.mem_of_getElem? hl)
          have hxB := hxT.same eB
          have hyB := hy.same eB
          have ntt : Nice 3 70000 (.list [tD (left ts l), tD (left ts l)]) := nice_tt (gt.sub _)
          refine sq_set ⟨_, rfl, _, rfl, x, y, ts, l, rfl, hxB, hyB, gt, fun vL H10 e10 hL => ?_⟩
          refine ⟨_, rfl, _, rfl, x, y, ts, l, rfl, hxB.same e10, gt, hyB.same e10, inL, fun vA H11 e11 hA => ⟨_, rfl, _, rfl, x, y, rfl, x, y, ts, l, rfl, (hxB.same e10).same e11, gt, (hyB.same e10).same e11, inL, fun vB H12 e12 hB => ⟨(by decide : 2 ≤ sizeLine), fun p13 n13 => ?_⟩⟩⟩
          have e13 := same_upd (o := .lst [vA, vB]) n13
          show rReprD K [.ref p13] _ _
          refine repr_niceD ntt (.lst (sl_ upd_same) (.cons ((hA.same e12).same e13).dp (.cons (hB.same e13).dp .nil))) ?_
          have hL13 := ((hL.same e11).same e12).same e13
          refine ⟨_, rfl, _, rfl, (by decide : 2 ≤ sizeLine), fun p14 n14 => ?_⟩
          have e14 := same_upd (o := .lst [vL, vL]) n14
          show rReprD K [.ref p14] _ _
          refine repr_niceD ntt (.lst (sl_ upd_same) (.cons (hL13.same e14).dp (.cons (hL13.same e14).dp .nil))) ?_
          exact ⟨rfl, _, rfl, ite2 (fun h => absurd h (by simp)) fun _ => ⟨_, _, _, _, _, rfl, eB.trans ((((e10.trans e11).trans e12).trans e13).trans e14)⟩⟩
        · obtain ⟨v5, v6, v7, v8, v9, rfl, eB⟩ := z
          have gU := gT.same eB
          have hxU := hxT.same eB
          -- the names
          refine nx_set ⟨(by decide : 8 ≤ sizeLine), fun pN nN => ?_⟩
          have sN := same_upd (o := .tup (pool.map V.str)) nN
          have hN : S1 K (upd H' pN (.tup (pool.map V.str))) (.ref pN) pool := ⟨pN, rfl, st_ upd_same⟩
          have gN := gU.same sN
          have hxN := hxU.same sN
          change (fun HN => _) (upd H' pN (.tup (pool.map V.str)))
          generalize upd H' pN (.tup (pool.map V.str)) = HN at hN gN hxN
          refine sq_asg ⟨_, rfl, _, rfl, r, c, .ref pN, 1000 * i + 800, pool, rfl, hN, by decide, by omega, gN.le (by omega), fun o1 ms1 HA cA gA1 ho1 m1 in1 => ⟨_, rfl, _, rfl, r, c, .ref pN, 1000 * i + 808, pool, rfl, cA.s1 hN, by decide, by omega, gA1.le (by omega), fun o2 ms2 HB cB gB ho2 m2 in2 => ⟨(by decide : 2 ≤ sizeLine), fun pP nP => ⟨pP, _, rfl, st_ upd_same, rfl, _, _, rfl, _, _, rfl, rfl, ?_⟩⟩⟩⟩
          have sP := same_upd (o := .tup [o1, o2]) nP
          have ho1P := (cB.s1 ho1).same sP
          have ho2P := ho2.same sP
          have gP := gB.same sP
          have hxP := (cB.s2 (cA.s2 hxN)).same sP
          generalize upd HB pP (.tup [o1, o2]) = HP at ho1P ho2P gP hxP
          obtain ⟨a1, rfl, h1T⟩ := ho1P
          obtain ⟨a2, rfl, h2T⟩ := ho2P
          -- what is expected
          refine sq_set ?_
          refine lcT_filter (K := K) (tl := tVar 12) (j := 13) (vs := [13]) (xs := ms2.map V.str) (fun v => match v with | .str p => !isIn p ms1 | _ => false) id (fun R hR => ⟨_, rfl, hR a2 HP (Same.refl HP) h2T⟩) (by rw [List.length_map]; omega) (fun _ => rfl) (fun v hv H3 e3 R hR => ?_) (fun v hv _ H3 e3 R hR => ⟨v, rfl, hR H3 (Same.refl H3)⟩) fun D HC hD eC hH => ?_
          · obtain ⟨p, _, rfl⟩ := List.mem_map.mp hv
            exact ⟨_, rfl, _, rfl, a1, _, rfl, .inr (sameT e3 h1T), rfl, flat_strs ms1, _, rfl, by rw [inV_strs]; exact hR⟩
          · have ef : ((ms2.map V.str).filter (fun v => match v with | .str p => !isIn p ms1 | _ => false)).map id = (nc ms1 ms2).map V.str := by
              rw [List.map_id, List.filter_map]
              rfl
            rw [ef] at hH
            refine ⟨D, _, rfl, .inl ⟨sl_ hH, fun t nt => ?_⟩⟩
            have sQ := eC.trans (same_upd (o := .tup ((nc ms1 ms2).map V.str)) nt)
            have hX : S1 K (upd HC t (.tup ((nc ms1 ms2).map V.str))) (.ref t) (nc ms1 ms2) := ⟨t, rfl, st_ upd_same⟩
            have h1Q : S1 K (upd HC t (.tup ((nc ms1 ms2).map V.str))) (.ref a1) ms1 := ⟨a1, rfl, sameT sQ h1T⟩
            have h2Q : S1 K (upd HC t (.tup ((nc ms1 ms2).map V.str))) (.ref a2) ms2 := ⟨a2, rfl, sameT sQ h2T⟩
            have gQ := gP.same sQ
            have hxQ := hxP.same sQ
            generalize upd HC t (.tup ((nc ms1 ms2).map V.str)) = HQ at hX h1Q h2Q gQ hxQ
            have ncl : (nc ms1 ms2).length ≤ 8 := Nat.le_trans (List.length_filter_le _ _) m2
            have nss : Nice 2 500 (.list [sD (nc ms1 ms2), sD (nc ms1 ms2)]) := nice_ss (ok_nc fun n hn => pool_ok n (in2 n hn)) ncl
            refine ⟨_, rfl, _, rfl, .ref a1, .ref a2, ms1, ms2, rfl, h1Q, h2Q, by omega, fun w1 HR eR hw1 => ⟨_, rfl, _, rfl, .ref a1, .ref a2, rfl, .ref a1, .ref a2, ms1, ms2, rfl, h1Q.same eR, h2Q.same eR, by omega, fun w2 HS eS hw2 => ⟨(by decide : 2 ≤ sizeLine), fun p15 n15 => ?_⟩⟩⟩
            have e15 := same_upd (o := .lst [w1, w2]) n15
            show rReprD K [.ref p15] _ _
            refine repr_niceD nss (.lst (sl_ upd_same) (.cons ((hw1.same eS).same e15).dp (.cons (hw2.same e15).dp .nil))) ?_
            have hX15 := ((hX.same eR).same eS).same e15
            refine ⟨_, rfl, _, rfl, (by decide : 2 ≤ sizeLine), fun p16 n16 => ?_⟩
            have e16 := same_upd (o := .lst [V.ref t, .ref t]) n16
            show rReprD K [.ref p16] _ _
            refine repr_niceD nss (.lst (sl_ upd_same) (.cons (hX15.same e16).dp (.cons (hX15.same e16).dp .nil))) ?_
            refine ⟨rfl, _, rfl, ite2 (fun h => absurd h (by simp)) fun _ => ?_⟩
            have sR := ((eR.trans eS).trans e15).trans e16
            refine ⟨_, rfl, ?_⟩
            show rReprD K [x] _ _
            refine repr_niceD ntD (hxQ.same sR).dp ?_
            exact ⟨_, rfl, rfl, _, rfl, ite2 (fun h => absurd h (by simp)) fun _ => ⟨_, _, _, _, _, _, _, _, _, _, _, _, rfl, (gQ.same sR).le (by show 1000 * (i : Int) + 808 + 8 ≤ 1000 * ((i + 1 : Nat) : Int); omega)⟩⟩
    · obtain ⟨v2, v3, v4, v5, v6, v7, v8, v9, v10, v11, v12, v13, rfl, gA⟩ := z
      exact q _
end
end K17

namespace K17
open PySem PySem.Spec PyProof.Rows L2 PySem.W Cb Evl
theorem all_mk {P : Program} {w : World} {K : Frag} {h : Heap} {mg : Str → Option Value} {fa : Addr} (X : K.In h) (G : h.Ns mainGlobals mg) (hfa : mg "law" = some (.ref fa))
    {od0 an0 : Option Addr} {sl0 : Array (Option Value)} {oc0 kV0 dc0 pm0 cd0 ct0 : Value} {f0 : Addr}
    (a0 : nsIn K mainGlobals "is_ascending" = some (some (.ref f0))) (l0 : K.lookup f0 = some ⟨oc0, od0, .func (fnOf "is_ascending" "is_ascending" (defArgs s_asc) (defBody s_asc) (defScope s_asc) .none kV0 dc0 pm0 an0 cd0 ct0), sl0⟩) (c0 : codeIn K cd0 "is_ascending" = true) (k0 : keepIn K (.ref f0) = true)
    {od1 an1 : Option Addr} {sl1 : Array (Option Value)} {oc1 kV1 dc1 pm1 cd1 ct1 : Value} {f1 : Addr}
    (a1 : nsIn K mainGlobals "contains" = some (some (.ref f1))) (l1 : K.lookup f1 = some ⟨oc1, od1, .func (fnOf "contains" "contains" (defArgs s_contains) (defBody s_contains) (defScope s_contains) .none kV1 dc1 pm1 an1 cd1 ct1), sl1⟩) (c1 : codeIn K cd1 "contains" = true) (k1 : keepIn K (.ref f1) = true)
    {od2 an2 : Option Addr} {sl2 : Array (Option Value)} {oc2 kV2 dc2 pm2 cd2 ct2 : Value} {f2 : Addr}
    (a2 : nsIn K mainGlobals "people_of" = some (some (.ref f2))) (l2 : K.lookup f2 = some ⟨oc2, od2, .func (fnOf "people_of" "people_of" (defArgs s_people) (defBody s_people) (defScope s_people) .none kV2 dc2 pm2 an2 cd2 ct2), sl2⟩) (c2 : codeIn K cd2 "people_of" = true) (k2 : keepIn K (.ref f2) = true)
    {od3 an3 : Option Addr} {sl3 : Array (Option Value)} {oc3 kV3 dc3 pm3 cd3 ct3 : Value} {f3 : Addr}
    (a3 : nsIn K mainGlobals "crews_within" = some (some (.ref f3))) (l3 : K.lookup f3 = some ⟨oc3, od3, .func (fnOf "crews_within" "crews_within" (defArgs s_cwithin) (defBody s_cwithin) (defScope s_cwithin) .none kV3 dc3 pm3 an3 cd3 ct3), sl3⟩) (c3 : codeIn K cd3 "crews_within" = true) (k3 : keepIn K (.ref f3) = true)
    {od4 an4 : Option Addr} {sl4 : Array (Option Value)} {oc4 kV4 dc4 pm4 cd4 ct4 : Value} {f4 : Addr}
    (a4 : nsIn K mainGlobals "check_people" = some (some (.ref f4))) (l4 : K.lookup f4 = some ⟨oc4, od4, .func (fnOf "check_people" "check_people" (defArgs s_check_people) (defBody s_check_people) (defScope s_check_people) .none kV4 dc4 pm4 an4 cd4 ct4), sl4⟩) (c4 : codeIn K cd4 "check_people" = true) (k4 : keepIn K (.ref f4) = true)
    {od5 an5 : Option Addr} {sl5 : Array (Option Value)} {oc5 kV5 dc5 pm5 cd5 ct5 : Value} {f5 : Addr}
    (a5 : nsIn K mainGlobals "is_name" = some (some (.ref f5))) (l5 : K.lookup f5 = some ⟨oc5, od5, .func (fnOf "is_name" "is_name" (defArgs s_is_name) (defBody s_is_name) (defScope s_is_name) .none kV5 dc5 pm5 an5 cd5 ct5), sl5⟩) (c5 : codeIn K cd5 "is_name" = true) (k5 : keepIn K (.ref f5) = true)
    {od6 an6 : Option Addr} {sl6 : Array (Option Value)} {oc6 kV6 dc6 pm6 cd6 ct6 : Value} {f6 : Addr}
    (a6 : nsIn K mainGlobals "is_set" = some (some (.ref f6))) (l6 : K.lookup f6 = some ⟨oc6, od6, .func (fnOf "is_set" "is_set" (defArgs s_is_set) (defBody s_is_set) (defScope s_is_set) .none kV6 dc6 pm6 an6 cd6 ct6), sl6⟩) (c6 : codeIn K cd6 "is_set" = true) (k6 : keepIn K (.ref f6) = true)
    {od7 an7 : Option Addr} {sl7 : Array (Option Value)} {oc7 kV7 dc7 pm7 cd7 ct7 : Value} {f7 : Addr}
    (a7 : nsIn K mainGlobals "is_tuple_of_names" = some (some (.ref f7))) (l7 : K.lookup f7 = some ⟨oc7, od7, .func (fnOf "is_tuple_of_names" "is_tuple_of_names" (defArgs s_names) (defBody s_names) (defScope s_names) .none kV7 dc7 pm7 an7 cd7 ct7), sl7⟩) (c7 : codeIn K cd7 "is_tuple_of_names" = true) (k7 : keepIn K (.ref f7) = true)
    {od8 an8 : Option Addr} {sl8 : Array (Option Value)} {oc8 kV8 dc8 pm8 cd8 ct8 : Value} {f8 : Addr}
    (a8 : nsIn K mainGlobals "is_situation" = some (some (.ref f8))) (l8 : K.lookup f8 = some ⟨oc8, od8, .func (fnOf "is_situation" "is_situation" (defArgs s_sit) (defBody s_sit) (defScope s_sit) .none kV8 dc8 pm8 an8 cd8 ct8), sl8⟩) (c8 : codeIn K cd8 "is_situation" = true) (k8 : keepIn K (.ref f8) = true)
    {od9 an9 : Option Addr} {sl9 : Array (Option Value)} {oc9 kV9 dc9 pm9 cd9 ct9 : Value} {f9 : Addr}
    (a9 : nsIn K mainGlobals "crews_left" = some (some (.ref f9))) (l9 : K.lookup f9 = some ⟨oc9, od9, .func (fnOf "crews_left" "crews_left" (defArgs s_cleft) (defBody s_cleft) (defScope s_cleft) .none kV9 dc9 pm9 an9 cd9 ct9), sl9⟩) (c9 : codeIn K cd9 "crews_left" = true) (k9 : keepIn K (.ref f9) = true)
    {od10 an10 : Option Addr} {sl10 : Array (Option Value)} {oc10 kV10 dc10 pm10 cd10 ct10 : Value} {f10 : Addr}
    (a10 : nsIn K mainGlobals "newcomers" = some (some (.ref f10))) (l10 : K.lookup f10 = some ⟨oc10, od10, .func (fnOf "newcomers" "newcomers" (defArgs s_newcomers) (defBody s_newcomers) (defScope s_newcomers) .none kV10 dc10 pm10 an10 cd10 ct10), sl10⟩) (c10 : codeIn K cd10 "newcomers" = true) (k10 : keepIn K (.ref f10) = true)
    {od11 an11 : Option Addr} {sl11 : Array (Option Value)} {oc11 kV11 dc11 pm11 cd11 ct11 : Value} {f11 : Addr}
    (a11 : nsIn K mainGlobals "_law_feed" = some (some (.ref f11))) (l11 : K.lookup f11 = some ⟨oc11, od11, .func (fnOf "_law_feed" "_law_feed" (defArgs s_feed) (defBody s_feed) (defScope s_feed) .none kV11 dc11 pm11 an11 cd11 ct11), sl11⟩) (c11 : codeIn K cd11 "_law_feed" = true) (k11 : keepIn K (.ref f11) = true)
    {od12 an12 : Option Addr} {sl12 : Array (Option Value)} {oc12 kV12 dc12 pm12 cd12 ct12 : Value} {f12 : Addr}
    (a12 : nsIn K mainGlobals "_law_draw" = some (some (.ref f12))) (l12 : K.lookup f12 = some ⟨oc12, od12, .func (fnOf "_law_draw" "_law_draw" (defArgs s_draw) (defBody s_draw) (defScope s_draw) .none kV12 dc12 pm12 an12 cd12 ct12), sl12⟩) (c12 : codeIn K cd12 "_law_draw" = true) (k12 : keepIn K (.ref f12) = true)
    {od13 an13 : Option Addr} {sl13 : Array (Option Value)} {oc13 kV13 dc13 pm13 cd13 ct13 : Value} {f13 : Addr}
    (a13 : nsIn K mainGlobals "_law_choice" = some (some (.ref f13))) (l13 : K.lookup f13 = some ⟨oc13, od13, .func (fnOf "_law_choice" "_law_choice" (defArgs s_choice) (defBody s_choice) (defScope s_choice) .none kV13 dc13 pm13 an13 cd13 ct13), sl13⟩) (c13 : codeIn K cd13 "_law_choice" = true) (k13 : keepIn K (.ref f13) = true)
    {od14 an14 : Option Addr} {sl14 : Array (Option Value)} {oc14 kV14 dc14 pm14 cd14 ct14 : Value} {f14 : Addr}
    (a14 : nsIn K mainGlobals "_law_subset" = some (some (.ref f14))) (l14 : K.lookup f14 = some ⟨oc14, od14, .func (fnOf "_law_subset" "_law_subset" (defArgs s_subset) (defBody s_subset) (defScope s_subset) .none kV14 dc14 pm14 an14 cd14 ct14), sl14⟩) (c14 : codeIn K cd14 "_law_subset" = true) (k14 : keepIn K (.ref f14) = true)
    {od15 an15 : Option Addr} {sl15 : Array (Option Value)} {oc15 kV15 dc15 pm15 cd15 ct15 : Value} {f15 : Addr}
    (a15 : nsIn K mainGlobals "_law_folk" = some (some (.ref f15))) (l15 : K.lookup f15 = some ⟨oc15, od15, .func (fnOf "_law_folk" "_law_folk" (defArgs s_folk) (defBody s_folk) (defScope s_folk) .none kV15 dc15 pm15 an15 cd15 ct15), sl15⟩) (c15 : codeIn K cd15 "_law_folk" = true) (k15 : keepIn K (.ref f15) = true)
    {od16 an16 : Option Addr} {sl16 : Array (Option Value)} {oc16 kV16 dc16 pm16 cd16 ct16 : Value} {f16 : Addr}
    (a16 : nsIn K mainGlobals "_law_is_part" = some (some (.ref f16))) (l16 : K.lookup f16 = some ⟨oc16, od16, .func (fnOf "_law_is_part" "_law_is_part" (defArgs s_part) (defBody s_part) (defScope s_part) .none kV16 dc16 pm16 an16 cd16 ct16), sl16⟩) (c16 : codeIn K cd16 "_law_is_part" = true) (k16 : keepIn K (.ref f16) = true)
    {od17 an17 : Option Addr} {sl17 : Array (Option Value)} {oc17 kV17 dc17 pm17 cd17 ct17 : Value} {f17 : Addr}
    (a17 : nsIn K mainGlobals "_law_minimal" = some (some (.ref f17))) (l17 : K.lookup f17 = some ⟨oc17, od17, .func (fnOf "_law_minimal" "_law_minimal" (defArgs s_min) (defBody s_min) (defScope s_min) .none kV17 dc17 pm17 an17 cd17 ct17), sl17⟩) (c17 : codeIn K cd17 "_law_minimal" = true) (k17 : keepIn K (.ref f17) = true)
    {od18 an18 : Option Addr} {sl18 : Array (Option Value)} {oc18 kV18 dc18 pm18 cd18 ct18 : Value} {f18 : Addr}
    (a18 : nsIn K mainGlobals "_law_sets_of" = some (some (.ref f18))) (l18 : K.lookup f18 = some ⟨oc18, od18, .func (fnOf "_law_sets_of" "_law_sets_of" (defArgs s_sets) (defBody s_sets) (defScope s_sets) .none kV18 dc18 pm18 an18 cd18 ct18), sl18⟩) (c18 : codeIn K cd18 "_law_sets_of" = true) (k18 : keepIn K (.ref f18) = true)
    {od19 an19 : Option Addr} {sl19 : Array (Option Value)} {oc19 kV19 dc19 pm19 cd19 ct19 : Value} {f19 : Addr}
    (a19 : nsIn K mainGlobals "_law_teams" = some (some (.ref f19))) (l19 : K.lookup f19 = some ⟨oc19, od19, .func (fnOf "_law_teams" "_law_teams" (defArgs s_teams) (defBody s_teams) (defScope s_teams) .none kV19 dc19 pm19 an19 cd19 ct19), sl19⟩) (c19 : codeIn K cd19 "_law_teams" = true) (k19 : keepIn K (.ref f19) = true)
    {od20 an20 : Option Addr} {sl20 : Array (Option Value)} {oc20 kV20 dc20 pm20 cd20 ct20 : Value} {f20 : Addr}
    (a20 : nsIn K mainGlobals "_law_scene" = some (some (.ref f20))) (l20 : K.lookup f20 = some ⟨oc20, od20, .func (fnOf "_law_scene" "_law_scene" (defArgs s_scene) (defBody s_scene) (defScope s_scene) .none kV20 dc20 pm20 an20 cd20 ct20), sl20⟩) (c20 : codeIn K cd20 "_law_scene" = true) (k20 : keepIn K (.ref f20) = true)
    {od21 an21 : Option Addr} {sl21 : Array (Option Value)} {oc21 kV21 dc21 pm21 cd21 ct21 : Value} {f21 : Addr}
    (a21 : nsIn K mainGlobals "_law_left" = some (some (.ref f21))) (l21 : K.lookup f21 = some ⟨oc21, od21, .func (fnOf "_law_left" "_law_left" (defArgs s_left) (defBody s_left) (defScope s_left) .none kV21 dc21 pm21 an21 cd21 ct21), sl21⟩) (c21 : codeIn K cd21 "_law_left" = true) (k21 : keepIn K (.ref f21) = true)
    {od22 an22 : Option Addr} {sl22 : Array (Option Value)} {oc22 kV22 dc22 pm22 cd22 ct22 : Value} {f22 : Addr}
    (a22 : nsIn K mainGlobals "_law_replacement" = some (some (.ref f22))) (l22 : K.lookup f22 = some ⟨oc22, od22, .func (fnOf "_law_replacement" "_law_replacement" (defArgs s_repl) (defBody s_repl) (defScope s_repl) .none kV22 dc22 pm22 an22 cd22 ct22), sl22⟩) (c22 : codeIn K cd22 "_law_replacement" = true) (k22 : keepIn K (.ref f22) = true)
    {od23 an23 : Option Addr} {sl23 : Array (Option Value)} {oc23 kV23 dc23 pm23 cd23 ct23 : Value} {f23 : Addr}
    (a23 : nsIn K mainGlobals "_law_mutated" = some (some (.ref f23))) (l23 : K.lookup f23 = some ⟨oc23, od23, .func (fnOf "_law_mutated" "_law_mutated" (defArgs s_mut) (defBody s_mut) (defScope s_mut) .none kV23 dc23 pm23 an23 cd23 ct23), sl23⟩) (c23 : codeIn K cd23 "_law_mutated" = true) (k23 : keepIn K (.ref f23) = true)
    {od24 an24 : Option Addr} {sl24 : Array (Option Value)} {oc24 kV24 dc24 pm24 cd24 ct24 : Value} {f24 : Addr}
    (a24 : nsIn K mainGlobals "_law_is_name" = some (some (.ref f24))) (l24 : K.lookup f24 = some ⟨oc24, od24, .func (fnOf "_law_is_name" "_law_is_name" (defArgs s_lname) (defBody s_lname) (defScope s_lname) .none kV24 dc24 pm24 an24 cd24 ct24), sl24⟩) (c24 : codeIn K cd24 "_law_is_name" = true) (k24 : keepIn K (.ref f24) = true)
    {od25 an25 : Option Addr} {sl25 : Array (Option Value)} {oc25 kV25 dc25 pm25 cd25 ct25 : Value} {f25 : Addr}
    (a25 : nsIn K mainGlobals "_law_is_tuple_of" = some (some (.ref f25))) (l25 : K.lookup f25 = some ⟨oc25, od25, .func (fnOf "_law_is_tuple_of" "_law_is_tuple_of" (defArgs s_ltof) (defBody s_ltof) (defScope s_ltof) .none kV25 dc25 pm25 an25 cd25 ct25), sl25⟩) (c25 : codeIn K cd25 "_law_is_tuple_of" = true) (k25 : keepIn K (.ref f25) = true)
    {od26 an26 : Option Addr} {sl26 : Array (Option Value)} {oc26 kV26 dc26 pm26 cd26 ct26 : Value} {f26 : Addr}
    (a26 : nsIn K mainGlobals "_law_are_names" = some (some (.ref f26))) (l26 : K.lookup f26 = some ⟨oc26, od26, .func (fnOf "_law_are_names" "_law_are_names" (defArgs s_lnames) (defBody s_lnames) (defScope s_lnames) .none kV26 dc26 pm26 an26 cd26 ct26), sl26⟩) (c26 : codeIn K cd26 "_law_are_names" = true) (k26 : keepIn K (.ref f26) = true)
    {od27 an27 : Option Addr} {sl27 : Array (Option Value)} {oc27 kV27 dc27 pm27 cd27 ct27 : Value} {f27 : Addr}
    (a27 : nsIn K mainGlobals "_law_is_scene" = some (some (.ref f27))) (l27 : K.lookup f27 = some ⟨oc27, od27, .func (fnOf "_law_is_scene" "_law_is_scene" (defArgs s_lscene) (defBody s_lscene) (defScope s_lscene) .none kV27 dc27 pm27 an27 cd27 ct27), sl27⟩) (c27 : codeIn K cd27 "_law_is_scene" = true) (k27 : keepIn K (.ref f27) = true)
    {od28 an28 : Option Addr} {sl28 : Array (Option Value)} {oc28 kV28 dc28 pm28 cd28 ct28 : Value} {f28 : Addr}
    (a28 : nsIn K mainGlobals "_law_expected" = some (some (.ref f28))) (l28 : K.lookup f28 = some ⟨oc28, od28, .func (fnOf "_law_expected" "_law_expected" (defArgs s_lexp) (defBody s_lexp) (defScope s_lexp) .none kV28 dc28 pm28 an28 cd28 ct28), sl28⟩) (c28 : codeIn K cd28 "_law_expected" = true) (k28 : keepIn K (.ref f28) = true)
    {od29 an29 : Option Addr} {sl29 : Array (Option Value)} {oc29 kV29 dc29 pm29 cd29 ct29 : Value} {f29 : Addr}
    (a29 : nsIn K mainGlobals "_law_items" = some (some (.ref f29))) (l29 : K.lookup f29 = some ⟨oc29, od29, .func (fnOf "_law_items" "_law_items" (defArgs s_items) (defBody s_items) (defScope s_items) .none kV29 dc29 pm29 an29 cd29 ct29), sl29⟩) (c29 : codeIn K cd29 "_law_items" = true) (k29 : keepIn K (.ref f29) = true)
    {od30 an30 : Option Addr} {sl30 : Array (Option Value)} {oc30 kV30 dc30 pm30 cd30 ct30 : Value} {f30 : Addr}
    (a30 : nsIn K mainGlobals "law" = some (some (.ref f30))) (l30 : K.lookup f30 = some ⟨oc30, od30, .func (fnOf "law" "law" (defArgs s_law) (defBody s_law) (defScope s_law) .none kV30 dc30 pm30 an30 cd30 ct30), sl30⟩) (c30 : codeIn K cd30 "law" = true) (k30 : keepIn K (.ref f30) = true)
    {tM : Tok} (y0 : nsIn K mainGlobals "MOST_LETTERS" = some (some (Value.int 8 tM)))
    (z0 : nsIn K mainGlobals "len" = some none)
    (z1 : nsIn K mainGlobals "list" = some none)
    (z2 : nsIn K mainGlobals "tuple" = some none)
    (z3 : nsIn K mainGlobals "range" = some none)
    (z4 : nsIn K mainGlobals "sorted" = some none)
    (z5 : nsIn K mainGlobals "any" = some none)
    (z6 : nsIn K mainGlobals "all" = some none)
    (z7 : nsIn K mainGlobals "min" = some none)
    (z8 : nsIn K mainGlobals "max" = some none)
    (z9 : nsIn K mainGlobals "repr" = some none)
    (z10 : nsIn K mainGlobals "set" = some none)
    (z11 : nsIn K mainGlobals "isinstance" = some none)
    (z12 : nsIn K mainGlobals "str" = some none)
    (z13 : nsIn K mainGlobals "zip" = some none) :
    ∃ fd : FuncData, (∀ (s : Shared) (v : Value), BindsTo s fd ⟨[v], []⟩ [("_law_script", v)]) ∧ ∀ base : Heap, K.In base → base.Ns mainGlobals mg → FnG P w K mg base 9 fa fd ["_law_script"] (sp_law K) := by
  have e := hfa.symm.trans (mg_of X G a30)
  cases e
  have F0 := fun_mk (st := s_asc) l0 c0 k0
  have b0 := F0.binds (ps := ["things"]) fun _ _ _ _ _ _ us hl => match us, hl with | [_], _ => rfl
  have F1 := fun_mk (st := s_contains) l1 c1 k1
  have b1 := F1.binds (ps := ["larger", "smaller"]) fun _ _ _ _ _ _ us hl => match us, hl with | [_, _], _ => rfl
  have F2 := fun_mk (st := s_people) l2 c2 k2
  have b2 := F2.binds (ps := ["crews"]) fun _ _ _ _ _ _ us hl => match us, hl with | [_], _ => rfl
  have F3 := fun_mk (st := s_cwithin) l3 c3 k3
  have b3 := F3.binds (ps := ["crews", "people"]) fun _ _ _ _ _ _ us hl => match us, hl with | [_, _], _ => rfl
  have F4 := fun_mk (st := s_check_people) l4 c4 k4
  have F5 := fun_mk (st := s_is_name) l5 c5 k5
  have b5 := F5.binds (ps := ["thing"]) fun _ _ _ _ _ _ us hl => match us, hl with | [_], _ => rfl
  have F6 := fun_mk (st := s_is_set) l6 c6 k6
  have b6 := F6.binds (ps := ["thing"]) fun _ _ _ _ _ _ us hl => match us, hl with | [_], _ => rfl
  have F7 := fun_mk (st := s_names) l7 c7 k7
  have b7 := F7.binds (ps := ["thing"]) fun _ _ _ _ _ _ us hl => match us, hl with | [_], _ => rfl
  have F8 := fun_mk (st := s_sit) l8 c8 k8
  have b8 := F8.binds (ps := ["crews", "thing"]) fun _ _ _ _ _ _ us hl => match us, hl with | [_, _], _ => rfl
  have F9 := fun_mk (st := s_cleft) l9 c9 k9
  have b9 := F9.binds (ps := ["crews", "present"]) fun _ _ _ _ _ _ us hl => match us, hl with | [_, _], _ => rfl
  have F10 := fun_mk (st := s_newcomers) l10 c10 k10
  have b10 := F10.binds (ps := ["crew", "other"]) fun _ _ _ _ _ _ us hl => match us, hl with | [_, _], _ => rfl
  have F11 := fun_mk (st := s_feed) l11 c11 k11
  have b11 := F11.binds (ps := ["_law_script"]) fun _ _ _ _ _ _ us hl => match us, hl with | [_], _ => rfl
  have F12 := fun_mk (st := s_draw) l12 c12 k12
  have b12 := F12.binds (ps := ["_law_feed_here", "_law_limit"]) fun _ _ _ _ _ _ us hl => match us, hl with | [_, _], _ => rfl
  have F13 := fun_mk (st := s_choice) l13 c13 k13
  have b13 := F13.binds (ps := ["_law_feed_here", "_law_some"]) fun _ _ _ _ _ _ us hl => match us, hl with | [_, _], _ => rfl
  have F14 := fun_mk (st := s_subset) l14 c14 k14
  have b14 := F14.binds (ps := ["_law_feed_here", "_law_some"]) fun _ _ _ _ _ _ us hl => match us, hl with | [_, _], _ => rfl
  have F15 := fun_mk (st := s_folk) l15 c15 k15
  have b15 := F15.binds (ps := ["_law_teams_here"]) fun _ _ _ _ _ _ us hl => match us, hl with | [_], _ => rfl
  have F16 := fun_mk (st := s_part) l16 c16 k16
  have b16 := F16.binds (ps := ["_law_some", "_law_others"]) fun _ _ _ _ _ _ us hl => match us, hl with | [_, _], _ => rfl
  have F17 := fun_mk (st := s_min) l17 c17 k17
  have b17 := F17.binds (ps := ["_law_sets"]) fun _ _ _ _ _ _ us hl => match us, hl with | [_], _ => rfl
  have F18 := fun_mk (st := s_sets) l18 c18 k18
  have b18 := F18.binds (ps := ["_law_names", "_law_size"]) fun _ _ _ _ _ _ us hl => match us, hl with | [_, _], _ => rfl
  have F19 := fun_mk (st := s_teams) l19 c19 k19
  have b19 := F19.binds (ps := ["_law_feed_here", "_law_most"]) fun _ _ _ _ _ _ us hl => match us, hl with | [_, _], _ => rfl
  have F20 := fun_mk (st := s_scene) l20 c20 k20
  have b20 := F20.binds (ps := ["_law_feed_here", "_law_teams_here"]) fun _ _ _ _ _ _ us hl => match us, hl with | [_, _], _ => rfl
  have F21 := fun_mk (st := s_left) l21 c21 k21
  have b21 := F21.binds (ps := ["_law_teams_here", "_law_here"]) fun _ _ _ _ _ _ us hl => match us, hl with | [_, _], _ => rfl
  have F22 := fun_mk (st := s_repl) l22 c22 k22
  have b22 := F22.binds (ps := ["_law_feed_here", "_law_item"]) fun _ _ _ _ _ _ us hl => match us, hl with | [_, _], _ => rfl
  have F23 := fun_mk (st := s_mut) l23 c23 k23
  have b23 := F23.binds (ps := ["_law_feed_here", "_law_item"]) fun _ _ _ _ _ _ us hl => match us, hl with | [_, _], _ => rfl
  have F24 := fun_mk (st := s_lname) l24 c24 k24
  have b24 := F24.binds (ps := ["_law_item"]) fun _ _ _ _ _ _ us hl => match us, hl with | [_], _ => rfl
  have F25 := fun_mk (st := s_ltof) l25 c25 k25
  have b25 := F25.binds (ps := ["_law_item", "_law_look"]) fun _ _ _ _ _ _ us hl => match us, hl with | [_, _], _ => rfl
  have F26 := fun_mk (st := s_lnames) l26 c26 k26
  have b26 := F26.binds (ps := ["_law_item"]) fun _ _ _ _ _ _ us hl => match us, hl with | [_], _ => rfl
  have F27 := fun_mk (st := s_lscene) l27 c27 k27
  have b27 := F27.binds (ps := ["_law_teams_here", "_law_here", "_law_team"]) fun _ _ _ _ _ _ us hl => match us, hl with | [_, _, _], _ => rfl
  have F28 := fun_mk (st := s_lexp) l28 c28 k28
  have b28 := F28.binds (ps := ["_law_teams_here", "_law_item"]) fun _ _ _ _ _ _ us hl => match us, hl with | [_, _], _ => rfl
  have F29 := fun_mk (st := s_items) l29 c29 k29
  have b29 := F29.binds (ps := ["_law_feed_here", "_law_teams_here"]) fun _ _ _ _ _ _ us hl => match us, hl with | [_, _], _ => rfl
  have F30 := fun_mk (st := s_law) l30 c30 k30
  have b30 := F30.binds (ps := ["_law_script"]) fun _ _ _ _ _ _ us hl => match us, hl with | [_], _ => rfl
  have B : Blt mg := ⟨mg_none_of X G z0, mg_none_of X G z1, mg_none_of X G z2, mg_none_of X G z3, mg_none_of X G z4, mg_none_of X G z5, mg_none_of X G z6, mg_none_of X G z7, mg_none_of X G z8, mg_none_of X G z9⟩
  have b_repr : mg "repr" = none := mg_none_of X G z9
  have b_set : mg "set" = none := mg_none_of X G z10
  have b_isinstance : mg "isinstance" = none := mg_none_of X G z11
  have b_str : mg "str" = none := mg_none_of X G z12
  have b_zip : mg "zip" = none := mg_none_of X G z13
  refine ⟨fnOf "law" "law" (defArgs s_law) (defBody s_law) (defScope s_law) .none kV30 dc30 pm30 an30 cd30 ct30, fun s v => .of_eq rfl, fun base _ _ => ?_⟩
  have C : Bl2 mg := ⟨b_isinstance, b_str, b_zip⟩
  have hM : mg "MOST_LETTERS" = some (Value.int 8 tM) := mg_of X G y0
  let D0 : Own P w K mg base 1 "is_ascending" ["things"] (sp_asc K) := ⟨f0, _, ok_asc F0 B C, mg_of X G a0, k0, b0⟩
  let D1 : Own P w K mg base 1 "contains" ["larger", "smaller"] (sp_contains K) := ⟨f1, _, ok_contains F1 B, mg_of X G a1, k1, b1⟩
  let D2 : Own P w K mg base 1 "people_of" ["crews"] (sp_people K) := ⟨f2, _, ok_people F2 B, mg_of X G a2, k2, b2⟩
  let D3 : Own P w K mg base 2 "crews_within" ["crews", "people"] (sp_cwithin K) := ⟨f3, _, ok_cwithin F3 B D1, mg_of X G a3, k3, b3⟩
  let D4 : OwnR P w K mg base 2 "check_people" (sp_check K) := ⟨f4, ok_check (k := 0) F4 B D2, mg_of X G a4, k4⟩
  let D5 : Own P w K mg base 1 "is_name" ["thing"] (sp_pd K isName) := ⟨f5, _, ok_is_name F5 B C hM, mg_of X G a5, k5, b5⟩
  let D7 : Own P w K mg base 2 "is_tuple_of_names" ["thing"] (sp_pd K namesD) := ⟨f7, _, ok_names F7 B C D5, mg_of X G a7, k7, b7⟩
  let D6 : Own P w K mg base 3 "is_set" ["thing"] (sp_pd K setD) := ⟨f6, _, ok_is_set F6 D7 D0, mg_of X G a6, k6, b6⟩
  let D8 : Own P w K mg base 4 "is_situation" ["crews", "thing"] (sp_sit K) := ⟨f8, _, ok_sit F8 B C D6 D1 D2, mg_of X G a8, k8, b8⟩
  let D9 : Own P w K mg base 3 "crews_left" ["crews", "present"] (sp_cleft K) := ⟨f9, _, ok_cleft F9 D4 D3, mg_of X G a9, k9, b9⟩
  let D10 : Own P w K mg base 1 "newcomers" ["crew", "other"] (sp_newcomers K) := ⟨f10, _, ok_newcomers F10 B, mg_of X G a10, k10, b10⟩
  have ks : FnKW P w K mg base CX0 4 D8.f ["thing", "crews"] (revSp2 (sp_sit K)) := kw2 (ok_sit F8 B C D6 D1 D2) fun _ _ _ => .of_eq rfl
  have kc : FnKW P w K mg base CX0 3 D9.f ["present", "crews"] (revSp2 (sp_cleft K)) := kw2 (ok_cleft F9 D4 D3) fun _ _ _ => .of_eq rfl
  have kn : FnKW P w K mg base CX0 1 D10.f ["other", "crew"] (revSp2 (sp_newcomers K)) := kw2 (ok_newcomers F10 B) fun _ _ _ => .of_eq rfl
  let D11 : Own P w K mg base 1 "_law_feed" ["_law_script"] (sp_feed K) := ⟨f11, _, ok_feed F11 B, mg_of X G a11, k11, b11⟩
  let D12 : Own P w K mg base 1 "_law_draw" ["_law_feed_here", "_law_limit"] sp_draw := ⟨f12, _, ok_draw F12 B, mg_of X G a12, k12, b12⟩
  let D13T : Own P w K mg base 2 "_law_choice" ["_law_feed_here", "_law_some"] (sp_choiceT K) := ⟨f13, _, ok_choiceT F13 B D12, mg_of X G a13, k13, b13⟩
  let D13L : Own P w K mg base 2 "_law_choice" ["_law_feed_here", "_law_some"] (sp_choiceL K) := ⟨f13, _, ok_choiceL F13 B D12, mg_of X G a13, k13, b13⟩
  let D14 : Own P w K mg base 2 "_law_subset" ["_law_feed_here", "_law_some"] (sp_subset K) := ⟨f14, _, ok_subset F14 B D12, mg_of X G a14, k14, b14⟩
  let D15 : Own P w K mg base 1 "_law_folk" ["_law_teams_here"] (sp_folk K) := ⟨f15, _, ok_folk F15 B, mg_of X G a15, k15, b15⟩
  let D16 : Own P w K mg base 1 "_law_is_part" ["_law_some", "_law_others"] (sp_part K) := ⟨f16, _, ok_part F16, mg_of X G a16, k16, b16⟩
  let D17 : Own P w K mg base 2 "_law_minimal" ["_law_sets"] (sp_min K) := ⟨f17, _, ok_min F17 B b_set D16, mg_of X G a17, k17, b17⟩
  let D18 : Own P w K mg base 1 "_law_sets_of" ["_law_names", "_law_size"] (sp_sets K) := ⟨f18, _, ok_sets F18 B, mg_of X G a18, k18, b18⟩
  let D19 : Own P w K mg base 3 "_law_teams" ["_law_feed_here", "_law_most"] (sp_teams K) := ⟨f19, _, ok_teams F19 B D12 D13L D17 D18, mg_of X G a19, k19, b19⟩
  let D20 : Own P w K mg base 3 "_law_scene" ["_law_feed_here", "_law_teams_here"] (sp_scene K) := ⟨f20, _, ok_scene F20 B D12 D13T D15, mg_of X G a20, k20, b20⟩
  let D21 : Own P w K mg base 2 "_law_left" ["_law_teams_here", "_law_here"] (sp_left K) := ⟨f21, _, ok_left F21 B D16, mg_of X G a21, k21, b21⟩
  let DR : ∀ n m, Own P w K mg base 3 "_law_replacement" ["_law_feed_here", "_law_item"] (sp_repl K n m) := fun n m => ⟨f22, _, ok_repl F22 B C D12 D13L, mg_of X G a22, k22, b22⟩
  let DMA : Own P w K mg base 6 "_law_mutated" ["_law_feed_here", "_law_item"] (sp_mut K 12 2) := ⟨f23, _, ok_mut F23 B C D12 (mg_of X G a23) k23 b23 DR 12 2, mg_of X G a23, k23, b23⟩
  let DMB : Own P w K mg base 7 "_law_mutated" ["_law_feed_here", "_law_item"] (sp_mut K 13 3) := ⟨f23, _, ok_mut F23 B C D12 (mg_of X G a23) k23 b23 DR 13 3, mg_of X G a23, k23, b23⟩
  let D24 : Own P w K mg base 1 "_law_is_name" ["_law_item"] (sp_pd K isName) := ⟨f24, _, ok_lname F24 B C, mg_of X G a24, k24, b24⟩
  let D25 : Own P w K mg base 2 "_law_is_tuple_of" ["_law_item", "_law_look"] (sp_ltof K D24.f) := ⟨f25, _, ok_ltof F25 B C D24, mg_of X G a25, k25, b25⟩
  let D26 : Own P w K mg base 3 "_law_are_names" ["_law_item"] (sp_pd K namesD) := ⟨f26, _, ok_lnames F26 D24 D25, mg_of X G a26, k26, b26⟩
  let D27 : Own P w K mg base 2 "_law_is_scene" ["_law_teams_here", "_law_here", "_law_team"] (sp_lscene K) := ⟨f27, _, ok_lscene F27 B D15 D16, mg_of X G a27, k27, b27⟩
  let D28 : Own P w K mg base 4 "_law_expected" ["_law_teams_here", "_law_item"] (sp_lexp K) := ⟨f28, _, ok_lexp F28 B C D26 D27, mg_of X G a28, k28, b28⟩
  let D29 : Own P w K mg base 8 "_law_items" ["_law_feed_here", "_law_teams_here"] (sp_items K) := ⟨f29, _, ok_items F29 B D20 D15 DMA DMB, mg_of X G a29, k29, b29⟩
  exact ok_law F30 B b_repr D11 D19 D15 D20 D14 D21 D29 D28 D8 ks D9 kc D10 kn
end K17
open PySem PySem.W PyProof.Rows
set_option maxHeartbeats 0 in
theorem PySem.Challenge.cw_crewbook_k17_situations_holds : PySem.Challenge.rw_crewbook_k17_situations.Holds := by
  w_on; o_law; k_head; (case hw => w_witness2)
  k_fill
  refine Cb.walkG (l := PySem.Challenge.rw_crewbook_k17_situations) (n := 63) (k := 9) (x := "_law_script") (sp := fun w => K17.sp_law _) rfl (by decide) rfl ⟨rfl, by decide, by decide⟩ (fun w h Y => PySem.W.kIn_of Y) ?F (fun _ _ a ns hl _ hS => ⟨a, ns, rfl, hS, fun _ => rfl⟩)
  case F =>
    intro w mg fa h KX G hmg
    refine' K17.all_mk KX G hmg ?a0 ?l0 ?c0 ?k0 ?a1 ?l1 ?c1 ?k1 ?a2 ?l2 ?c2 ?k2 ?a3 ?l3 ?c3 ?k3 ?a4 ?l4 ?c4 ?k4 ?a5 ?l5 ?c5 ?k5 ?a6 ?l6 ?c6 ?k6 ?a7 ?l7 ?c7 ?k7 ?a8 ?l8 ?c8 ?k8 ?a9 ?l9 ?c9 ?k9 ?a10 ?l10 ?c10 ?k10 ?a11 ?l11 ?c11 ?k11 ?a12 ?l12 ?c12 ?k12 ?a13 ?l13 ?c13 ?k13 ?a14 ?l14 ?c14 ?k14 ?a15 ?l15 ?c15 ?k15 ?a16 ?l16 ?c16 ?k16 ?a17 ?l17 ?c17 ?k17 ?a18 ?l18 ?c18 ?k18 ?a19 ?l19 ?c19 ?k19 ?a20 ?l20 ?c20 ?k20 ?a21 ?l21 ?c21 ?k21 ?a22 ?l22 ?c22 ?k22 ?a23 ?l23 ?c23 ?k23 ?a24 ?l24 ?c24 ?k24 ?a25 ?l25 ?c25 ?k25 ?a26 ?l26 ?c26 ?k26 ?a27 ?l27 ?c27 ?k27 ?a28 ?l28 ?c28 ?k28 ?a29 ?l29 ?c29 ?k29 ?a30 ?l30 ?c30 ?k30 ?y0 ?z0 ?z1 ?z2 ?z3 ?z4 ?z5 ?z6 ?z7 ?z8 ?z9 ?z10 ?z11 ?z12 ?z13
    (case y0 => k_is)
    (case a0 => k_is); (case l0 => k_is); (case c0 => k_is); (case k0 => k_is)
    (case a1 => k_is); (case l1 => k_is); (case c1 => k_is); (case k1 => k_is)
    (case a2 => k_is); (case l2 => k_is); (case c2 => k_is); (case k2 => k_is)
    (case a3 => k_is); (case l3 => k_is); (case c3 => k_is); (case k3 => k_is)
    (case a4 => k_is); (case l4 => k_is); (case c4 => k_is); (case k4 => k_is)
    (case a5 => k_is); (case l5 => k_is); (case c5 => k_is); (case k5 => k_is)
    (case a6 => k_is); (case l6 => k_is); (case c6 => k_is); (case k6 => k_is)
    (case a7 => k_is); (case l7 => k_is); (case c7 => k_is); (case k7 => k_is)
    (case a8 => k_is); (case l8 => k_is); (case c8 => k_is); (case k8 => k_is)
    (case a9 => k_is); (case l9 => k_is); (case c9 => k_is); (case k9 => k_is)
    (case a10 => k_is); (case l10 => k_is); (case c10 => k_is); (case k10 => k_is)
    (case a11 => k_is); (case l11 => k_is); (case c11 => k_is); (case k11 => k_is)
    (case a12 => k_is); (case l12 => k_is); (case c12 => k_is); (case k12 => k_is)
    (case a13 => k_is); (case l13 => k_is); (case c13 => k_is); (case k13 => k_is)
    (case a14 => k_is); (case l14 => k_is); (case c14 => k_is); (case k14 => k_is)
    (case a15 => k_is); (case l15 => k_is); (case c15 => k_is); (case k15 => k_is)
    (case a16 => k_is); (case l16 => k_is); (case c16 => k_is); (case k16 => k_is)
    (case a17 => k_is); (case l17 => k_is); (case c17 => k_is); (case k17 => k_is)
    (case a18 => k_is); (case l18 => k_is); (case c18 => k_is); (case k18 => k_is)
    (case a19 => k_is); (case l19 => k_is); (case c19 => k_is); (case k19 => k_is)
    (case a20 => k_is); (case l20 => k_is); (case c20 => k_is); (case k20 => k_is)
    (case a21 => k_is); (case l21 => k_is); (case c21 => k_is); (case k21 => k_is)
    (case a22 => k_is); (case l22 => k_is); (case c22 => k_is); (case k22 => k_is)
    (case a23 => k_is); (case l23 => k_is); (case c23 => k_is); (case k23 => k_is)
    (case a24 => k_is); (case l24 => k_is); (case c24 => k_is); (case k24 => k_is)
    (case a25 => k_is); (case l25 => k_is); (case c25 => k_is); (case k25 => k_is)
    (case a26 => k_is); (case l26 => k_is); (case c26 => k_is); (case k26 => k_is)
    (case a27 => k_is); (case l27 => k_is); (case c27 => k_is); (case k27 => k_is)
    (case a28 => k_is); (case l28 => k_is); (case c28 => k_is); (case k28 => k_is)
    (case a29 => k_is); (case l29 => k_is); (case c29 => k_is); (case k29 => k_is)
    (case a30 => k_is); (case l30 => k_is); (case c30 => k_is); (case k30 => k_is)
    (case z0 => k_is); (case z1 => k_is); (case z2 => k_is); (case z3 => k_is); (case z4 => k_is); (case z5 => k_is); (case z6 => k_is); (case z7 => k_is); (case z8 => k_is); (case z9 => k_is); (case z10 => k_is); (case z11 => k_is); (case z12 => k_is); (case z13 => k_is)
