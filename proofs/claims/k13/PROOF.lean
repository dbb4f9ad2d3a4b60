import PyProof.Rows.All
import Wide.All
import OpenK.AllK
import Wide.FinOn
import PyProof.WalksMore
import HandS.Base
import HandS.Call
import HandS.List
import HandS.ForMost
import HandS.Style
import HandS.TupAny
import HandS.Wide
import HandS.IsInst
import HandS.Flow
import HandS.SortKw
import HandS.Defaults
import KE.GoesMore
import KE.GoesEnum
import HandS.TupSets
import KE.KeyNested
import KE.SortData
import HandS.More
import PyProof.StrWalks
import HandS.Zip
import HandS.DeepEq
import HandS.TupMul
import HandS.Walk
import HandS.Text
import KE.DataMinMax
import PyProof.StrBlock2
import KE.SortKeyHeap
import PyProof.TupleIter
import HandS.Comp
import HandS.SetBool
import HandS.Deep
import HandS.RaiseMore
import HandS.NoneIn
import PySem.Challenge.RW_moredone_k13_bases_from_logs
set_option Elab.async false
set_option linter.all false
set_option maxRecDepth 100000
set_option maxHeartbeats 2000000
namespace IqX
open PySem PySem.Spec PyProof.Rows L2
theorem no_contains_l : typeLookup (.type "list_iterator") "__contains__" = pure none := by rw [typeLookup_type, builtinLookup_eq_fast]; kernel_rfl
theorem no_contains_t : typeLookup (.type "tuple_iterator") "__contains__" = pure none := by rw [typeLookup_type, builtinLookup_eq_fast]; kernel_rfl
theorem plain_ci : plainId "proto.contains_iter" = true := by decide +kernel
theorem entry_ci : entryFor table "proto.contains_iter" = some Builtin.«proto.contains_iter» := entryFor_of_fast (by kernel_rfl)

section
variable {prog : Program} {w : World} {A : Around} {E : Value → Shared → Prop} {s : Shared}
theorem next_list_end {it l : Addr} {i : Nat} {items : Array Value} {Q : Option Value → Shared → Prop} (hh : A.handled = none)
    (hit : s.heap.IsListIter it l i) (hl : s.heap.IsList l items) (hx : items[i]? = none)
    (hQ : ∀ h', Heap.ExtBut it s.heap h' → (∃ u, h'.get? it = some u) → Q none { s with heap := h' }) : wpAny (model prog w) A (pyNext (.ref it)) Q E s := by
  obtain ⟨o, ho, hc, hd⟩ := id hit
  obtain ⟨ol, hol, _, nl, hdl⟩ := hl
  unfold pyNext
  refine wpAny_bind (wpAny_attempt (wpAny_callSpecial?_slot (name := Str.ofString "__next__") hit.typeIs slot_listiter_next
    (wpAny_call_entry slot_listiter_next hit.typeIs entry_listiter_next ?_ (args_listiter_next _))))
  show wpAny _ _ (field (.ref it) 0 >>= _) _ _ s
  refine wpAny_bind (wpAny_field ho hd (x := .ref l) rfl ?_)
  show wpAny _ _ (if (Value.ref l == Value.none) = true then _ else _) _ _ s
  rw [if_neg (show ¬ ((Value.ref l == Value.none) = true) from Bool.false_ne_true)]
  show wpAny _ _ (field (.ref it) 1 >>= _) _ _ s
  refine wpAny_bind (wpAny_field ho hd (x := .int i 0) rfl ?_)
  show wpAny _ _ (seqItems? (.ref l) >>= _) _ _ s
  refine wpAny_bind (wpAny_seqItems hol hdl ?_)
  simp only [Int.toNat_natCast, hx]
  refine wpAny_bind (wpAny_rule (wpAny_bind (wpAny_setField ho hd (by simp) ?_)))
  show wpAny _ _ (newExc (.type "StopIteration") [] >>= _) _ _ _
  refine wpAny_bind ?_
  simp only [newExc, newTuple]
  refine wpAny_bind (wpAny_newObj_type ?_ (by size_fits))
  refine wpAny_bind (m := firstArgMember _ _) (wpAny_of_eq (a := Value.none) (by first | rfl | (simp only [firstArgMember]; rfl)) ?_)
  refine wpAny_newObj_type ?_ (by size_fits)
  simp only [raiseNew]
  refine wpAny_bind (wpAny_handled ?_)
  rw [show A.in1.handled = none from hh]
  refine wpAny_bind (wpAny_pure (wpAny_throw ?_))
  refine wpAny_bind (wpAny_isInstance (T := "StopIteration") (b := true) ⟨_, Heap.get?_push_size _ rfl, rfl⟩ isSubtype_stop ?_)
  exact wpAny_pure (hQ _ (((Heap.SameBut.update ..).extBut.push _).push _) ⟨_, Heap.get?_push_of_some _ (Heap.get?_push_of_some _ (Heap.get?_update_self _ ho (Obj.isFreed_of_fields (Obj.data_mapFields hd _))))⟩)
theorem next_tuple_end {it t : Addr} {i : Nat} {items : Array Value} {Q : Option Value → Shared → Prop} (hh : A.handled = none)
    (hit : s.heap.IsTupleIter it t i) (ht : s.heap.IsTuple t items) (hx : items[i]? = none)
    (hQ : ∀ h', Heap.ExtBut it s.heap h' → (∃ u, h'.get? it = some u) → Q none { s with heap := h' }) : wpAny (model prog w) A (pyNext (.ref it)) Q E s := by
  obtain ⟨o, ho, hc, hd⟩ := id hit
  obtain ⟨ol, hol, _, nl, hdl⟩ := ht
  unfold pyNext
  refine wpAny_bind (wpAny_attempt (wpAny_callSpecial?_slot (name := Str.ofString "__next__") hit.typeIs F.slot_tuple_iterator_next
    (wpAny_call_entry F.slot_tuple_iterator_next hit.typeIs F.entry_tuple_iterator_next ?_ (F.args_tuple_iterator_next_1 _))))
  show wpAny _ _ (field (.ref it) 0 >>= _) _ _ s
  refine wpAny_bind (wpAny_field ho hd (x := .ref t) rfl ?_)
  show wpAny _ _ (if (Value.ref t == Value.none) = true then _ else _) _ _ s
  rw [if_neg (show ¬ ((Value.ref t == Value.none) = true) from Bool.false_ne_true)]
  show wpAny _ _ (field (.ref it) 1 >>= _) _ _ s
  refine wpAny_bind (wpAny_field ho hd (x := .int i 0) rfl ?_)
  show wpAny _ _ (seqItems? (.ref t) >>= _) _ _ s
  refine wpAny_bind (wpAny_seqItems hol hdl ?_)
  simp only [Int.toNat_natCast, hx]
  refine wpAny_bind (wpAny_rule (wpAny_bind (wpAny_setField ho hd (by simp) ?_)))
  show wpAny _ _ (newExc (.type "StopIteration") [] >>= _) _ _ _
  refine wpAny_bind ?_
  simp only [newExc, newTuple]
  refine wpAny_bind (wpAny_newObj_type ?_ (by size_fits))
  refine wpAny_bind (m := firstArgMember _ _) (wpAny_of_eq (a := Value.none) (by first | rfl | (simp only [firstArgMember]; rfl)) ?_)
  refine wpAny_newObj_type ?_ (by size_fits)
  simp only [raiseNew]
  refine wpAny_bind (wpAny_handled ?_)
  first | rw [show A.in1.handled = none from hh] | rw [hh]
  refine wpAny_bind (wpAny_pure (wpAny_throw ?_))
  refine wpAny_bind (wpAny_isInstance (T := "StopIteration") (b := true) ⟨_, Heap.get?_push_size _ rfl, rfl⟩ isSubtype_stop ?_)
  exact wpAny_pure (hQ _ (((Heap.SameBut.update ..).extBut.push _).push _) ⟨_, Heap.get?_push_of_some _ (Heap.get?_push_of_some _ (Heap.get?_update_self _ ho (Obj.isFreed_of_fields (Obj.data_mapFields hd _))))⟩)
end

/-- at it an iterator over the list (b) or tuple at l, the next place is i -/
def IsIt (b : Bool) (h : Heap) (it l : Addr) (i : Nat) : Prop := if b = true then h.IsListIter it l i else h.IsTupleIter it l i
def ItQ (b : Bool) (l it : Addr) (i : Nat) : HO := .ext fun h => IsIt b h it l i
/-- an iterator that has ended -/
def ItX (it : Addr) : HO := .ext fun h => ∃ o, h.get? it = some o
theorem isIt_get {b : Bool} {h : Heap} {it l : Addr} {i : Nat} (x : IsIt b h it l i) : ∃ o, h.get? it = some o := by
  cases b with
  | true => obtain ⟨o, e, _⟩ := (show h.IsListIter it l i from x); exact ⟨o, e⟩
  | false => obtain ⟨o, e, _⟩ := (show h.IsTupleIter it l i from x); exact ⟨o, e⟩
theorem itQ_ok {P : Program} {w : World} {H : Hp} {b : Bool} {h : Heap} {it l : Addr} {i : Nat} (x : IsIt b h it l i) : ObjOk P w H h it (ItQ b l it i) := by
  refine ⟨x, isIt_get x, fun h1 h2 q k => ?_⟩
  cases b with
  | true => obtain ⟨o, e, r⟩ := (show h1.IsListIter it l i from q); exact (show h2.IsListIter it l i from ⟨o, k _ e, r⟩)
  | false => obtain ⟨o, e, r⟩ := (show h1.IsTupleIter it l i from q); exact (show h2.IsTupleIter it l i from ⟨o, k _ e, r⟩)
theorem itX_ok {P : Program} {w : World} {H : Hp} {h : Heap} {it : Addr} (x : ∃ o, h.get? it = some o) : ObjOk P w H h it (ItX it) := by
  refine ⟨x, x, fun h1 h2 q k => ?_⟩
  obtain ⟨o, e⟩ := q
  exact ⟨o, k _ e⟩
section
variable {X : Cx} {pins : List (Addr × Obj)} {σ : L2.St} {H : Hp} {s : Shared} {l it : Addr} {i : Nat} {b : Bool}
theorem itQ_get (I : Inv X pins σ H s) (e : H it = some (ItQ b l it i)) : IsIt b s.heap it l i := (I.hok it _ e).1
/-- a list (b) or a tuple -/
def SqB (K : PySem.W.Frag) (b : Bool) (H : Hp) (a : Addr) (xs : List V) : Prop := if b = true then SqL K H a xs else SqT K H a xs
theorem SqB.list {K : PySem.W.Frag} {H : Hp} {a : Addr} {xs : List V} (h : SqB K true H a xs) : SqL K H a xs := h
theorem SqB.tup {K : PySem.W.Frag} {H : Hp} {a : Addr} {xs : List V} (h : SqB K false H a xs) : SqT K H a xs := h
theorem SqB.or {K : PySem.W.Frag} {H : Hp} {a : Addr} {xs : List V} : ∀ {b : Bool}, SqB K b H a xs → SqL K H a xs ∨ SqT K H a xs
  | true, h => .inl h
  | false, h => .inr h

/-- iter(xs) -/
def rIterQ (K : PySem.W.Frag) : List V → Hp → VK → Prop := fun xs H Q => ∃ (b : Bool) (l : Addr) (zs : List V), xs = [.ref l] ∧ SqB K b H l zs ∧ ∀ it, H it = none → Q (.ref it) (upd H it (ItQ b l it 0))
theorem call_iterQ : CallR X (.builtin "iter") (rIterQ X.K) := by
  intro pins s σ H xs us Q I r h
  obtain ⟨b, l, zs, rfl, hq, q⟩ := h
  obtain rfl := Vals.ref1 r
  refine Calls.call_function_entry (by decide +kernel) (by decide +kernel) PySem.W.kdk_entry_iter (PySem.W.kdk_args_iter _) ?_
  unfold Builtin.«iter»
  refine wpAny_bind (m := someArgs "iter" 1 2 _) (wpAny_of_eq (a := [Value.ref l]) (by first | rfl | kernel_rfl!) ?_)
  show wpAny _ _ (pyIter (.ref l) >>= _) _ _ _
  cases b with
  | true =>
    obtain ⟨its, rv, pl, hz⟩ := I.list hq.list
    refine wpAny_bind (wpAny_pyIter_list pl.isList ?_)
    exact wpAny_pure ⟨_, rfl, .ref s.heap.objs.size, _, I.laid (t' := s.toks) (fun b u e => Heap.get?_push_of_some _ e) (Nat.le_refl _) (itQ_ok (b := true) (show Heap.IsListIter _ _ l 0 from ⟨_, Heap.get?_push_size _ rfl, rfl, rfl⟩)), rfl, q _ (I.hok.fresh (Nat.le_refl _))⟩
  | false =>
    obtain ⟨its, rv, pl, hz⟩ := I.tuple hq.tup
    refine wpAny_bind (wpAny_pyIter_tuple pl ?_)
    exact wpAny_pure ⟨_, rfl, .ref s.heap.objs.size, _, I.laid (t' := s.toks) (fun b u e => Heap.get?_push_of_some _ e) (Nat.le_refl _) (itQ_ok (b := false) (show Heap.IsTupleIter _ _ l 0 from ⟨_, Heap.get?_push_size _ rfl, rfl, rfl⟩)), rfl, q _ (I.hok.fresh (Nat.le_refl _))⟩

/-- pyNext of such an iterator -/
theorem next_itQ {A : Around} {E : Value → Shared → Prop} {zs : List V} {Q : Option Value → Shared → Prop} (hh : A.handled = none) (I : Inv X pins σ H s) (hit : H it = some (ItQ b l it i)) (hl : SqB X.K b H l zs)
    (hS : ∀ x u s', zs[i]? = some x → RelV x u → Inv X pins σ (upd H it (ItQ b l it (i + 1))) s' → Q (some u) s') (hN : ∀ s', zs[i]? = none → Inv X pins σ (upd H it (ItX it)) s' → Q none s') :
    wpAny (model X.prog X.w) A (pyNext (.ref it)) Q E s := by
  have mu : Mut (H it) := by rw [hit]; exact True.intro
  have ii := itQ_get I hit
  cases b with
  | true =>
    obtain ⟨its, rv, pl, hz⟩ := I.list hl.list
    cases hx : zs[i]? with
    | some x =>
      obtain ⟨u, hu, ru⟩ := rv.get hx
      refine wpAny_pyNext_list_item (show s.heap.IsListIter it l i from ii) pl.isList (x := u) (by rw [List.getElem?_toArray]; exact hu) fun h' e' sb => ?_
      exact hS x u _ hx ru (I.write (x := it) (e := it) (t' := s.toks) mu (.inl rfl) (fun b o nb z => (sb.2 b nb).trans z) (isIt_get (b := true) e') (itQ_ok (b := true) e'))
    | none =>
      refine next_list_end hh (show s.heap.IsListIter it l i from ii) pl.isList (by rw [List.getElem?_toArray]; exact rv.none_of hx) fun h' sb ex => ?_
      exact hN _ hx (I.write (x := it) (e := it) (t' := s.toks) mu (.inl rfl) (fun b o nb z => sb b o nb z) ex (itX_ok ex))
  | false =>
    obtain ⟨its, rv, pl, hz⟩ := I.tuple hl.tup
    cases hx : zs[i]? with
    | some x =>
      obtain ⟨u, hu, ru⟩ := rv.get hx
      refine wpAny_pyNext_tuple_item (show s.heap.IsTupleIter it l i from ii) pl (x := u) (by rw [List.getElem?_toArray]; exact hu) fun h' e' sb => ?_
      exact hS x u _ hx ru (I.write (x := it) (e := it) (t' := s.toks) mu (.inl rfl) (fun b o nb z => (sb.2 b nb).trans z) (isIt_get (b := false) e') (itQ_ok (b := false) e'))
    | none =>
      refine next_tuple_end hh (show s.heap.IsTupleIter it l i from ii) pl (by rw [List.getElem?_toArray]; exact rv.none_of hx) fun h' sb ex => ?_
      exact hN _ hx (I.write (x := it) (e := it) (t' := s.toks) mu (.inl rfl) (fun b o nb z => sb b o nb z) ex (itX_ok ex))
/-- x in it -/
theorem ci_loop {A : Around} {R : Result → Shared → Prop} {x : V} {v : Value} {zs : List V} (hh : A.handled = none) (rx : RelV x v) (fx : flatV x = true) (fz : zs.all flatV = true) (hne : l ≠ it) :
    ∀ (k i : Nat) (H : Hp) (s : Shared), zs.length + 1 - i = k → Inv X pins σ H s → H it = some (ItQ b l it i) → SqB X.K b H l zs →
    (∀ j s', i ≤ j → (∃ z, zs[j]? = some z ∧ eqV z x = true) → (∀ m z, i ≤ m → m < j → zs[m]? = some z → eqV z x = false) → Inv X pins σ (upd H it (ItQ b l it (j + 1))) s' → R (.ok (.ret (.bool true))) s') →
    (∀ s', (∀ m z, i ≤ m → zs[m]? = some z → eqV z x = false) → Inv X pins σ (upd H it (ItX it)) s' → R (.ok (.ret (.bool false))) s') →
    codeAny (model X.prog X.w) A (.builtin "proto.contains_iter" ⟨[.ref it, v], []⟩) R s := by
  intro k
  induction k with
  | zero =>
    intro i H s hk I hi hl hT hF
    refine codeAny_builtin entry_ci ?_
    rw [Around.under_plainId plain_ci]
    unfold Builtin.«proto.contains_iter»
    refine wpAny_bind (next_itQ (by exact hh) I hi hl (fun z u s' hz _ _ => ?_) fun s' hz I' => ?_)
    · have := (List.getElem?_eq_some_iff.mp hz).1
      omega
    · refine wpAny_bind (wpAny_rule (wpAny_pure ?_))
      refine hF s' (fun m z hm e => ?_) I'
      have := (List.getElem?_eq_some_iff.mp e).1
      omega
  | succ k ih =>
    intro i H s hk I hi hl hT hF
    refine codeAny_builtin entry_ci ?_
    rw [Around.under_plainId plain_ci]
    unfold Builtin.«proto.contains_iter»
    refine wpAny_bind (next_itQ (by exact hh) I hi hl (fun z u s' hz rz I' => ?_) fun s' hz I' => ?_)
    · have hlt := (List.getElem?_eq_some_iff.mp hz).1
      have fzz : flatV z = true := List.all_eq_true.mp fz z (List.mem_of_getElem? hz)
      refine wpAny_bind (eqAt_V rz rx fzz fx _ _ _ _ ?_)
      cases hb : eqV z x with
      | true =>
        refine wpAny_bind (wpAny_rule (wpAny_pure ?_))
        exact hT i s' (Nat.le_refl _) ⟨z, hz, hb⟩ (fun m z' h1 h2 _ => absurd h2 (Nat.not_lt.mpr h1)) I'
      | false =>
        refine wpAny_pure ⟨plainId_quiet plain_ci _, ?_⟩
        have hl' : SqB X.K b (upd H it (ItQ b l it (i + 1))) l zs := by
          have e : (upd H it (ItQ b l it (i + 1))) l = H l := upd_ne hne
          cases b with
          | true =>
            have q : SqL X.K H l zs := hl
            show SqL X.K _ l zs
            unfold SqL Rd at q ⊢
            simp only [e]
            exact q
          | false =>
            have q : SqT X.K H l zs := hl
            show SqT X.K _ l zs
            unfold SqT Rd at q ⊢
            simp only [e]
            exact q
        refine ih (i + 1) _ s' (by omega) I' upd_same hl' (fun j s2 hj hz2 hm I2 => ?_) fun s2 hm I2 => ?_
        · rw [upd_upd] at I2
          refine hT j s2 (by omega) hz2 (fun m z' h1 h2 e => ?_) I2
          by_cases hmi : m = i
          · subst hmi
            rw [hz] at e
            cases e
            exact hb
          · exact hm m z' (by omega) h2 e
        · rw [upd_upd] at I2
          refine hF s2 (fun m z' h1 e => ?_) I2
          by_cases hmi : m = i
          · subst hmi
            rw [hz] at e
            cases e
            exact hb
          · exact hm m z' (by omega) e
    · refine wpAny_bind (wpAny_rule (wpAny_pure ?_))
      refine hF s' (fun m z hm e => ?_) I'
      have h1 := (List.getElem?_eq_some_iff.mp e).1
      have h2 := List.getElem?_eq_none_iff.mp hz
      omega
/-- the event e in the iterator it over zs, from the place i on -/
def rInIt (K : PySem.W.Frag) : R2 := fun x y H Q => ∃ (it l : Addr) (b : Bool) (i : Nat) (zs : List V), y = .ref it ∧ H it = some (ItQ b l it i) ∧ SqB K b H l zs ∧ l ≠ it ∧ flatV x = true ∧ zs.all flatV = true ∧
  (∀ j, i ≤ j → (∃ z, zs[j]? = some z ∧ eqV z x = true) → (∀ m z, i ≤ m → m < j → zs[m]? = some z → eqV z x = false) → Q (.bl true) (upd H it (ItQ b l it (j + 1)))) ∧
  ((∀ m z, i ≤ m → zs[m]? = some z → eqV z x = false) → Q (.bl false) (upd H it (ItX it)))
theorem contains_itT {T : String} {A : Around} {E : Value → Shared → Prop} {Q : Bool → Shared → Prop} {v : Value} (hT : s.TypeIs (.ref it) T) (hno : typeLookup (.type T) "__contains__" = pure none)
    (hit : ∀ {R E : Value → Shared → Prop} {A : Around}, R (.ref it) s → wpAny (model X.prog X.w) A (pyIter (.ref it)) R E s)
    (hrun : wpAny (model X.prog X.w) A (runValue (.builtin "proto.contains_iter" ⟨[.ref it, v], []⟩)) (fun r s' => ∃ z, r = .bool z ∧ Q z s') E s) :
    wpAny (model X.prog X.w) A (contains (.ref it) v) Q E s := by
  unfold contains
  refine wpAny_holding ?_
  rw [stdlibNamesSay?_of_typeIs hT]
  refine wpAny_bind (wpAny_specialOf hT hno ?_)
  refine wpAny_ite_split (fun hab => absurd hab (by decide)) (fun _ => ?_)
  refine wpAny_bind (wpAny_callSpecialUnlessNone?_none hT hno ?_)
  refine wpAny_bind (wpAny_rule ?_)
  refine wpAny_bind (wpAny_tryCatch (hit ?_))
  refine wpAny_bind (wpAny_mono hrun (fun r s' hr => ?_) fun _ _ z => z)
  obtain ⟨z, rfl, q⟩ := hr
  exact wpAny_pure q
theorem op_in_it (hc : X.calm = true) : OpR X (compareOp .In) (rInIt X.K) := by
  intro pins s σ H x y v u Q I rx ry h
  obtain ⟨it, l, b, i, zs, rfl, hi, hl, hne, fx, fz, qT, qF⟩ := h
  cases ry
  have ii := itQ_get I hi
  have hh : X.A.handled = none := I.ok.hd hc
  show wpAny _ _ ((contains (Value.ref it) v) >>= fun z => pure (Value.bool z)) _ _ s
  have run : wpAny (model X.prog X.w) X.A (runValue (.builtin "proto.contains_iter" ⟨[.ref it, v], []⟩)) (fun r s' => ∃ z, r = .bool z ∧ wpAny (model X.prog X.w) X.A (pure (Value.bool z)) (EP X pins σ Q) X.xe s') X.xe s := by
    refine wpAny_runValue (ci_loop (X := X) (b := b) (l := l) (zs := zs) hh rx fx fz hne _ i H s rfl I hi hl (fun j s' hj hz hm I' => ?_) fun s' hm I' => ?_)
    · exact ⟨true, rfl, wpAny_pure ⟨.bl true, _, I', rfl, qT j hj hz hm⟩⟩
    · exact ⟨false, rfl, wpAny_pure ⟨.bl false, _, I', rfl, qF hm⟩⟩
  cases b with
  | true => exact wpAny_bind (contains_itT (T := "list_iterator") (show s.heap.IsListIter it l i from ii).typeIs no_contains_l (fun q => wpAny_pyIter_listiter (show s.heap.IsListIter it l i from ii) q) run)
  | false => exact wpAny_bind (contains_itT (T := "tuple_iterator") (show s.heap.IsTupleIter it l i from ii).typeIs no_contains_t (fun q => wpAny_pyIter_tupleiter (show s.heap.IsTupleIter it l i from ii) q) run)
end
end IqX
namespace RvT
open PySem PySem.Spec PyProof.Rows L2 HT
section
variable {prog : Program} {w : World} {A : Around} {E : Value → Shared → Prop} {s : Shared}
theorem sliceApplied_rev {sl : Addr} {vl vu vs : Value} {n : Nat} {Q : Int × Int × Nat → Shared → Prop} (hs : s.heap.IsSliceOf sl vl vu vs) (pl : IsPart vl none) (pu : IsPart vu none) (ps : IsPart vs (some (-1)))
    (h : Q ((n : Int) - 1, -1, n) s) : wpAny (model prog w) A (Builtin.Slice.sliceApplied (.ref sl) (pure (n : Int))) Q E s := by
  obtain ⟨os, hos, hcs, hds⟩ := id hs
  unfold Builtin.Slice.sliceApplied Builtin.Slice.sliceFields
  refine wpAny_bind (wpAny_bind (wpAny_field hos hds (x := vl) rfl (wpAny_bind (wpAny_field hos hds (x := vu) rfl (wpAny_bind (wpAny_field hos hds (x := vs) rfl (wpAny_pure ?_)))))))
  refine wpAny_bind (slicePart_ ps ?_)
  show wpAny _ _ (if ((-1 : Int) == 0) = true then _ else _) _ _ s
  rw [if_neg (by decide)]
  refine wpAny_bind (slicePart_ pl (wpAny_bind (slicePart_ pu (wpAny_bind (wpAny_pure ?_)))))
  show wpAny _ _ (pure (((n : Int) - 1), (-1 : Int), Builtin.Slice.slicePlaces ((n : Int) - 1) (-1) (-1))) _ _ s
  have e : Builtin.Slice.slicePlaces ((n : Int) - 1) (-1) (-1) = n := by
    unfold Builtin.Slice.slicePlaces
    have h1 : ¬ ((-1 : Int) > 0) := by omega
    simp only [h1, if_false, Int.neg_neg, Int.ediv_one]
    split <;> omega
  rw [e]
  exact wpAny_pure h
theorem fm_congr {α β : Type} {f g : α → Option β} : ∀ {l : List α}, (∀ x, x ∈ l → f x = g x) → l.filterMap f = l.filterMap g
  | [], _ => rfl
  | x :: r, h => by
    have h1 := h x List.mem_cons_self
    have h2 := fm_congr (f := f) (g := g) (l := r) fun y hy => h y (List.mem_cons_of_mem _ hy)
    rw [List.filterMap_cons, List.filterMap_cons, h1, h2]
theorem pick_rev (xs : Array Value) : ((List.range xs.size).filterMap fun (m : Nat) => xs[(((xs.size : Nat) : Int) - 1 + (m : Int) * (-1)).toNat]?).toArray = xs.toList.reverse.toArray := by
  congr 1
  have e : ∀ m, m ∈ List.range xs.size → xs[(((xs.size : Nat) : Int) - 1 + (m : Int) * (-1)).toNat]? = some (xs.toList.reverse.getD m default) := by
    intro m hm
    have hlt : m < xs.size := List.mem_range.mp hm
    have e1 : (((xs.size : Nat) : Int) - 1 + (m : Int) * (-1)).toNat = xs.size - 1 - m := by omega
    rw [e1, List.getD_eq_getElem?_getD, List.getElem?_reverse (by simpa using hlt)]
    have h2 : xs.size - 1 - m < xs.size := by omega
    rw [Array.getElem?_eq_getElem h2]
    simp [Array.length_toList, Array.getElem?_toList, h2]
  have e2 : (List.range xs.size).filterMap (fun (m : Nat) => xs[(((xs.size : Nat) : Int) - 1 + (m : Int) * (-1)).toNat]?) = (List.range xs.size).map (fun m => xs.toList.reverse.getD m default) := by
    rw [← List.filterMap_eq_map]
    exact fm_congr e
  rw [e2]
  apply List.ext_getElem
  · simp
  · intro i h1 h2
    simp at h1 h2 ⊢
    rw [List.getElem?_reverse (by simpa using h2)]
    simp
    have h3 : xs.size - 1 - i < xs.size := by omega
    simp [Array.getElem?_eq_getElem h3]
theorem getItem_tuple_rev {t sl : Addr} {items : Array Value} {vl vu vs : Value} {Q : Value → Shared → Prop} (ht : IsTup s.heap t items) (hs : s.heap.IsSliceOf sl vl vu vs) (pl : IsPart vl none) (pu : IsPart vu none) (ps : IsPart vs (some (-1)))
    (h : Q (.ref s.heap.objs.size) { s with heap := s.heap.push { cls := .type "tuple", data := .seq items.toList.reverse.toArray } })
    (hsz : items.size ≤ sizeLine) : wpAny (model prog w) A (getItem (.ref t) (.ref sl)) Q E s := by
  have htake : sizeOk (.seq items.toList.reverse.toArray) := by
    show items.toList.reverse.toArray.size ≤ sizeLine
    rw [List.size_toArray, List.length_reverse, Array.length_toList]
    exact hsz
  obtain ⟨os, hos, hcs, hds⟩ := id hs
  have hTs : s.TypeIs (.ref sl) "slice" := ⟨os, hos, hcs⟩
  unfold getItem
  try with_reducible refine wpAny_holding ?_
  first | refine wpAny_bind (wpAny_pure ?_) | skip
  refine wpAny_bind (wpAny_sequenceKey ht.typeIs (by decide) ?_)
  refine wpAny_bind (wpAny_callSpecial?_slot (name := Str.ofString "__getitem__") ht.typeIs PyProof.Rows.slot_tuple_getitem
    (wpAny_call_entry PyProof.Rows.slot_tuple_getitem ht.typeIs entry_tuple_getitem ?_ (args_tuple_getitem _ _)))
  show wpAny _ _ (Builtin.Tuple.tupleItemsOf (.ref t) >>= _) _ _ s
  refine wpAny_bind (tupleItemsOf_ ht ?_)
  refine wpAny_bind (wpAny_typeOf hTs ?_)
  rw [if_pos (by decide)]
  refine wpAny_bind (sliceApplied_rev hs pl pu ps ?_)
  have hno : ¬ ((((items.size : Nat) : Int) - 1 == 0 && (-1 : Int) == 1 && items.size == items.size) = true) := by
    intro q
    rw [Bool.and_eq_true, Bool.and_eq_true] at q
    exact absurd q.1.2 (by decide)
  show wpAny _ _ (if (((items.size : Nat) : Int) - 1 == 0 && (-1 : Int) == 1 && items.size == items.size) = true then _ else _) _ _ s
  rw [if_neg hno, pick_rev]
  first
    | exact wpAny_bind (m := Builtin.Tuple.tupleExact _) (wpAny_newObj_type (wpAny_pure ⟨_, rfl, wpAny_pure h⟩) htake)
    | exact wpAny_bind (m := Builtin.Tuple.tupleExact _) (wpAny_newObj_type (wpAny_bind (wpAny_pure (wpAny_pure ⟨_, rfl, wpAny_pure h⟩))) htake)
    | exact wpAny_bind (wpAny_bind (m := Builtin.Tuple.tupleExact _) (wpAny_newObj_type (wpAny_pure (wpAny_pure ⟨_, rfl, wpAny_pure h⟩)) htake))
    | exact wpAny_bind (wpAny_bind (m := Builtin.Tuple.tupleExact _) (wpAny_newObj_type (wpAny_pure ⟨_, rfl, wpAny_pure h⟩) htake))
end
section
variable {X : Cx}
/-- xs[::-1], a list or a tuple -/
def tRevS (K : PySem.W.Frag) (te : TE) : TE := fun σ H Q => te σ H fun x H1 => ∃ (b : Bool) (a : Addr) (xs : List V), x = .ref a ∧ IqX.SqB K b H1 a xs ∧ ∀ p, H1 p = none → Q (.ref p) (upd H1 p (if b = true then .lst xs.reverse else .tup xs.reverse))
theorem pe_revS {e : Expr} {te : TE} {k : Nat} {p1 p2 p3 pos : Pos} (he : PE X e te) : PE X (.Subscript e (.Slice none none (some (.UnaryOp .USub (.Constant (.int 1) k p1) p2)) p3) pos) (tRevS X.K te) := by
  refine ⟨fun pins s σ H Q I h => ?_⟩
  refine Subscript_ (thn (he.run pins s σ H _ I h) fun v s1 ⟨x, H1, I1, r1, q1⟩ => ?_)
  obtain ⟨b, a, xs, ex, hx, q⟩ := q1
  subst ex
  cases r1
  have hst : PO X (some (.UnaryOp .USub (.Constant (.int 1) k p1) p2)) (tPart (tUn (rU fun i => .int (-i)) (tC (.int 1)))) := po_some (pe_un un_neg pe_int)
  refine wpAny_Slice (thn (po_none.run pins s1 σ H1 (fun o H2 => o = none ∧ H2 = H1) I1 ⟨rfl, rfl⟩) fun vl s2 ⟨l, H2, I2, pl, el, e2⟩ => ?_)
  subst el e2
  refine thn (po_none.run pins s2 σ H2 (fun o H3 => o = none ∧ H3 = H2) I2 ⟨rfl, rfl⟩) fun vu s3 ⟨u, H3, I3, pu, eu, e3⟩ => ?_
  subst eu e3
  refine thn (hst.run pins s3 σ H3 (fun o H4 => o = some (-1) ∧ H4 = H3) I3 ⟨1, rfl, -1, rfl, rfl, rfl⟩) fun vs s4 ⟨o, H4, I4, ps, eo, e4⟩ => ?_
  subst eo e4
  have I5 : Inv X pins σ H4 { s4 with heap := s4.heap.push { cls := .type "slice", data := .fields #[vl, vu, vs] } } := I4.kept (t' := s4.toks) fun b ob q => Heap.get?_push_of_some _ q
  show wpAny (model X.prog X.w) X.A (subscriptTail e (.Slice none none (some (.UnaryOp .USub (.Constant (.int 1) k p1) p2)) p3) (.ref a) (.ref s4.heap.objs.size)) (EP X pins σ Q) X.xe { s4 with heap := s4.heap.push { cls := .type "slice", data := .fields #[vl, vu, vs] } }
  cases b with
  | true =>
    obtain ⟨its, r, ht, hz⟩ := I5.list hx.list
    have hlen := r.length
    refine tail_any (ops := [.ref a, .ref s4.heap.objs.size]) ht.isList.typeIs (PySem.slot_list_getitem.lookup) ?_ (by with_unfolding_all rfl)
    refine wpAny_getItem_list_slice ht.isList (Heap.IsSliceOf.new _ vl vu vs) pl pu ps (by decide) ?_ (by rw [List.size_toArray]; omega)
    rw [PySem.W.krv_pick]
    refine ⟨.ref _, _, I5.laid (t' := s4.toks) (o := .lst xs.reverse) (fun b ob q => Heap.get?_push_of_some _ q) (Nat.le_refl _) ?_, rfl, q _ (I5.hok.fresh (Nat.le_refl _))⟩
    exact ⟨by rw [List.length_reverse]; exact hz, _, 0, r.reverse, Heap.get?_push_size _ rfl⟩
  | false =>
    obtain ⟨its, r, ht, hz⟩ := I5.tuple hx.tup
    have hlen := r.length
    refine tail_any (ops := [.ref a, .ref s4.heap.objs.size]) ht.typeIs (PyProof.Rows.slot_tuple_getitem.lookup) ?_ (by with_unfolding_all rfl)
    refine getItem_tuple_rev ht (Heap.IsSliceOf.new _ vl vu vs) pl pu ps ?_ (by rw [List.size_toArray]; omega)
    refine ⟨.ref _, _, I5.laid (t' := s4.toks) (o := .tup xs.reverse) (fun b ob q => Heap.get?_push_of_some _ q) (Nat.le_refl _) ?_, rfl, q _ (I5.hok.fresh (Nat.le_refl _))⟩
    exact ⟨by rw [List.length_reverse]; exact hz, _, r.reverse, ⟨_, Heap.get?_push_size _ rfl, rfl, _, rfl⟩⟩
/-- for x in xs, a list or a tuple -/
def iSeq (K : PySem.W.Frag) (tl : TE) : TI := fun σ H R => tl σ H fun x H1 => ∃ (b : Bool) (a : Addr), x = .ref a ∧ (∃ xs, IqX.SqB K b H1 a xs) ∧ R (if b = true then Itl K a else Itt K a) H1
theorem pi_seq {tg l : Expr} {tl : TE} (hl : PE X l tl) : PI X tg l (iSeq X.K tl) := by
  refine ⟨fun pins s σ H R I h => ?_⟩
  refine thn (hl.run pins s σ H _ I h) fun v s1 ⟨x, H1, I1, r1, q1⟩ => ?_
  obtain ⟨b, a, e, ⟨xs, hq⟩, q⟩ := q1
  subst e
  cases r1
  cases b with
  | true =>
    obtain ⟨its, rv, p, hz⟩ := I1.list hq.list
    refine wpAny_pyIter_list p.isList ?_
    refine ⟨s1.heap.objs.size, [s1.heap.objs.size], _, _, H1, rfl, I1.kept (t' := s1.toks) fun b o e => Heap.get?_push_of_some _ e, turn_list a _, ⟨_, Heap.get?_push_size _ rfl, rfl, rfl⟩, fun b hb => ?_, q⟩
    have e : b = s1.heap.objs.size := by simpa using hb
    subst e
    exact I1.fpOk (Nat.le_refl _) (I1.hok.fresh (Nat.le_refl _))
  | false =>
    obtain ⟨its, rv, p, hz⟩ := I1.tuple hq.tup
    refine wpAny_pyIter_tuple (show s1.heap.IsTuple a its.toArray from p) ?_
    refine ⟨s1.heap.objs.size, [s1.heap.objs.size], _, _, H1, rfl, I1.kept (t' := s1.toks) fun b o e => Heap.get?_push_of_some _ e, turn_tuple a _, ⟨_, Heap.get?_push_size _ rfl, rfl, rfl⟩, fun b hb => ?_, q⟩
    have e : b = s1.heap.objs.size := by simpa using hb
    subst e
    exact I1.fpOk (Nat.le_refl _) (I1.hok.fresh (Nat.le_refl _))
theorem for_seq {K : PySem.W.Frag} {b : Bool} {a : Addr} {xs : List V} {g : TG} {tb : TS} {D : Ends} {σ : L2.St} {H : Hp} (Pv : Nat → L2.St → Hp → Prop) (h0 : Pv 0 σ H) (hl : ∀ i σ H, i ≤ xs.length → Pv i σ H → IqX.SqB K b H a xs)
    (hs : ∀ i x σ H, xs[i]? = some x → Pv i σ H → g x σ H fun σ2 H2 => tb { D with nx := Pv (i + 1), ct := Pv (i + 1), bk := D.nx } σ2 H2) (hd : ∀ σ H, Pv xs.length σ H → D.nx σ H) :
    ∃ W : Nat → Nat → L2.St → Hp → Prop, (∃ m, W 0 m σ H) ∧ ∀ i m σ H, W i m σ H →
      (((if b = true then Itl K a else Itt K a)).stop i H ∧ D.nx σ H) ∨ (((if b = true then Itl K a else Itt K a)).go i H ∧ ∃ N : L2.St → Hp → Prop, (∀ σ' H', N σ' H' → ∃ m', m' < m ∧ W (i + 1) m' σ' H') ∧ ∀ x H', ((if b = true then Itl K a else Itt K a)).yld i H x H' → g x σ H' fun σ2 H2 => tb { D with nx := N, ct := N, bk := D.nx } σ2 H2) := by
  cases b with
  | true => exact for_list (K := K) (a := a) (xs := xs) Pv h0 hl hs hd
  | false => exact for_tup (K := K) (a := a) (xs := xs) Pv h0 hl hs hd
theorem lc_seq {K : PySem.W.Frag} {b : Bool} {a : Addr} {xs : List V} {g : TG} {tt : TT} {te : TE} {vs : List Nat} {σ : L2.St} {H1 : Hp} {D : Addr} {Qd : Hp → Prop} (Pv : Nat → Hp → Prop) (h0 : Pv 0 (upd H1 D (.lst []))) (hl : ∀ i H, i ≤ xs.length → Pv i H → IqX.SqB K b H a xs)
    (hs : ∀ i x H, xs[i]? = some x → Pv i H → g x (wipe σ vs) H fun σ2 H2 => wipe σ2 vs = wipe σ vs ∧ tt σ2 H2 fun b H3 =>
      if b = true then te σ2 H3 fun y H4 => ∃ acc, H4 D = some (.lst acc) ∧ acc.length < sizeLine ∧ Pv (i + 1) (upd H4 D (.lst (acc ++ [y]))) else Pv (i + 1) H3) (hd : ∀ H, Pv xs.length H → Qd H) :
    ∃ W : Nat → Nat → Hp → Prop, (∃ m, W 0 m (upd H1 D (.lst []))) ∧ ∀ i m H, W i m H →
      ((if b = true then Itl K a else Itt K a).stop i H ∧ Qd H) ∨ ((if b = true then Itl K a else Itt K a).go i H ∧ ∃ Nx : Hp → Prop, (∀ H', Nx H' → ∃ m', m' < m ∧ W (i + 1) m' H') ∧ ∀ x H', (if b = true then Itl K a else Itt K a).yld i H x H' → g x (wipe σ vs) H' fun σ2 H2 => wipe σ2 vs = wipe σ vs ∧ tt σ2 H2 fun b H3 =>
        if b = true then te σ2 H3 fun y H4 => ∃ acc, H4 D = some (.lst acc) ∧ acc.length < sizeLine ∧ Nx (upd H4 D (.lst (acc ++ [y]))) else Nx H3) := by
  cases b with
  | true => exact lc_list (K := K) (a := a) (xs := xs) Pv h0 hl hs hd
  | false => exact lc_tup (K := K) (a := a) (xs := xs) Pv h0 hl hs hd
end
end RvT
namespace LwB
open PySem PySem.Spec PyProof.Rows L2 IqX RvT
/-! ### frames: all but the box stays -/
def Fr (b : Addr) (H H' : Hp) : Prop := ∀ a o, H a = some o → a ≠ b → H' a = some o
theorem Fr.refl (b : Addr) (H : Hp) : Fr b H H := fun _ _ h _ => h
theorem Fr.trans {b : Addr} {H H1 H2 : Hp} (x : Fr b H H1) (y : Fr b H1 H2) : Fr b H H2 := fun a o h n => y a o (x a o h n) n
theorem Fr.same {b : Addr} {H H' : Hp} (x : Same H H') : Fr b H H' := fun a o h _ => x a o h
theorem same_new {H : Hp} {p : Addr} {o : HO} (h : H p = none) : Same H (upd H p o) := fun b x e => by
  rw [upd_ne (ne_of_none e h)]
  exact e
theorem Fr.new {b : Addr} {H : Hp} {p : Addr} {o : HO} (h : H p = none) : Fr b H (upd H p o) := Fr.same (same_new h)
theorem Fr.put {b : Addr} {H : Hp} {o : HO} : Fr b H (upd H b o) := fun a x e n => by
  rw [upd_ne n]
  exact e
/-- a store to a thing that was not there at first -/
theorem Fr.young {b : Addr} {H H1 : Hp} {p : Addr} {o : HO} (x : Fr b H H1) (h : H p = none) : Fr b H (upd H1 p o) := fun a u e n => by
  rw [upd_ne (ne_of_none e h)]
  exact x a u e n
theorem Same.young {H H1 : Hp} {p : Addr} {o : HO} (x : Same H H1) (h : H p = none) : Same H (upd H1 p o) := fun a u e => by
  rw [upd_ne (ne_of_none e h)]
  exact x a u e
theorem Fr.free {b : Addr} {H H' : Hp} (x : Fr b H H') {l : Addr} (n : l ≠ b) (h : H' l = none) : H l = none := by
  cases q : H l with
  | none => rfl
  | some o =>
    rw [x l o q n] at h
    cases h
theorem seqL_of {K : PySem.W.Frag} {H H' : Hp} {a : Addr} {xs : List V} (e : ∀ o, H a = some o → H' a = some o) (h : SqL K H a xs) : SqL K H' a xs := by
  rcases h with (h | ⟨o, h⟩) | h
  · exact .inl (.inl (e _ h))
  · exact .inl (.inr ⟨o, e _ h⟩)
  · exact .inr h
theorem seqT_of {K : PySem.W.Frag} {H H' : Hp} {a : Addr} {xs : List V} (e : ∀ o, H a = some o → H' a = some o) (h : SqT K H a xs) : SqT K H' a xs := by
  rcases h with (h | ⟨o, h⟩) | h
  · exact .inl (.inl (e _ h))
  · exact .inl (.inr ⟨o, e _ h⟩)
  · exact .inr h
theorem seqB_of {K : PySem.W.Frag} {b : Bool} {H H' : Hp} {a : Addr} {xs : List V} (e : ∀ o, H a = some o → H' a = some o) (h : SqB K b H a xs) : SqB K b H' a xs := by
  cases b with
  | true => exact seqL_of e h
  | false => exact seqT_of e h
theorem _root_.L2.Same.sqB {K : PySem.W.Frag} {b : Bool} {H H' : Hp} {a : Addr} {xs : List V} (s : Same H H') (h : SqB K b H a xs) : SqB K b H' a xs := seqB_of (fun o e => s a o e) h
theorem _root_.L2.Same.sqT {K : PySem.W.Frag} {H H' : Hp} {a : Addr} {xs : List V} (s : Same H H') (h : SqT K H a xs) : SqT K H' a xs := seqT_of (fun o e => s a o e) h
theorem Fr.sqB {K : PySem.W.Frag} {b : Bool} {c : Addr} {H H' : Hp} {a : Addr} {xs : List V} (s : Fr c H H') (n : a ≠ c) (h : SqB K b H a xs) : SqB K b H' a xs := seqB_of (fun o e => s a o e n) h
theorem Fr.sqL {K : PySem.W.Frag} {c : Addr} {H H' : Hp} {a : Addr} {xs : List V} (s : Fr c H H') (n : a ≠ c) (h : SqL K H a xs) : SqL K H' a xs := seqL_of (fun o e => s a o e n) h
theorem Fr.sqT {K : PySem.W.Frag} {c : Addr} {H H' : Hp} {a : Addr} {xs : List V} (s : Fr c H H') (n : a ≠ c) (h : SqT K H a xs) : SqT K H' a xs := seqT_of (fun o e => s a o e n) h
theorem sqL_lst {K : PySem.W.Frag} {H : Hp} {a : Addr} {xs : List V} (h : H a = some (.lst xs)) : SqB K true H a xs := SqL.of h
theorem sqT_tup {K : PySem.W.Frag} {H : Hp} {a : Addr} {xs : List V} (h : H a = some (.tup xs)) : SqB K false H a xs := SqT.of h

/-- a list (b) or a tuple that stands in H -/
def Sq (b : Bool) (H : Hp) (a : Addr) (xs : List V) : Prop := Rd H a (if b = true then .lst xs else .tup xs)
theorem Sq.there {b : Bool} {H : Hp} {a : Addr} {xs : List V} (h : Sq b H a xs) : ∃ o, H a = some o := by
  rcases h with h | ⟨o, h⟩
  · exact ⟨_, h⟩
  · exact ⟨_, h⟩
theorem Sq.ne {b : Bool} {H : Hp} {a p : Addr} {xs : List V} (h : Sq b H a xs) (n : H p = none) : a ≠ p := by
  obtain ⟨o, e⟩ := h.there
  exact ne_of_none e n
theorem Sq.B {K : PySem.W.Frag} {b : Bool} {H : Hp} {a : Addr} {xs : List V} (h : Sq b H a xs) : SqB K b H a xs := by
  cases b with
  | true => exact .inl h
  | false => exact .inl h
theorem Sq.L {K : PySem.W.Frag} {H : Hp} {a : Addr} {xs : List V} (h : Sq true H a xs) : SqL K H a xs := .inl h
theorem Sq.T {K : PySem.W.Frag} {H : Hp} {a : Addr} {xs : List V} (h : Sq false H a xs) : SqT K H a xs := .inl h
theorem Sq.LT {K : PySem.W.Frag} {b : Bool} {H : Hp} {a : Addr} {xs : List V} (h : Sq b H a xs) : SqL K H a xs ∨ SqT K H a xs := by
  cases b with
  | true => exact .inl (.inl h)
  | false => exact .inr (.inl h)
theorem Sq.of {b : Bool} {H : Hp} {a : Addr} {xs : List V} (h : H a = Option.some (if b = true then HO.lst xs else HO.tup xs)) : Sq b H a xs := .inl h
theorem Sq.lst {H : Hp} {a : Addr} {xs : List V} (h : H a = some (HO.lst xs)) : Sq true H a xs := .inl h
theorem Sq.tup {H : Hp} {a : Addr} {xs : List V} (h : H a = some (HO.tup xs)) : Sq false H a xs := .inl h
theorem Sq.put {b : Bool} {H : Hp} {a : Addr} {xs : List V} : Sq b (L2.upd H a (if b = true then HO.lst xs else HO.tup xs)) a xs := .inl upd_same
theorem Sq.mv {b : Bool} {H H' : Hp} {a : Addr} {xs : List V} (e : ∀ o, H a = some o → H' a = some o) (h : Sq b H a xs) : Sq b H' a xs := by
  rcases h with h | ⟨o, h⟩
  · exact .inl (e _ h)
  · exact .inr ⟨o, e _ h⟩
theorem _root_.L2.Same.sq {b : Bool} {H H' : Hp} {a : Addr} {xs : List V} (s : Same H H') (h : Sq b H a xs) : Sq b H' a xs := h.mv fun o e => s a o e
theorem Fr.sq {b : Bool} {c : Addr} {H H' : Hp} {a : Addr} {xs : List V} (s : Fr c H H') (n : a ≠ c) (h : Sq b H a xs) : Sq b H' a xs := h.mv fun o e => s a o e n
theorem Sq.inj {b : Bool} {H : Hp} {a : Addr} {xs ys : List V} (h : Sq b H a xs) (h' : Sq b H a ys) : xs = ys := by
  rcases h with h | ⟨o, h⟩ <;> rcases h' with h' | ⟨o', h'⟩ <;> (rw [h] at h'; cases b <;> cases h' <;> rfl)

/-! ### the box -/
def Bx (n : Nat) (H : Hp) (b : Addr) : Prop := ∃ x0 x1 x2 : Int, H b = some (.lst [.int x0, .int x1, .int x2]) ∧ 0 ≤ x0 ∧ 0 ≤ x1 ∧ x1 < 2 ^ 62 ∧ 0 ≤ x2 ∧ x2 ≤ (n : Int)
theorem Bx.mono {n m : Nat} {H : Hp} {b : Addr} (h : n ≤ m) (x : Bx n H b) : Bx m H b := by
  obtain ⟨x0, x1, x2, e, h0, h1, h2, h3, h4⟩ := x
  exact ⟨x0, x1, x2, e, h0, h1, h2, h3, by omega⟩
theorem Bx.ne_new {n : Nat} {H : Hp} {b p : Addr} (x : Bx n H b) (h : H p = none) : p ≠ b := by
  obtain ⟨x0, x1, x2, e, _⟩ := x
  exact (ne_of_none e h).symm
theorem Bx.same {n : Nat} {H H' : Hp} {b : Addr} (x : Bx n H b) (s : Same H H') : Bx n H' b := by
  obtain ⟨x0, x1, x2, e, r⟩ := x
  exact ⟨x0, x1, x2, s _ _ e, r⟩
theorem Bx.new {n : Nat} {H : Hp} {b p : Addr} {o : HO} (x : Bx n H b) (h : H p = none) : Bx n (upd H p o) b := x.same (same_new h)
theorem Bx.upd {n : Nat} {H : Hp} {b p : Addr} {o : HO} (x : Bx n H b) (h : p ≠ b) : Bx n (upd H p o) b := by
  obtain ⟨x0, x1, x2, e, r⟩ := x
  exact ⟨x0, x1, x2, by rw [upd_ne h.symm]; exact e, r⟩

/-! ### defs that are called by their names -/
structure Ok (P : Program) (w : World) (K : PySem.W.Frag) (mg : Str → Option Value) (base : Heap) (k : Nat) (x : Str) (ps : List Str) (sp : Sp) : Prop where
  ex : ∃ (f : Addr) (fd : FuncData), FnOk P w K mg base CX0 k f fd ps sp ∧ mg x = some (.ref f) ∧ PySem.W.keepIn K (.ref f) = true ∧ Binds K fd ps [] ∧ ∃ (oc : Value) (od : Option Addr) (osl : Array (Option Value)), K.lookup f = some ⟨oc, od, .func fd, osl⟩
structure Df (K : PySem.W.Frag) (mg : Str → Option Value) (x : Str) (st : Stmt) (ps : List Str) : Prop where
  ex : ∃ (f : Addr) (fd : FuncData), Fun K x x st f fd ∧ mg x = some (.ref f) ∧ Binds K fd ps []
section
variable {P : Program} {w : World} {K : PySem.W.Frag} {mg : Str → Option Value} {base : Heap}
theorem Df.ok {x : Str} {st : Stmt} {N ps : List Str} {k : Nat} {sp : Sp} (D : Df K mg x st ps) (S : FnScope N ps (defScope st)) (len : ∀ vs H Q E, sp vs H Q E → vs.length = ps.length)
    (hbody : ∀ (f : Addr) (cdv : Value) (A : Around) (outer : List Env) (s : Shared) (H : Hp) (vs : List V) (Q : VK) (E : XK), Room k (A.deeper (envOfC x (defScope st) s.heap.objs.size f cdv)) → sp vs H Q E →
      ∃ t, PSs (cxOf CX0 P w K mg base N x (defScope st) f cdv A outer s H E).nox (defBody st) t ∧ t { nx := fun _ H' => Q .non H', rt := Q } (start N vs) H) : Ok P w K mg base (k + 1) x ps sp := by
  obtain ⟨f, fd, F, g, b⟩ := D.ex
  obtain ⟨oc, od, _, _, _, _, _, _, osl, _, lk, _⟩ := F.ex
  exact ⟨f, fd, F.ok S len (hbody f), g, F.kp, b, oc, od, osl, lk⟩
theorem Ok.up {x : Str} {ps : List Str} {k : Nat} {sp sp' : Sp} (O : Ok P w K mg base k x ps sp) (h : sp = sp') : Ok P w K mg base k x ps sp' := h ▸ O
end
section
variable {X : Cx} {k : Nat} {x : Str} {ps : List Str} {sp : Sp} {e : Expr} {es : List Expr} {t : TA} {p pos : Pos}
theorem pe_c (O : Ok X.prog X.w X.K X.mg X.base k x ps sp) (hr : Room k X.A) (ha : PA X (e :: es) t) (hg : Gl X x := by rfl)
    (hdb : (x == ("__debug__" : Str)) = false := by decide) (he : starEach (e :: es) X.env = (false, eval e X.env) :: starEach es X.env := by rfl) (hpl : (backTo pos (starEach es X.env)).any (·.1) = false := by rfl) :
    PE X (.Call (.Name x p) (e :: es) [] pos) (tCall sp [] E0 t) := by
  obtain ⟨f, fd, F, g, kp, b, _⟩ := O.ex
  exact pe_call F hr hg g kp b .nil pass0 ha hdb he hpl
theorem pe_c0 (O : Ok X.prog X.w X.K X.mg X.base k x ps sp) (hr : Room k X.A) (hg : Gl X x := by rfl)
    (hdb : (x == ("__debug__" : Str)) = false := by decide) :
    PE X (.Call (.Name x p) [] [] pos) (tCall sp [] E0 tNil) := by
  obtain ⟨f, fd, F, g, kp, b, _⟩ := O.ex
  exact pe_call0 F hr hg g kp b .nil pass0 hdb
end
/-! ### f(b=.., a=..): two parameters, by their names, the other way about -/
def swap2 {α : Type} : List α → List α → List α
  | [], [x, y] => [y, x]
  | _, _ => []
/-- how the def's two parameters bind by their names, the second one first -/
def Kw2 (x : Str) (st : Stmt) (ps ks : List Str) : Prop := ∀ (kV doc pm : Value) (an : Option Addr) (cdv ct u v : Value), bindArgs (PySem.W.fnOf x x (defArgs st) (defBody st) (defScope st) .none kV doc pm an cdv ct) ⟨[], ks.zip [u, v]⟩ = pure (ps.zip [v, u])
section
variable {X : Cx} {k : Nat} {x : Str} {ps ks : List Str} {sp : Sp} {kws : List Keyword} {tk : TA} {p pos : Pos} {st : Stmt}
def tCall2 (sp : Sp) (tk : TA) : TE := fun σ H Q => tk σ H fun zs H1 => ∃ u v : V, zs = [u, v] ∧ sp [v, u] H1 Q E0
theorem pe_kw2 (O : Ok X.prog X.w X.K X.mg X.base k x ps sp) (D : Df X.K X.mg x st ps) (kb : Kw2 x st ps ks) (hr : Room k X.A) (hkw : PK X kws tk) (hk2 : ks.length = 2 := by rfl) (hg : Gl X x := by rfl)
    (hall : (backToKw pos (keywordEach kws X.env)).all (·.1.isSome) = true := by rfl) (hks : (backToKw pos (keywordEach kws X.env)).filterMap (·.1) = ks := by rfl) (hdb : (x == ("__debug__" : Str)) = false := by decide)
    (hpl : ((backTo pos (starEach [] X.env)).any (·.1) || (backToKw pos (keywordEach kws X.env)).any (·.1.isNone)) = false := by rfl) :
    PE X (.Call (.Name x p) [] kws pos) (tCall2 sp tk) := by
  obtain ⟨f, fd, F, g, kp, b, oc, od, osl, lk⟩ := O.ex
  obtain ⟨f', fd', F', g', b'⟩ := D.ex
  rw [g] at g'
  cases g'
  obtain ⟨oc2, od2, kV, doc, pm, an, cdv, ct, osl2, efd, lk2, _⟩ := F'.ex
  rw [lk] at lk2
  cases lk2
  have K2 : KBn X.K fd ps 0 ks swap2 swap2 := by
    refine ⟨fun s us ws _ l1 l2 => ?_, fun {vs us zs ws} r1 r2 => ?_⟩
    · match us, ws, l1, l2.trans hk2 with
      | [], [u, v], _, _ =>
        rw [efd]
        exact .of_eq (kb kV doc pm an cdv ct u v)
    · cases r1 with
      | nil =>
        cases r2 with
        | nil => exact .nil
        | cons a r2 =>
          cases r2 with
          | nil => exact .nil
          | cons b r2 =>
            cases r2 with
            | nil => exact .cons b (.cons a .nil)
            | cons c r2 => exact .nil
      | cons a r1 => cases r2 <;> exact .nil
  refine ⟨fun pins s σ H Q I h => ?_⟩
  refine wpAny_Call_Name_kw (ld_glob I hg g ?_ hdb)
  refine PySem.W.callWith_KW0 (h₀ := X.base) I.ok.mod.kin kp hall ?_ hpl
  refine thn (hkw.run pos pins s σ H _ I h) fun ws s2 ⟨zs, H2, I2, rz, u, v, ez, q2⟩ => ⟨I2.kIn, ?_⟩
  subst ez
  rw [hks]
  exact run_fnN (us := []) (vs := []) F hr K2 pass0 I2 .nil rz rfl hk2.symm q2
end
/-! ### built-ins that the text leaves as they are -/
structure Bn (mg : Str → Option Value) : Prop where
  len : mg "len" = none
  abs : mg "abs" = none
  int : mg "int" = none
  list : mg "list" = none
  tuple : mg "tuple" = none
  range : mg "range" = none
  min : mg "min" = none
  max : mg "max" = none
  enumerate : mg "enumerate" = none
  zip : mg "zip" = none
  isinstance : mg "isinstance" = none
  all : mg "all" = none
  bool : mg "bool" = none
  str : mg "str" = none
  iter : mg "iter" = none
  sorted : mg "sorted" = none
section
variable {X : Cx} {pos : Pos}
theorem pe_ty {T : Str} {n : String} (hm : X.mg T = none) (hv : bootBuiltins T = some (.type n) := by decide +kernel) (hg : Gl X T := by rfl) (hn : T ≠ Str.ofString "__name__" := by decide) (hd : (T == ("__debug__" : Str)) = false := by decide) : PE X (.Name T pos) (tC (.ty n)) := pe_bltn (hn := hn) (hd := hd) hg hm hv rfl
end
/-! ### texts as values -/
theorem flat_strs (ws : List Str) : (ws.map V.str).all flatV = true := by
  rw [List.all_map]
  exact List.all_eq_true.mpr fun _ _ => rfl
theorem map_get {ws : List Str} {i : Nat} {x : V} (h : (ws.map V.str)[i]? = some x) : ∃ z, ws[i]? = some z ∧ x = .str z := by
  rw [List.getElem?_map] at h
  cases e : ws[i]? with
  | none =>
    rw [e] at h
    cases h
  | some z =>
    rw [e] at h
    exact ⟨z, rfl, (Option.some.inj h).symm⟩
theorem get_map {ws : List Str} {i : Nat} {z : Str} (h : ws[i]? = some z) : (ws.map V.str)[i]? = some (.str z) := by
  rw [List.getElem?_map, h]
  rfl
/-! ### parts -/
def isPart : List Str → List Str → Bool
  | [], _ => true
  | _ :: _, [] => false
  | w :: ws, e :: es => if e = w then isPart ws es else isPart (w :: ws) es
theorem isPart_nil : ∀ es : List Str, isPart [] es = true
  | [] => by simp [isPart]
  | _ :: _ => by simp [isPart]
theorem isPart_find {w : Str} {ws : List Str} : ∀ {es : List Str} {j : Nat}, es[j]? = some w → (∀ (m : Nat) (z : Str), m < j → es[m]? = some z → z ≠ w) → isPart (w :: ws) es = isPart ws (es.drop (j + 1))
  | [], _, h, _ => by simp at h
  | e :: es, 0, h, _ => by
    have : e = w := Option.some.inj h
    show (if e = w then isPart ws es else isPart (w :: ws) es) = _
    rw [if_pos this]
    rfl
  | e :: es, j + 1, h, hm => by
    have hne : e ≠ w := hm 0 e (Nat.succ_pos _) rfl
    show (if e = w then isPart ws es else isPart (w :: ws) es) = _
    rw [if_neg hne, isPart_find (es := es) (j := j) h fun m z h1 h2 => hm (m + 1) z (Nat.succ_lt_succ h1) h2]
    rfl
theorem isPart_miss {w : Str} {ws : List Str} : ∀ {es : List Str}, (∀ (m : Nat) (z : Str), es[m]? = some z → z ≠ w) → isPart (w :: ws) es = false
  | [], _ => rfl
  | e :: es, hm => by
    have hne : e ≠ w := hm 0 e rfl
    show (if e = w then isPart ws es else isPart (w :: ws) es) = _
    rw [if_neg hne]
    exact isPart_miss fun m z h => hm (m + 1) z h
theorem eqV_str {a b : Str} : eqV (.str a) (.str b) = (a == b) := rfl
/-- whether word is a part of log; nothing else changes -/
def spPart : Sp := fun vs H Q _ => ∃ (b1 b2 : Bool) (a c : Addr) (ws es : List Str), vs = [.ref a, .ref c] ∧ Sq b1 H a (ws.map V.str) ∧ Sq b2 H c (es.map V.str) ∧ ∀ H', Same H H' → Q (.bl (isPart ws es)) H'
theorem drop_at {α : Type} {ws : List α} {i : Nat} {z : α} (hz : ws[i]? = some z) : ws.drop i = z :: ws.drop (i + 1) := by
  obtain ⟨h, e⟩ := List.getElem?_eq_some_iff.mp hz
  rw [List.drop_eq_getElem_cons h, e]
end LwB
namespace EnS
open PySem PySem.Spec PyProof.Rows L2 IqX RvT
open AutoSeq1 (wpAny_loadPart')
theorem meets_enumerate_new1 {v : Value} {o : Obj} {H : Heap → Prop} (B : Begins v o H) :
    Meets (Builtin.«enumerate.__new__» ⟨[.type "enumerate", v], []⟩) (fun _ R s => H s.heap ∧
      R (.ok (.ret (.ref (s.heap.push o).objs.size))) { s with heap := (s.heap.push o).push { cls := .type "enumerate", data := .fields #[.none, .bool false, .ref s.heap.objs.size, rawInt 0, .none, .none] } }) :=
  .of_wp fun prog w A R s h => by
    obtain ⟨hp, g, d, tk, os⟩ := s; obtain ⟨h1, h⟩ := h
    have hsub := sub_enumerate
    have q1 : ∀ {A' : Around} {E : Value → Shared → Prop} {Q : Value → Shared → Prop}, Q (.ref hp.objs.size) ⟨(hp.push o), g, d, tk, os⟩ → wpAny (model prog w) A' (pyIter v) Q E ⟨hp, g, d, tk, os⟩ :=
      fun q => B.iter prog w _ _ ⟨hp, g, d, tk, os⟩ _ (B.keeps _ _ h1 fun b o' e => e) q
    wp_walk
    refine wpAny_stack_any fun st => wpAny_pure ?_
    split
    · rename_i c _ _ _ _ _
      cases (c == Value.type "enumerate")
      · wp_walk using q1
        exact ⟨_, rfl, h⟩
      · wp_walk using q1
        exact ⟨_, rfl, h⟩
    · wp_walk using q1
      exact ⟨_, rfl, h⟩
section
variable {prog : Program} {w : World} {A : Around} {E : Value → Shared → Prop} {s : Shared}
theorem enum_begins1 {v : Value} {o : Obj} {H : Heap → Prop} {Q : Value → Shared → Prop} (B : Begins v o H) (h1 : H s.heap)
    (h : ∀ h', IsEnum h' (s.heap.objs.size + 1) s.heap.objs.size 0 .none → h'.get? s.heap.objs.size = some o → h'.objs.size = s.heap.objs.size + 2 →
      (∀ b o, s.heap.get? b = some o → h'.get? b = some o) → Q (.ref (s.heap.objs.size + 1)) { s with heap := h' }) :
    wpAny (model prog w) A (call (.type "enumerate") [v]) Q E s := by
  refine callType_new F.called_enumerate (by decide) (F.typeCall_enumerate_1 _) (F.newCall_enumerate_1 _) (fun obj => F.args_object_init_2 obj _) F.entry_enumerate_new
    (meets_enumerate_new1 B) ⟨h1, ?_⟩
  have hz : (s.heap.push o).objs.size = s.heap.objs.size + 1 := Heap.size_push ..
  show _ ∧ _
  rw [hz]
  have he : IsEnum ((s.heap.push o).push { cls := .type "enumerate", data := .fields #[.none, .bool false, .ref s.heap.objs.size, rawInt 0, .none, .none] }) (s.heap.objs.size + 1) s.heap.objs.size 0 .none := by
    have := Heap.get?_push_size (s.heap.push o) (o := { cls := .type "enumerate", data := .fields #[.none, .bool false, .ref s.heap.objs.size, rawInt 0, .none, .none] }) rfl
    rw [hz] at this; exact this
  refine ⟨⟨_, he, rfl⟩, h _ he (Heap.get?_push_of_some _ (Heap.get?_push_size _ B.free)) (by rw [Heap.size_push, hz]) fun b o x => Heap.get?_push_of_some _ (Heap.get?_push_of_some _ x)⟩
end
/-- the list (b) or tuple at a as it stands at each turn, each item in a new pair -/
def Ites (b : Bool) (K : PySem.W.Frag) (a : Addr) : It :=
  ⟨fun i H => ∃ (xs : List V) (x : V), SqB K b H a xs ∧ xs[i]? = some x, fun i H v H' => ∃ T x, v = .ref T ∧ H T = none ∧ H' = upd H T (.tup [.int (i : Nat), x]) ∧ ∀ xs, SqB K b H a xs → xs[i]? = some x, fun i H => ∃ xs : List V, SqB K b H a xs ∧ xs.length ≤ i⟩
theorem turn_enumT {P : Program} {w : World} {K : PySem.W.Frag} {elts : List Expr} {kk : Nat} {tpos : Pos} (a e it : Addr) :
    Turn P w K (.Tuple elts kk tpos) (Ites false K a) [e, it] e (fun i h => (∃ old, IsEnum h e it ((i : Nat) : Int) old) ∧ h.IsTupleIter it a i ∧ e ≠ it) where
  mem := by simp
  obj := fun i h st b hb => by
    obtain ⟨⟨old, he⟩, ⟨o, ho, hc, hd⟩, _⟩ := st
    have e' : b = e ∨ b = it := by simpa using hb
    rcases e' with z | z
    · rw [z]; exact ⟨_, he, fun v q => nomatch q⟩
    · rw [z]; exact ⟨o, ho, fun v q => by rw [hd] at q; cases q⟩
  keep := fun i h h' st k => let ⟨⟨old, he⟩, hi, hne⟩ := st; ⟨⟨old, k e (by simp) _ he⟩, hi.at fun o q => k it (by simp) o q, hne⟩
  item := by
    intro X hP hw hK hc i pins s σ H E I hf st hg
    subst hP hw hK
    obtain ⟨⟨old, he⟩, hit, hne⟩ := st
    obtain ⟨xs, x, hq, hx⟩ := hg
    obtain ⟨its, rv, p, hz⟩ := I.tuple hq.tup
    obtain ⟨u, hu, ru⟩ := rv.get hx
    have hel : e < s.heap.objs.size := Heap.lt_size he
    have hil : it < s.heap.objs.size := by obtain ⟨_, q, _⟩ := hit; exact Heap.lt_size q
    have pt : s.heap.IsTuple a its.toArray := p
    have hae : a ≠ it := by
      rintro rfl
      obtain ⟨o1, e1, c1, _⟩ := id hit
      obtain ⟨o2, e2, c2, _⟩ := id pt
      rw [e1] at e2
      cases e2
      rw [c1] at c2
      exact absurd c2 (by decide)
    have haE : e ≠ a := by
      rintro rfl
      obtain ⟨o2, e2, c2, _⟩ := id pt
      have e1 := he
      unfold IsEnum at e1
      rw [e1] at e2
      cases e2
      exact absurd (show Value.type "enumerate" = Value.type "tuple" from c2) (by decide)
    have hii : i < its.toArray.size := by
      rw [List.size_toArray]
      exact (List.getElem?_eq_some_iff.mp hu).1
    refine wpAny_pyNext_enum_itemD (Draws.tuple (A := X.A.in1) (I.ok.hd hc) it a hae its.toArray) he ⟨hit, pt⟩ hii hne (by simp [hne, haE]) fun u' h' tk hP' ho hst' hT hsz hk => ?_
    have eu : u' = u := by
      have h1 : its.toArray[i]? = some u' := hP'
      rw [List.getElem?_toArray, hu] at h1
      exact (Option.some.inj h1).symm
    subst eu
    refine ⟨_, rfl, wpAny_letOwnedTupleGo_enum (s := { s with heap := h', toks := tk + 1 }) ho fun h'' he' sb => ?_⟩
    have hT2 : h''.get? s.heap.objs.size = some { cls := .type "tuple", data := .seq #[.int i tk, u'] } := (sb.2 _ (Nat.ne_of_gt hel)).trans hT
    have new : ObjOk X.prog X.w (upd H s.heap.objs.size (.tup [.int (i : Nat), x])) h'' s.heap.objs.size (.tup [.int (i : Nat), x]) :=
      ⟨by show 2 ≤ sizeLine; decide, [.int i tk, u'], .cons ⟨_, rfl⟩ (.cons ru .nil), ⟨_, hT2, rfl, _, rfl⟩⟩
    have I1 : Inv X pins σ (upd H s.heap.objs.size (.tup [.int (i : Nat), x])) { s with heap := h'', toks := tk + 1 } :=
      I.turnedNew (ch := [e, it]) (fun b ob hb q => (sb.2 b (fun z => hb (by simp [z]))).trans (hk b ob (fun z => hb (by simp [z])) (fun z => hb (by simp [z])) q)) hf (Nat.le_refl _) new
    refine ⟨.ref s.heap.objs.size, _, I1, rfl, ⟨_, x, rfl, I.hok.fresh (Nat.le_refl _), rfl, fun ys hy => by rw [I.tuple_inj hy.tup hq.tup]; exact hx⟩, ⟨⟨u', ?_⟩, hst'.1.at fun o q => (sb.2 it (Ne.symm hne)).trans q, hne⟩, fun b hb => ?_⟩
    · have e1 : ((i + 1 : Nat) : Int) = (i : Int) + 1 := by omega
      rw [e1]; exact he'
    · have hb' : b < s.heap.objs.size := by
        have e' : b = e ∨ b = it := by simpa using hb
        rcases e' with z | z
        · rw [z]; exact hel
        · rw [z]; exact hil
      rw [upd_ne (Nat.ne_of_lt hb')]
      exact (hf b hb).1
  done := by
    intro X hP hw hK hc i pins s σ H E I hf st hg
    subst hP hw hK
    obtain ⟨⟨old, he⟩, hit, hne⟩ := st
    obtain ⟨xs, hq, hx⟩ := hg
    obtain ⟨its, rv, p, hz⟩ := I.tuple hq.tup
    obtain ⟨f0, f1, f2, f3, f4, f5⟩ := hf it (by simp)
    have hl := rv.length
    have pt : s.heap.IsTuple a its.toArray := p
    have hT : s.TypeIs (.ref e) "enumerate" := ⟨_, he, rfl⟩
    unfold pyNext
    refine wpAny_bind (wpAny_attempt (wpAny_callSpecial?_slot (name := Str.ofString "__next__") hT F.slot_enumerate_next
      (wpAny_call_entry F.slot_enumerate_next hT F.entry_enumerate_next ?_ (F.args_enumerate_next_1 _))))
    show wpAny _ _ (field (.ref e) 2 >>= _) _ _ _
    refine wpAny_bind (wpAny_field he rfl (x := .ref it) rfl ?_)
    refine wpAny_bind (wpAny_nextOf_tuple_end (by exact I.ok.hd hc) hit pt (by simp; omega) fun h' x he' hx' => ?_)
    obtain ⟨o, ho, hc'⟩ := hx'
    refine wpAny_bind (wpAny_isInstance (T := "StopIteration") (b := true) ⟨o, ho, hc'⟩ isSubtype_stop ?_)
    exact wpAny_pure ⟨rfl, I.turned (t' := s.toks) (fun b o hb q => he' b o hb q) f0 f1 f3 f4 f5⟩
  self := fun A i s Q E st h => let ⟨⟨_, he⟩, _⟩ := st; wpAny_pyIter_enum he h
def iEnumS (K : PySem.W.Frag) (ta : TA) : TI := fun σ H R => ta σ H fun vs H1 => ∃ (b : Bool) (a : Addr) (xs : List V), vs = [.ref a] ∧ SqB K b H1 a xs ∧ R (Ites b K a) H1
theorem pi_enumS {X : Cx} {e : Expr} {ta : TA} {p pos tpos : Pos} {elts : List Expr} {kk : Nat} (hg : Gl X "enumerate") (hm : X.mg "enumerate" = none) (ha : PA X [e] ta) (hs : starEach [e] X.env = [(false, eval e X.env)] := by rfl) :
    PI X (.Tuple elts kk tpos) (.Call (.Name "enumerate" p) [e] [] pos) (iEnumS X.K ta) := by
  refine ⟨fun pins s σ H R I h => ?_⟩
  refine Call_ (ld_blt I hg hm boot_enumerate (PyProof.Rows.callWith_type1 (thn (ha.run pos pins s σ H _ I h) fun us s1 ⟨vs, H1, I1, r1, q1⟩ => ?_) hs rfl))
  obtain ⟨b, a, xs, ex, hq, q⟩ := q1
  subst ex
  cases r1 with
  | cons r rr =>
    cases rr
    cases r
    have fp : ∀ b', b' ∈ [s1.heap.objs.size + 1, s1.heap.objs.size] → FpOk X pins H1 b' := fun b' hb => by
      have e' : b' = s1.heap.objs.size + 1 ∨ b' = s1.heap.objs.size := by simpa using hb
      have hle : s1.heap.objs.size ≤ b' := by
        rcases e' with z | z
        · rw [z]; exact Nat.le_add_right _ _
        · rw [z]; exact Nat.le_refl _
      exact I1.fpOk hle (I1.hok.fresh hle)
    cases b with
    | true =>
      obtain ⟨its, rv, p', hz⟩ := I1.list hq.list
      refine call_enumerate_list p'.isList fun h' he hit hsz hk => wpAny_pyIter_enum he ?_
      have I2 : Inv X pins σ H1 { s1 with heap := h' } := I1.kept (t' := s1.toks) hk
      exact ⟨s1.heap.objs.size + 1, [s1.heap.objs.size + 1, s1.heap.objs.size], _, Ites true X.K a, H1, rfl, I2, turn_enum a (s1.heap.objs.size + 1) s1.heap.objs.size, ⟨⟨.none, he⟩, hit, Nat.succ_ne_self _⟩, fp, q⟩
    | false =>
      obtain ⟨its, rv, p', hz⟩ := I1.tuple hq.tup
      refine enum_begins1 (begins_tuple a its.toArray) p' fun h' he hit hsz hk => wpAny_pyIter_enum he ?_
      have I2 : Inv X pins σ H1 { s1 with heap := h' } := I1.kept (t' := s1.toks) hk
      exact ⟨s1.heap.objs.size + 1, [s1.heap.objs.size + 1, s1.heap.objs.size], _, Ites false X.K a, H1, rfl, I2, turn_enumT a (s1.heap.objs.size + 1) s1.heap.objs.size, ⟨⟨.none, he⟩, ⟨_, hit, rfl, rfl⟩, Nat.succ_ne_self _⟩, fp, q⟩
/-- for i, x in enumerate(xs) -/
theorem for_enumS {K : PySem.W.Frag} {b : Bool} {a : Addr} {xs : List V} {g : TG} {tb : TS} {D : Ends} {σ : L2.St} {H : Hp} (Pv : Nat → L2.St → Hp → Prop) (h0 : Pv 0 σ H) (hl : ∀ i σ H, i ≤ xs.length → Pv i σ H → SqB K b H a xs)
    (hs : ∀ i x T σ H, xs[i]? = some x → Pv i σ H → H T = none → g (.ref T) σ (upd H T (.tup [.int (i : Nat), x])) fun σ2 H2 => tb { D with nx := Pv (i + 1), ct := Pv (i + 1), bk := D.nx } σ2 H2) (hd : ∀ σ H, Pv xs.length σ H → D.nx σ H) :
    ∃ W : Nat → Nat → L2.St → Hp → Prop, (∃ m, W 0 m σ H) ∧ ∀ i m σ H, W i m σ H →
      ((Ites b K a).stop i H ∧ D.nx σ H) ∨ ((Ites b K a).go i H ∧ ∃ N : L2.St → Hp → Prop, (∀ σ' H', N σ' H' → ∃ m', m' < m ∧ W (i + 1) m' σ' H') ∧ ∀ x H', (Ites b K a).yld i H x H' → g x σ H' fun σ2 H2 => tb { D with nx := N, ct := N, bk := D.nx } σ2 H2) := by
  refine ⟨fun i m σ H => m = xs.length - i ∧ i ≤ xs.length ∧ Pv i σ H, ⟨xs.length, by simp, Nat.zero_le _, h0⟩, ?_⟩
  rintro i m σ H ⟨rfl, hi, p⟩
  have q := hl i σ H hi p
  by_cases hlt : i < xs.length
  · refine .inr ⟨⟨xs, xs[i], q, by simp [hlt]⟩, Pv (i + 1), fun σ' H' p' => ⟨xs.length - (i + 1), by omega, rfl, hlt, p'⟩, fun x H' y => ?_⟩
    obtain ⟨T, z, rfl, nT, rfl, y⟩ := y
    exact hs i z T σ H (y xs q) p nT
  · have e : i = xs.length := by omega
    subst e
    exact .inl ⟨⟨xs, q, Nat.le_refl _⟩, hd σ H p⟩
end EnS
namespace LwB
open PySem PySem.Spec PyProof.Rows L2 IqX RvT EnS
/-- the places of the longest beginning of word that is a part of log -/
def early : List Str → List Str → Nat → List Nat
  | [], _, _ => []
  | _ :: _, [], _ => []
  | w :: ws, e :: es, k => if e = w then k :: early ws es (k + 1) else early (w :: ws) es (k + 1)
theorem early_nil (es : List Str) (k : Nat) : early [] es k = [] := by
  cases es <;> simp [early]
theorem early_end (ws : List Str) (k : Nat) : early ws [] k = [] := by
  cases ws <;> simp [early]
theorem early_hit {w e : Str} {ws es : List Str} {k : Nat} (h : e = w) : early (w :: ws) (e :: es) k = k :: early ws es (k + 1) := by
  show (if e = w then _ else _) = _
  rw [if_pos h]
theorem early_miss {w e : Str} {ws es : List Str} {k : Nat} (h : e ≠ w) : early (w :: ws) (e :: es) k = early (w :: ws) es (k + 1) := by
  show (if e = w then _ else _) = _
  rw [if_neg h]
theorem early_len : ∀ (es ws : List Str) (k : Nat), (early ws es k).length ≤ ws.length
  | [], ws, k => by rw [early_end]; exact Nat.zero_le _
  | e :: es, [], k => by rw [early_nil]; exact Nat.zero_le _
  | e :: es, w :: ws, k => by
    by_cases h : e = w
    · rw [early_hit h]
      exact Nat.succ_le_succ (early_len es ws (k + 1))
    · rw [early_miss h]
      exact early_len es (w :: ws) (k + 1)
/-- at p a new thing, and all else as it was -/
def NewAt (H H' : Hp) (p : Addr) (o : HO) : Prop := Same H H' ∧ H p = none ∧ H' p = some o
def nats (ns : List Nat) : List V := ns.map fun n => V.int (n : Nat)
def spEarly : Sp := fun vs H Q _ => ∃ (b1 b2 : Bool) (a c : Addr) (ws es : List Str), vs = [.ref a, .ref c] ∧ Sq b1 H a (ws.map V.str) ∧ Sq b2 H c (es.map V.str) ∧ ws.length ≤ 1000 ∧
  ∀ H' p, NewAt H H' p (.lst (nats (early ws es 0))) → Q (.ref p) H'
/-! ### rules over Sq -/
section
variable {X : Cx}
/-- xs[i] -/
def rIxQ : R2 := fun x y H Q => ∃ (b : Bool) (a : Addr) (xs : List V) (i : Int) (v : V), x = .ref a ∧ y = .int i ∧ Sq b H a xs ∧ atI xs i = some v ∧ Q v H
theorem ix_sq : IxR X rIxQ := by
  intro value slice pins s σ H x y v u Q I rx ry h e
  obtain ⟨b, a, xs, i, z, rfl, rfl, hq, ha, q⟩ := h
  refine ix_seq value slice pins s σ H _ _ v u Q I rx ry ?_ e
  cases b with
  | true => exact .inl ⟨a, xs, i, z, rfl, rfl, hq.L, ha, q⟩
  | false => exact .inr (.inl ⟨a, xs, i, z, rfl, rfl, hq.T, ha, q⟩)
/-- len(xs) -/
def rLenQ : List V → Hp → VK → Prop := fun vs H Q => ∃ (b : Bool) (a : Addr) (xs : List V), vs = [.ref a] ∧ Sq b H a xs ∧ Q (.int (xs.length : Nat)) H
theorem call_lenQ : CallR X (.builtin "len") rLenQ := by
  intro pins s σ H xs us Q I r h
  obtain ⟨b, a, zs, rfl, hq, q⟩ := h
  exact call_len_seq pins s σ H _ us Q I r ⟨a, zs, rfl, hq.LT, q⟩
theorem pe_len {e : Expr} {te : TA} {p pos : Pos} (hm : X.mg "len" = none) (he : PA X [e] te) (hg : Gl X "len" := by rfl) (hs : starEach [e] X.env = (false, eval e X.env) :: starEach [] X.env := by rfl) : PE X (.Call (.Name "len" p) [e] [] pos) (tCB rLenQ te) := pe_callB (he := hs) call_lenQ hg hm PySem.boot_len he
/-- xs[lo:hi]: what comes is a list or tuple of the cut -/
def rSlQ : V → Option Int → Option Int → Hp → VK → Prop := fun x lo hi H Q => ∃ (b : Bool) (a : Addr) (xs : List V), x = .ref a ∧ Sq b H a xs ∧ ∀ H' p, Same H H' → (b = true → H p = none ∧ H' p = some (.lst (cutV xs lo hi))) → Sq b H' p (cutV xs lo hi) → Q (.ref p) H'
theorem cutV_whole {xs : List V} {lo hi : Option Int} (h : HT.sIx xs.length 0 lo = 0 ∧ HT.sIx xs.length xs.length hi = xs.length) : cutV xs lo hi = xs := by
  unfold cutV
  rw [h.1, h.2]
  simp
theorem sl_sq : SlR X rSlQ := by
  intro pins s σ H x v vl vu lo hi sl Q I rx hs pl pu h
  obtain ⟨b, a, xs, rfl, hq, q⟩ := h
  cases b with
  | true =>
    exact sl_list pins s σ H _ v vl vu lo hi sl Q I rx hs pl pu ⟨a, xs, rfl, hq.L, fun p np => q _ p (same_new np) (fun _ => ⟨np, upd_same⟩) (Sq.lst upd_same)⟩
  | false =>
    refine sl_tupA pins s σ H _ v vl vu lo hi sl Q I rx hs pl pu ⟨a, xs, rfl, hq.T, fun hw => ?_, fun _ p np => q _ p (same_new np) (fun e => nomatch e) (Sq.tup upd_same)⟩
    refine q H a (Same.refl H) (fun e => nomatch e) ?_
    rw [cutV_whole hw]
    exact hq
/-- tuple(xs) -/
def rTupQ : List V → Hp → VK → Prop := fun vs H Q => ∃ (b : Bool) (a : Addr) (xs : List V), vs = [.ref a] ∧ Sq b H a xs ∧ ∀ H' p, Same H H' → Sq false H' p xs → Q (.ref p) H'
theorem call_tupQ : CallR X (.type "tuple") rTupQ := by
  intro pins s σ H xs us Q I r h
  obtain ⟨b, a, zs, rfl, hq, q⟩ := h
  refine call_tuple_of pins s σ H _ us Q I r ?_
  cases b with
  | true => exact ⟨a, zs, rfl, .inl ⟨hq.L, fun p np => q _ p (same_new np) (Sq.tup upd_same)⟩⟩
  | false => exact ⟨a, zs, rfl, .inr ⟨hq.T, q _ _ (Same.refl H) hq⟩⟩
/-- list(xs) -/
def rListQ : List V → Hp → VK → Prop := fun vs H Q => ∃ (b : Bool) (a : Addr) (xs : List V), vs = [.ref a] ∧ Sq b H a xs ∧ ∀ H' p, NewAt H H' p (.lst xs) → Q (.ref p) H'
theorem call_listQ : CallR X (.type "list") rListQ := by
  intro pins s σ H xs us Q I r h
  obtain ⟨b, a, zs, rfl, hq, q⟩ := h
  refine call_list_of pins s σ H _ us Q I r ?_
  exact ⟨a, zs, rfl, hq.LT, fun p np => q _ p ⟨same_new np, np, upd_same⟩⟩
theorem pe_tupQ {e : Expr} {te : TA} {p pos : Pos} (hm : X.mg "tuple" = none) (he : PA X [e] te) (hg : Gl X "tuple" := by rfl) (hs : starEach [e] X.env = (false, eval e X.env) :: starEach [] X.env := by rfl) : PE X (.Call (.Name "tuple" p) [e] [] pos) (tCB rTupQ te) := pe_callTy (he := hs) call_tupQ hg hm (by decide +kernel) he
theorem pe_listQ {e : Expr} {te : TA} {p pos : Pos} (hm : X.mg "list" = none) (he : PA X [e] te) (hg : Gl X "list" := by rfl) (hs : starEach [e] X.env = (false, eval e X.env) :: starEach [] X.env := by rfl) : PE X (.Call (.Name "list" p) [e] [] pos) (tCB rListQ te) := pe_callTy (he := hs) call_listQ hg hm (by decide +kernel) he
end
theorem cut_from (xs : List V) (n : Nat) : cutV xs (some (n : Int)) none = xs.drop n := by
  unfold cutV
  rw [HT.sIx_nat, HT.sIx_none]
  by_cases h : n ≤ xs.length
  · rw [Nat.min_eq_left h, List.take_of_length_le (by rw [List.length_drop]; exact Nat.le_refl _)]
  · rw [Nat.min_eq_right (by omega), Nat.sub_self, List.take_zero, List.drop_eq_nil_of_le (by omega)]
theorem cut_to (xs : List V) (n : Nat) : cutV xs none (some (n : Int)) = xs.take n := by
  unfold cutV
  rw [HT.sIx_nat, HT.sIx_none, List.drop_zero, Nat.sub_zero]
  by_cases h : n ≤ xs.length
  · rw [Nat.min_eq_left h]
  · rw [Nat.min_eq_right (by omega), List.take_length, List.take_of_length_le (by omega)]
theorem cut_mid (xs : List V) (m n : Nat) : cutV xs (some (m : Int)) (some (n : Int)) = (xs.drop m).take (n - m) := by
  unfold cutV
  rw [HT.sIx_nat, HT.sIx_nat]
  by_cases h : m ≤ xs.length
  · rw [Nat.min_eq_left h]
    by_cases h2 : n ≤ xs.length
    · rw [Nat.min_eq_left h2]
    · rw [Nat.min_eq_right (by omega), List.take_of_length_le (by rw [List.length_drop]; omega), List.take_of_length_le (by rw [List.length_drop]; omega)]
  · rw [Nat.min_eq_right (by omega : xs.length ≤ m), List.drop_length, List.drop_eq_nil_of_le (by omega), List.take_nil, List.take_nil]
/-- what is left of word -/
def restOf (ws es : List Str) : List Str := ws.drop (early ws es 0).length
def spRest : Sp := fun vs H Q _ => ∃ (b1 b2 : Bool) (a c : Addr) (ws es : List Str), vs = [.ref a, .ref c] ∧ Sq b1 H a (ws.map V.str) ∧ Sq b2 H c (es.map V.str) ∧ ws.length ≤ 1000 ∧
  ∀ H' p, Same H H' → Sq false H' p ((restOf ws es).map V.str) → Q (.ref p) H'
def spFront : Sp := fun vs H Q _ => ∃ (b1 b2 : Bool) (a c : Addr) (ws es : List Str), vs = [.ref a, .ref c] ∧ Sq b1 H a (ws.map V.str) ∧ Sq b2 H c (es.map V.str) ∧ ws.length ≤ 1000 ∧
  ∀ H' p, Same H H' → Sq false H' p ((restOf ws.reverse es.reverse).reverse.map V.str) → Q (.ref p) H'
end LwB
namespace K13
open PySem PySem.Spec PyProof.Rows L2 IqX RvT LwB EnS
def topS (i : Nat) : Stmt := PySem.Challenge.pw_moredone_k13_bases_from_logs.main.body.getD i (.Pass ⟨0, 0, 0, 0⟩)
abbrev s_is_name : Stmt := topS 1
theorem sc_is_name : FnScope ["value", "letter"] ["value"] (defScope s_is_name) := ⟨rfl, rfl, rfl, by decide +kernel, rfl, by decide +kernel, by decide +kernel⟩
-- slots: 0:value 1:letter
abbrev s_is_log : Stmt := topS 2
theorem sc_is_log : FnScope ["thing", "event"] ["thing"] (defScope s_is_log) := ⟨rfl, rfl, rfl, by decide +kernel, rfl, by decide +kernel, by decide +kernel⟩
-- slots: 0:thing 1:event
abbrev s_copied : Stmt := topS 3
theorem sc_copied : FnScope ["logs", "log"] ["logs"] (defScope s_copied) := ⟨rfl, rfl, rfl, by decide +kernel, rfl, by decide +kernel, by decide +kernel⟩
-- slots: 0:logs 1:log
abbrev s_in_order : Stmt := topS 4
theorem sc_in_order : FnScope ["logs"] ["logs"] (defScope s_in_order) := ⟨rfl, rfl, rfl, by decide +kernel, rfl, by decide +kernel, by decide +kernel⟩
-- slots: 0:logs
abbrev s_is_part : Stmt := topS 5
theorem sc_is_part : FnScope ["word", "log", "events", "event", "is_there"] ["word", "log"] (defScope s_is_part) := ⟨rfl, rfl, rfl, by decide +kernel, rfl, by decide +kernel, by decide +kernel⟩
-- slots: 0:word 1:log 2:events 3:event 4:is_there
abbrev s_is_base : Stmt := topS 7
theorem sc_is_base : FnScope ["thing", "word"] ["thing"] (defScope s_is_base) := ⟨rfl, rfl, rfl, by decide +kernel, rfl, by decide +kernel, by decide +kernel⟩
-- slots: 0:thing 1:word
abbrev s_base_of : Stmt := topS 8
theorem sc_base_of : FnScope ["logs", "words", "shorter", "log"] ["logs"] (defScope s_base_of) := ⟨rfl, rfl, rfl, by decide +kernel, rfl, by decide +kernel, by decide +kernel⟩
-- slots: 0:logs 1:words 2:shorter 3:log
abbrev s_does : Stmt := topS 9
theorem sc_does : FnScope ["base", "log", "word"] ["base", "log"] (defScope s_does) := ⟨rfl, rfl, rfl, by decide +kernel, rfl, by decide +kernel, by decide +kernel⟩
-- slots: 0:base 1:log 2:word
abbrev s_names_in : Stmt := topS 10
theorem sc_names_in : FnScope ["base", "word", "event"] ["base"] (defScope s_names_in) := ⟨rfl, rfl, rfl, by decide +kernel, rfl, by decide +kernel, by decide +kernel⟩
-- slots: 0:base 1:word 2:event
abbrev s__law_box : Stmt := topS 12
theorem sc__law_box : FnScope ["_law_script", "_law_k", "_law_cell"] ["_law_script", "_law_k"] (defScope s__law_box) := ⟨rfl, rfl, rfl, by decide +kernel, rfl, by decide +kernel, by decide +kernel⟩
-- slots: 0:_law_script 1:_law_k 2:_law_cell
abbrev s__law_take : Stmt := topS 13
theorem sc__law_take : FnScope ["_law_box_here", "_law_size_so", "_law_some", "_law_once", "_law_far", "_law_again"] ["_law_box_here", "_law_size_so"] (defScope s__law_take) := ⟨rfl, rfl, rfl, by decide +kernel, rfl, by decide +kernel, by decide +kernel⟩
-- slots: 0:_law_box_here 1:_law_size_so 2:_law_some 3:_law_once 4:_law_far 5:_law_again
abbrev s__law_cells : Stmt := topS 14
theorem sc__law_cells : FnScope ["_law_script", "_law_top_so", "_law_cells_so", "_law_k", "_law_cell", "_law_at_so"] ["_law_script", "_law_top_so"] (defScope s__law_cells) := ⟨rfl, rfl, rfl, by decide +kernel, rfl, by decide +kernel, by decide +kernel⟩
-- slots: 0:_law_script 1:_law_top_so 2:_law_cells_so 3:_law_k 4:_law_cell 5:_law_at_so
abbrev s__law_of : Stmt := topS 15
theorem sc__law_of : FnScope ["_law_box_here", "_law_goods_so"] ["_law_box_here", "_law_goods_so"] (defScope s__law_of) := ⟨rfl, rfl, rfl, by decide +kernel, rfl, by decide +kernel, by decide +kernel⟩
-- slots: 0:_law_box_here 1:_law_goods_so
abbrev s__law_pick : Stmt := topS 16
theorem sc__law_pick : FnScope ["_law_box_here", "_law_goods_so", "_law_count_so", "_law_pool_so", "_law_found", "_law_turn"] ["_law_box_here", "_law_goods_so", "_law_count_so"] (defScope s__law_pick) := ⟨rfl, rfl, rfl, by decide +kernel, rfl, by decide +kernel, by decide +kernel⟩
-- slots: 0:_law_box_here 1:_law_goods_so 2:_law_count_so 3:_law_pool_so 4:_law_found 5:_law_turn
abbrev s__law_same : Stmt := topS 17
theorem sc__law_same : FnScope ["_law_got", "_law_due", "_law_mine", "_law_its"] ["_law_got", "_law_due"] (defScope s__law_same) := ⟨rfl, rfl, rfl, by decide +kernel, rfl, by decide +kernel, by decide +kernel⟩
-- slots: 0:_law_got 1:_law_due 2:_law_mine 3:_law_its
abbrev s__law_lists : Stmt := topS 18
theorem sc__law_lists : FnScope ["_law_matter", "_law_bit"] ["_law_matter"] (defScope s__law_lists) := ⟨rfl, rfl, rfl, by decide +kernel, rfl, by decide +kernel, by decide +kernel⟩
-- slots: 0:_law_matter 1:_law_bit
abbrev s__law_names : Stmt := topS 19
theorem sc__law_names : FnScope ["_law_box_here", "_law_much_so", "_law_letters_so", "_law_long", "_law_some", "_law_sort_so", "_law_spot_so", "_law_found", "_law_sign", "_law_turn"] ["_law_box_here", "_law_much_so"] (defScope s__law_names) := ⟨rfl, rfl, rfl, by decide +kernel, rfl, by decide +kernel, by decide +kernel⟩
-- slots: 0:_law_box_here 1:_law_much_so 2:_law_letters_so 3:_law_long 4:_law_some 5:_law_sort_so 6:_law_spot_so 7:_law_found 8:_law_sign 9:_law_turn
abbrev s__law_lies : Stmt := topS 20
theorem sc__law_lies : FnScope ["_law_verse", "_law_row", "_law_at_so", "_law_own"] ["_law_verse", "_law_row"] (defScope s__law_lies) := ⟨rfl, rfl, rfl, by decide +kernel, rfl, by decide +kernel, by decide +kernel⟩
-- slots: 0:_law_verse 1:_law_row 2:_law_at_so 3:_law_own
abbrev s__law_sorted : Stmt := topS 21
theorem sc__law_sorted : FnScope ["_law_rows", "_law_size_so", "_law_own", "_law_row"] ["_law_rows"] (defScope s__law_sorted) := ⟨rfl, rfl, rfl, by decide +kernel, rfl, by decide +kernel, by decide +kernel⟩
-- slots: 0:_law_rows 1:_law_size_so 2:_law_own 3:_law_row
abbrev s__law_least : Stmt := topS 22
theorem sc__law_least : FnScope ["_law_rows", "_law_row", "_law_own"] ["_law_rows"] (defScope s__law_least) := ⟨rfl, rfl, rfl, by decide +kernel, rfl, by decide +kernel, by decide +kernel⟩
-- slots: 0:_law_rows 1:_law_row 2:_law_own
abbrev s__law_event_row : Stmt := topS 23
theorem sc__law_event_row : FnScope ["_law_box_here", "_law_tags", "_law_most", "_law_turn"] ["_law_box_here", "_law_tags", "_law_most"] (defScope s__law_event_row) := ⟨rfl, rfl, rfl, by decide +kernel, rfl, by decide +kernel, by decide +kernel⟩
-- slots: 0:_law_box_here 1:_law_tags 2:_law_most 3:_law_turn
abbrev s__law_some_rows : Stmt := topS 24
theorem sc__law_some_rows : FnScope ["_law_box_here", "_law_tags", "_law_many", "_law_most", "_law_turn"] ["_law_box_here", "_law_tags", "_law_many", "_law_most"] (defScope s__law_some_rows) := ⟨rfl, rfl, rfl, by decide +kernel, rfl, by decide +kernel, by decide +kernel⟩
-- slots: 0:_law_box_here 1:_law_tags 2:_law_many 3:_law_most 4:_law_turn
abbrev s__law_done : Stmt := topS 25
theorem sc__law_done : FnScope ["_law_words_so", "_law_row", "_law_own"] ["_law_words_so", "_law_row"] (defScope s__law_done) := ⟨rfl, rfl, rfl, by decide +kernel, rfl, by decide +kernel, by decide +kernel⟩
-- slots: 0:_law_words_so 1:_law_row 2:_law_own
abbrev s__law_base_right : Stmt := topS 26
theorem sc__law_base_right : FnScope ["_law_box_here", "_law_tags", "_law_rows", "_law_due", "_law_soft", "_law_got", "_law_names_so", "_law_turn", "_law_row", "_law_bent", "_law_own"] ["_law_box_here", "_law_tags", "_law_rows"] (defScope s__law_base_right) := ⟨rfl, rfl, rfl, by decide +kernel, rfl, by decide +kernel, by decide +kernel⟩
-- slots: 0:_law_box_here 1:_law_tags 2:_law_rows 3:_law_due 4:_law_soft 5:_law_got 6:_law_names_so 7:_law_turn 8:_law_row 9:_law_bent 10:_law_own
abbrev s__law_by_hand_right : Stmt := topS 27
theorem sc__law_by_hand_right : FnScope ["_law_rows", "_law_got", "_law_due", "_law_some", "_law_far", "_law_own", "_law_sign"] [] (defScope s__law_by_hand_right) := ⟨rfl, rfl, rfl, by decide +kernel, rfl, by decide +kernel, by decide +kernel⟩
-- slots: 0:_law_rows 1:_law_got 2:_law_due 3:_law_some 4:_law_far 5:_law_own 6:_law_sign
abbrev s__law_right : Stmt := topS 28
theorem sc__law_right : FnScope ["_law_box_here", "_law_turn", "_law_tags"] ["_law_box_here"] (defScope s__law_right) := ⟨rfl, rfl, rfl, by decide +kernel, rfl, by decide +kernel, by decide +kernel⟩
-- slots: 0:_law_box_here 1:_law_turn 2:_law_tags
abbrev s_law : Stmt := topS 29
theorem sc_law : FnScope ["_law_script", "_law_cells_so", "_law_k"] ["_law_script"] (defScope s_law) := ⟨rfl, rfl, rfl, by decide +kernel, rfl, by decide +kernel, by decide +kernel⟩
-- slots: 0:_law_script 1:_law_cells_so 2:_law_k
end K13
namespace K13
open PySem PySem.Spec PyProof.Rows L2 IqX RvT LwB
section
variable {P : Program} {w : World} {K : PySem.W.Frag} {mg : Str → Option Value} {base : Heap}
theorem ok_is_part (D : Df K mg "is_part" s_is_part ["word", "log"]) (B : Bn mg) : Ok P w K mg base 1 "is_part" ["word", "log"] spPart := by
  refine D.ok sc_is_part (fun vs H Q E h => ?_) (fun f cdv A outer s H vs Q E hr h => ?_)
  · obtain ⟨_, _, _, _, _, _, rfl, _⟩ := h
    rfl
  · obtain ⟨b1, b2, a, c, ws, es, rfl, hw, he, q⟩ := h
    have nd := sc_is_part.nd
    refine ⟨_, pss_cons (ps_set (i := 2) nd rfl (.inl rfl) (pe_callB call_iterQ (by rfl) B.iter (by decide +kernel) (pa_cons (pv 1) pa_nil)))
      (pss_cons (ps_for PassesOwn.never rfl (pi_seq (pv 0)) (pg_name (i := 3) nd rfl (.inl rfl))
        (pss_cons (ps_set (i := 4) nd rfl (.inl rfl) (pe_cmpR (op_in_it rfl) (pv 3) (pv 2) (by rfl)))
        (pss_one (ps_if (pt_not (pt_val (pv 4))) (pss_one (ps_ret pe_bl)) pss_nil))))
      (pss_one (ps_ret pe_bl))), ?_⟩
    refine ⟨.ref c, rfl, b2, c, es.map V.str, rfl, he.B, fun it ni => ?_⟩
    have s1 : Same H (upd H it (ItQ b2 c it 0)) := same_new ni
    have hcit : c ≠ it := he.ne ni
    refine ⟨.ref a, rfl, b1, a, rfl, ⟨_, (s1.sq hw).B⟩, for_seq (K := K) (b := b1) (a := a) (xs := ws.map V.str)
      (fun i σ H' => ∃ (j : Nat) (x3 x4 : Option V), σ = [some (.ref a), some (.ref c), some (.ref it), x3, x4] ∧ Same H H' ∧ H' it = some (ItQ b2 c it j) ∧ isPart ws es = isPart (ws.drop i) (es.drop j))
      ⟨0, none, none, rfl, s1, upd_same, rfl⟩ (fun i σ H' _ ⟨_, _, _, _, sm, _⟩ => (sm.sq hw).B) ?_ ?_⟩
    · rintro i x σ H' hi ⟨j, x3, x4, rfl, sm, hit, em⟩
      obtain ⟨z, hz, rfl⟩ := map_get hi
      refine ⟨.str z, rfl, .ref it, rfl, it, c, b2, j, es.map V.str, rfl, hit, (sm.sq he).B, hcit, rfl, flat_strs es, fun j' hj hfound hbefore => ?_, fun hnone => ?_⟩
      · refine ⟨.bl true, rfl, true, rfl, iteF ?_⟩
        refine ⟨j' + 1, _, _, rfl, Same.young sm ni, upd_same, ?_⟩
        obtain ⟨y, hy, hyz⟩ := hfound
        obtain ⟨y', hy', rfl⟩ := map_get hy
        have ey : y' = z := eq_of_beq hyz
        subst ey
        rw [em, drop_at hz, isPart_find (es := es.drop j) (j := j' - j) (w := y') ?_ ?_, List.drop_drop]
        · congr 2
          omega
        · rw [List.getElem?_drop, show j + (j' - j) = j' by omega]
          exact hy'
        · intro m z2 h1 h2 e2
          rw [List.getElem?_drop] at h2
          have q2 := hbefore (j + m) (.str z2) (by omega) (by omega) (get_map h2)
          rw [e2] at q2
          simp [eqV] at q2
      · refine ⟨.bl false, rfl, false, rfl, iteT ?_⟩
        have e : isPart ws es = false := by
          rw [em, drop_at hz]
          refine isPart_miss fun m z2 h2 e2 => ?_
          rw [List.getElem?_drop] at h2
          have q2 := hnone (j + m) (.str z2) (by omega) (get_map h2)
          rw [e2] at q2
          simp [eqV] at q2
        have q1 := q _ (Same.young (o := ItX it) sm ni)
        rw [e] at q1
        exact q1
    · rintro σ H' ⟨j, x3, x4, rfl, sm, hit, em⟩
      have q1 := q _ sm
      rw [em, List.length_map, List.drop_length, isPart_nil] at q1
      exact q1
end
end K13
namespace NsT
open PySem PySem.Spec PyProof.Rows L2
/-! sets of tuples of whole numbers, texts and such tuples: of any shapes, nested -/
abbrev nhash (w : World) (k : NestedKey) : Int := k.hash w
/-- the tuple at a is the key k -/
def Nk (h : Heap) (k : NestedKey) (a : Addr) : Prop := NestedIs h k (.ref a) ∧ k.depth ≤ 7
section
variable {P : Program} {w : World} {A : Around} {E : Value → Shared → Prop} {s : Shared}
theorem Nk.inj {h : Heap} {x y : NestedKey} {a : Addr} (p : Nk h x a) (q : Nk h y a) : x = y := NestedIs.inj _ _ _ p.1 q.1
theorem nk_eq {x y : NestedKey} {a b : Addr} {Q : Bool → Shared → Prop} (hu : A.units + 8 < cLine) (p : Nk s.heap x a) (q : Nk s.heap y b) (h : Q (decide (x = y)) s) : wpAny (model P w) A (eqBool (.ref a) (.ref b)) Q E s :=
  (nestedKind P w).eqBool (x := x) (y := y) hu ⟨p.1, Nat.le_succ_of_le p.2⟩ ⟨q.1, Nat.le_succ_of_le q.2⟩ h
theorem nk_hash {x : NestedKey} {a : Addr} {Q : Int → Shared → Prop} (hu : A.units + 8 < cLine) (p : Nk s.heap x a) (h : Q (nhash w x) { s with toks := s.toks + x.draws }) : wpAny (model P w) A (pyHash (.ref a)) Q E s :=
  (nestedKind P w).pyHash hu ⟨p.1, Nat.le_succ_of_le p.2⟩ h
theorem nk_quiet {x : NestedKey} {a : Addr} {Q : Bool → Shared → Prop} (p : Nk s.heap x a) (h : Q true s) : wpAny (model P w) A (eqIsQuiet 8 (.ref a)) Q E s :=
  (nestedKind P w).quiet (k := x) ⟨p.1, Nat.le_succ_of_le p.2⟩ h
/-- it is no class statement's, n levels down -/
def PlainAt (P : Program) (w : World) (n : Nat) (s : Shared) (v : Value) : Prop := ∀ (A : Around) (E : Value → Shared → Prop) (Q : Bool → Shared → Prop), Q false s → wpAny (model P w) A (ofAClassStatement n v) Q E s
theorem PlainAt.flat {n : Nat} {v : Value} (h : ofAClassStatement n v = pure false) : PlainAt P w n s v := fun A E Q q => by
  rw [h]
  exact wpAny_pure q
theorem PlainAt.tup {n m : Nat} {a : Addr} {o : Obj} {vs : Array Value} (ho : s.heap.get? a = some o) (hc : o.cls = .type "tuple") (hd : o.data = .seq vs m) (all : ∀ v ∈ vs.toList, PlainAt P w n s v) : PlainAt P w (n + 1) s (.ref a) := fun A E Q q => by
  unfold ofAClassStatement
  refine wpAny_bind (wpAny_typeOf ⟨o, ho, hc⟩ ?_)
  dsimp only
  simp only [show (("tuple" : String) == "tuple") = true by decide, if_true, Bool.not_true, Bool.false_eq_true, if_false]
  try refine wpAny_bind (wpAny_pure ?_)
  try simp only [Bool.not_true, Bool.false_eq_true, if_false]
  show wpAny _ _ (seqItems? (.ref a) >>= _) _ _ s
  refine wpAny_bind (wpAny_seqItems ho hd ?_)
  dsimp only
  refine wpAny_bind ?_
  show wpAny _ _ (forIn vs _ _) _ _ s
  rw [← Array.forIn_toList]
  refine wpAny_forIn_list _ (fun rest r s' => r.1 = none ∧ s' = s ∧ ∀ v ∈ rest, PlainAt P w n s v) _ ?_ ?_ _ _ ⟨rfl, rfl, all⟩
  · rintro v rest r s' ⟨er, rfl, each⟩
    refine wpAny_bind (each v List.mem_cons_self _ _ _ ?_)
    simp only [Bool.false_eq_true, if_false]
    exact wpAny_pure ⟨rfl, rfl, fun u hu => each u (List.mem_cons_of_mem _ hu)⟩
  · rintro ⟨r1, r2⟩ s' ⟨er, rfl, _⟩
    simp only at er
    subst er
    exact wpAny_pure q
mutual
theorem plain_key : ∀ (k : NestedKey) (v : Value) (n : Nat) (s : Shared), NestedIs s.heap k v → k.depth ≤ n → PlainAt P w n s v
  | .none, _, n, s, x, _ => by cases x; exact .flat (by cases n <;> rfl)
  | .num i, _, n, s, x, _ => by cases x <;> exact .flat (by cases n <;> rfl)
  | .text y, _, n, s, x, _ => by cases x; exact .flat (by cases n <;> rfl)
  | .tup ks, _, n, s, x, hn => by
    cases x with
    | tup hg hc hd kk =>
      simp only [NestedKey.depth] at hn
      cases n with
      | zero => omega
      | succ n => exact .tup hg hc hd (plain_keys ks _ n s kk (by omega))
theorem plain_keys : ∀ (ks : List NestedKey) (vs : List Value) (n : Nat) (s : Shared), NestedAll s.heap ks vs → NestedKey.depthAll ks ≤ n → ∀ v ∈ vs, PlainAt P w n s v
  | [], _, n, s, x, _, v, hv => by cases x; cases hv
  | k :: ks, _, n, s, x, hn, v, hv => by
    cases x with
    | cons x1 x2 =>
      simp only [NestedKey.depthAll] at hn
      rcases List.mem_cons.mp hv with e | hv
      · rw [e]; exact plain_key k _ n s x1 (by omega)
      · exact plain_keys ks _ n s x2 (by omega) v hv
end
theorem nk_plain {x : NestedKey} {a : Addr} {Q : Bool → Shared → Prop} (p : Nk s.heap x a) (h : Q false s) : wpAny (model P w) A (ofAClassStatement 8 (.ref a)) Q E s := plain_key x _ 8 s p.1 (Nat.le_succ_of_le p.2) A E Q h
/-- whether it is hashed by its value: some answer -/
def AnyBv (P : Program) (w : World) (n : Nat) (s : Shared) (v : Value) : Prop := ∀ (A : Around) (E : Value → Shared → Prop) (Q : Bool → Shared → Prop), (∀ b, Q b s) → wpAny (model P w) A (hashByValue n v) Q E s
theorem AnyBv.flat {n : Nat} {v : Value} {b : Bool} (h : hashByValue n v = pure b) : AnyBv P w n s v := fun A E Q q => by
  rw [h]
  exact wpAny_pure (q b)
theorem AnyBv.tup {n m : Nat} {a : Addr} {o : Obj} {vs : Array Value} (ho : s.heap.get? a = some o) (hc : o.cls = .type "tuple") (hd : o.data = .seq vs m) (all : ∀ v ∈ vs.toList, AnyBv P w n s v) : AnyBv P w (n + 1) s (.ref a) := fun A E Q q => by
  unfold hashByValue
  refine wpAny_bind (wpAny_specialOf ⟨o, ho, hc⟩ F.slot_tuple_hash.lookup ?_)
  show wpAny _ _ (seqItems? (.ref a) >>= _) _ _ s
  refine wpAny_bind (wpAny_seqItems ho hd ?_)
  refine wpAny_bind ?_
  show wpAny _ _ (forIn vs _ _) _ _ s
  rw [← Array.forIn_toList]
  refine wpAny_forIn_list _ (fun rest r s' => s' = s ∧ ∀ v ∈ rest, AnyBv P w n s v) _ ?_ ?_ _ _ ⟨rfl, all⟩
  · rintro v rest r s' ⟨rfl, each⟩
    refine wpAny_bind (each v List.mem_cons_self _ _ _ fun b => ?_)
    have later : ∀ u ∈ rest, AnyBv P w n s' u := fun u hu => each u (List.mem_cons_of_mem _ hu)
    cases b
    · simp only [Bool.not_false, if_true]
      exact wpAny_pure (wpAny_pure (q false))
    · simp only [Bool.not_true, Bool.false_eq_true, if_false]
      exact wpAny_pure ⟨rfl, later⟩
  · rintro ⟨r1, r2⟩ s' ⟨rfl, _⟩
    cases r1 with
    | none => exact wpAny_pure (q _)
    | some b => exact wpAny_pure (q _)
mutual
theorem bv_key : ∀ (k : NestedKey) (v : Value) (n : Nat) (s : Shared), NestedIs s.heap k v → k.depth ≤ n → AnyBv P w n s v
  | .none, _, n, s, x, _ => by cases x; exact .flat (b := true) (by cases n <;> rfl)
  | .num i, _, n, s, x, _ => by cases x <;> exact .flat (b := true) (by cases n <;> rfl)
  | .text y, _, n, s, x, _ => by cases x; exact .flat (b := false) (by cases n <;> rfl)
  | .tup ks, _, n, s, x, hn => by
    cases x with
    | tup hg hc hd kk =>
      simp only [NestedKey.depth] at hn
      cases n with
      | zero => omega
      | succ n => exact .tup hg hc hd (bv_keys ks _ n s kk (by omega))
theorem bv_keys : ∀ (ks : List NestedKey) (vs : List Value) (n : Nat) (s : Shared), NestedAll s.heap ks vs → NestedKey.depthAll ks ≤ n → ∀ v ∈ vs, AnyBv P w n s v
  | [], _, n, s, x, _, v, hv => by cases x; cases hv
  | k :: ks, _, n, s, x, hn, v, hv => by
    cases x with
    | cons x1 x2 =>
      simp only [NestedKey.depthAll] at hn
      rcases List.mem_cons.mp hv with e | hv
      · rw [e]; exact bv_key k _ n s x1 (by omega)
      · exact bv_keys ks _ n s x2 (by omega) v hv
end
theorem bv_any {α : Type} {x : NestedKey} {a : Addr} {c : Bool} {f : Bool → Sem α} {Q : α → Shared → Prop} (p : Nk s.heap x a) (h : ∀ b, wpAny (model P w) A (f b) Q E s) : wpAny (model P w) A (if c = true then hashByValue 8 (.ref a) >>= f else pure true >>= f) Q E s := by
  cases c
  · exact wpAny_bind (wpAny_pure (h true))
  · exact wpAny_bind (bv_key x _ 8 s p.1 (Nat.le_succ_of_le p.2) A E _ h)
theorem plain_any (t : SetTable) (b : Bool) : ∃ t2 : SetTable, (if b = true then t else { t with plain := false }) = t2 ∧ t2.place = t.place ∧ t2.dummies = t.dummies ∧ t2.mask = t.mask ∧ t2.led = t.led ∧ t2.fill = t.fill := by
  cases b
  · exact ⟨_, rfl, rfl, rfl, rfl, rfl, rfl⟩
  · exact ⟨_, rfl, rfl, rfl, rfl, rfl, rfl⟩
theorem tab_any {t t2 : SetTable} {hs : List Int} (h1 : t2.place = t.place) (h2 : t2.dummies = t.dummies) (h3 : t2.mask = t.mask) (T : TabOk t hs) : TabOk t2 hs := by
  refine ⟨by rw [h1]; exact T.ris, by rw [h2]; exact T.dm, by rw [h1]; exact T.sz, by rw [h3]; exact T.mok, by rw [h1, h3]; exact T.bd, ?_⟩
  rw [h1, h3]
  exact T.reach
/-- a search among such tuples shows nothing -/
theorem seen_nk {k : NestedKey} {b : Addr} {Q : Bool → Shared → Prop} (kk : Nk s.heap k b) {ys : List Value} (hy : ∀ y ∈ ys, ∃ k' c, y = Value.ref c ∧ Nk s.heap k' c) (h : Q false s) :
    wpAny (model P w) A (searchCouldBeSeen (.ref b) ys) Q E s := by
  unfold searchCouldBeSeen
  refine wpAny_bind ?_
  refine wpAny_forIn_list _ (fun rest r s' => r.1 = none ∧ s' = s ∧ ∀ y ∈ rest, ∃ k' c, y = Value.ref c ∧ Nk s.heap k' c) _ ?_ ?_ _ _ ⟨rfl, rfl, hy⟩
  · rintro v rest r s' ⟨er, rfl, each⟩
    obtain ⟨k', c, rfl, kc⟩ := each v List.mem_cons_self
    have later : ∀ y ∈ rest, ∃ k' c, y = Value.ref c ∧ Nk s'.heap k' c := fun u hu => each u (List.mem_cons_of_mem _ hu)
    dsimp only
    by_cases hv : (b == c || (carriedByValue (.ref b) && carriedByValue (.ref c))) = true
    · refine wp_if_pos hv ?_
      exact wpAny_pure ⟨rfl, rfl, later⟩
    · refine wp_if_neg hv ?_
      refine wpAny_bind (nk_quiet kk ?_)
      simp only [Bool.not_true, Bool.false_eq_true, if_false]
      refine wpAny_bind (nk_quiet kc ?_)
      simp only [Bool.not_true, Bool.false_eq_true, if_false]
      refine wpAny_bind (nk_plain kk ?_)
      simp only [Bool.false_eq_true, if_false]
      refine wpAny_bind (nk_plain kc ?_)
      simp only [Bool.false_eq_true, if_false]
      exact wpAny_pure ⟨rfl, rfl, later⟩
  · rintro ⟨r1, r2⟩ s' ⟨er, rfl, _⟩
    simp only at er
    subst er
    exact wpAny_pure h
def rowsN (P : Program) (w : World) (L : List (Addr × NestedKey)) : List (Int × Value) := L.map fun p => (nhash w p.2, Value.ref p.1)
structure SetN (P : Program) (w : World) (h : Heap) (a : Addr) (L : List (Addr × NestedKey)) (es : Array (Int × Value)) (ep : Nat) (t : SetTable) : Prop where
  ob : ∃ o, h.get? a = some o ∧ o.ExactSet ∧ o.data = .set es ep t
  rows : es.toList = rowsN P w L
  tab : TabOk t (L.map fun p => nhash w p.2)
  nd : (L.map (·.2)).Nodup
  tup : ∀ p ∈ L, Nk h p.2 p.1
  led : w.params.followText "set-order" = true ∨ t.led = true
  room : L.length * 5 < t.mask * 3
  few : L.length < 77
variable {a : Addr} {L : List (Addr × NestedKey)} {es : Array (Int × Value)} {ep : Nat} {t : SetTable}
theorem SetN.size (R : SetN P w s.heap a L es ep t) : es.size = L.length := by
  have h := congrArg List.length R.rows
  unfold rowsN at h
  rw [Array.length_toList, List.length_map] at h
  exact h
theorem SetN.fits (R : SetN P w s.heap a L es ep t) : t.fits es.size = true := by
  have h1 := R.tab.sz
  rw [List.length_map] at h1
  have h2 := R.size
  have h3 := R.room
  unfold SetTable.fits SetTable.fill
  rw [R.tab.dm, Bool.and_eq_true, beq_iff_eq, decide_eq_true_eq]
  show t.place.size = es.size ∧ t.place.size + 0 ≤ t.mask
  omega
theorem SetN.entry (R : SetN P w s.heap a L es ep t) {i : Nat} {p : Addr × NestedKey} (h : L[i]? = some p) : es[i]? = some (nhash w p.2, Value.ref p.1) := by
  rw [← Array.getElem?_toList, R.rows]
  unfold rowsN
  rw [List.getElem?_map, h] <;> rfl
theorem SetN.gw (R : SetN P w s.heap a L es ep t) : ¬ t.gaveWay = true := by
  unfold SetTable.gaveWay
  rw [mask_odd R.tab.mok]
  decide
/-- THE SEARCH: from the c-th step of the way on -/
theorem srch_from (R : SetN P w s.heap a L es ep t) {x : Addr} {k : NestedKey} (hx : Nk s.heap k x) (hu : A.units + 8 < cLine) {K : Nat} (hKf : K < 10 * SetTable.turns t.mask)
    (hK : way t.mask (nhash w k) K ∉ t.place.toList) (hKb : ∀ c, c < K → way t.mask (nhash w k) c ∈ t.place.toList) {Q : SetFound → Shared → Prop}
    (hin : k ∈ L.map (·.2) → Q (.there none) s) (hout : k ∉ L.map (·.2) → Q (.free (way t.mask (nhash w k) K) false) s) :
    ∀ (f c : Nat) (stand : Option SetTable.Probe), stand.getD (t.probeStart (nhash w k)) = nth t.mask (runAt t.mask (SetTable.bits (nhash w k) % (t.mask + 1)) (SetTable.bits (nhash w k))) c → c ≤ K → K - c < f →
      (∀ (i : Nat) p, L[i]? = some p → p.2 = k → ∃ c', c ≤ c' ∧ c' < K ∧ t.place.toList[i]? = some (way t.mask (nhash w k) c')) →
      wpAny (model P w) A (setSearchFrom a (.ref x) (nhash w k) true f stand) Q E s
  | 0, c, stand, _, _, hf, _ => absurd hf (Nat.not_lt_zero _)
  | f + 1, c, stand, hst, hc, hf, hre => by
    obtain ⟨o, ho, hex, hd⟩ := R.ob
    rw [setSearchFrom_succ]
    refine wpAny_bind (wpAny_setState_of ho hd R.fits ?_)
    dsimp only
    refine wp_if_neg R.gw ?_
    try refine wpAny_bind (wpAny_pure ?_)
    have hnd : (nth t.mask (runAt t.mask (SetTable.bits (nhash w k) % (t.mask + 1)) (SetTable.bits (nhash w k))) c).dummy = none := by
      have key : ∀ (n : Nat) (p : SetTable.Probe), p.dummy = none → (nth t.mask p n).dummy = none := by
        intro n
        induction n with
        | zero => intro p h; exact h
        | succ n ih =>
          intro p h
          refine ih (adv t.mask p) ?_
          unfold adv
          split <;> exact h
      exact key c _ rfl
    have sh : ∀ q, nth t.mask (nth t.mask (runAt t.mask (SetTable.bits (nhash w k) % (t.mask + 1)) (SetTable.bits (nhash w k))) c) q = nth t.mask (runAt t.mask (SetTable.bits (nhash w k) % (t.mask + 1)) (SetTable.bits (nhash w k))) (c + q) := fun q => (nth_add t.mask c _ q).symm
    have e1 : ∀ q, (nth t.mask (nth t.mask (runAt t.mask (SetTable.bits (nhash w k) % (t.mask + 1)) (SetTable.bits (nhash w k))) c) q).j = way t.mask (nhash w k) (c + q) := fun q => congrArg SetTable.Probe.j (sh q)
    have spec := go_spec t R.tab.ris R.tab.dm (fun i => (es[i]?.map (·.1)).getD 0) (nhash w k) (10 * SetTable.turns t.mask) (K - c) _ hnd (by omega)
      (fun q hq => by rw [e1]; exact hKb (c + q) (by omega)) (by rw [e1, show c + (K - c) = K by omega]; exact hK)
    have hashAt : ∀ (i : Nat) p, L[i]? = some p → (fun i => (es[i]?.map (·.1)).getD 0) i = nhash w p.2 := fun i p hp => by
      show (es[i]?.map (·.1)).getD 0 = _
      rw [R.entry hp] <;> rfl
    rcases spec with ⟨q, i, hq, hi, hh, hno, hpr⟩ | ⟨hno, hpr⟩
    · -- a candidate
      have hpr' : t.probe (fun i => (es[i]?.map (·.1)).getD 0) (nhash w k) (stand.getD (t.probeStart (nhash w k))) = some (.candidate (way t.mask (nhash w k) (c + q)) i (nth t.mask (runAt t.mask (SetTable.bits (nhash w k) % (t.mask + 1)) (SetTable.bits (nhash w k))) (c + (q + 1)))) := by
        rw [hst, ← e1, ← sh]
        exact hpr
      rw [hpr']
      dsimp only
      rw [e1] at hi
      -- the entry
      have hil : i < L.length := by
        have h1 : i < t.place.toList.length := (List.getElem?_eq_some_iff.mp hi).1
        have h2 := R.tab.sz
        rw [List.length_map] at h2
        rw [Array.length_toList] at h1
        omega
      have hp : L[i]? = some L[i] := List.getElem?_eq_getElem hil
      generalize hpe : L[i] = p at hp
      have hmem : p ∈ L := List.mem_of_getElem? hp
      have hpt := R.tup p hmem
      have rest : wpAny (model P w) A (searchRest a (.ref x) (nhash w k) true f es t (way t.mask (nhash w k) (c + q)) i (nth t.mask (runAt t.mask (SetTable.bits (nhash w k) % (t.mask + 1)) (SetTable.bits (nhash w k))) (c + (q + 1)))) Q E s := by
        unfold searchRest
        rw [R.entry hp]
        dsimp only
        refine wpAny_bind (wpAny_holding (nk_eq hu hpt hx ?_))
        refine wpAny_bind (wpAny_setState_of ho hd R.fits ?_)
        dsimp only
        by_cases hkk : p.2 = k
        · refine wp_if_pos (by simp [hkk]) ?_
          refine wpAny_pure (hin ?_)
          exact List.mem_map.mpr ⟨p, hmem, hkk⟩
        · refine wp_if_neg (by simp [hkk]) ?_
          try refine wpAny_bind (wpAny_pure ?_)
          rw [sameMem]
          dsimp only
          have hsl : t.slot (way t.mask (nhash w k) (c + q)) = .live i := slot_live R.tab.ris hi
          simp only [if_true, hsl, R.entry hp]
          refine wpAny_bind (wpAny_isSame_ref_self (wpAny_bind (wpAny_pure ?_)))
          simp only [if_true]
          refine wp_if_neg (by simp [hkk]) ?_
          refine srch_from R hx hu hKf hK hKb hin hout f (c + (q + 1)) _ rfl (by omega) (by omega) fun i0 p0 h0 hk0 => ?_
          obtain ⟨c', a1, a2, a3⟩ := hre i0 p0 h0 hk0
          refine ⟨c', ?_, a2, a3⟩
          -- it isn't passed
          rcases Nat.lt_or_ge c' (c + q) with z | z
          · exfalso
            refine hno (c' - c) i0 (by omega) (by rw [e1, show c + (c' - c) = c' by omega]; exact a3) ?_
            exact (hashAt i0 p0 h0).trans (congrArg (nhash w) hk0)
          · rcases Nat.lt_or_ge (c + q) c' with y | y
            · omega
            · exfalso
              have ec : c' = c + q := Nat.le_antisymm y z
              rw [ec] at a3
              have s0 := slot_live R.tab.ris a3
              rw [hsl] at s0
              injection s0 with s0
              rw [← s0, hp] at h0
              exact hkk ((congrArg Prod.snd (Option.some.inj h0)).trans hk0)
      by_cases hl : t.led = true
      · refine wp_if_neg (by simp [hl]) ?_
        try refine wpAny_bind (wpAny_pure ?_)
        exact rest
      · refine wp_if_pos (by simp [hl]) ?_
        refine wpAny_bind (seen_nk hx (fun y hy => ?_) ?_)
        · obtain ⟨e, he, ee⟩ := List.mem_map.mp hy
          have he1 : e ∈ es ∧ e.1 = nhash w k := by simpa using he
          have he2 : e ∈ es.toList := by simpa using he1.1
          rw [R.rows] at he2
          obtain ⟨p2, hp2, e2⟩ := List.mem_map.mp he2
          refine ⟨p2.2, p2.1, ?_, R.tup p2 hp2⟩
          rw [← ee, ← e2]
        · refine wp_if_neg (by decide) ?_
          try refine wpAny_bind (wpAny_pure ?_)
          exact rest
    · -- the empty slot
      have hpr' : t.probe (fun i => (es[i]?.map (·.1)).getD 0) (nhash w k) (stand.getD (t.probeStart (nhash w k))) = some (.empty (way t.mask (nhash w k) K) none) := by
        have e2 : way t.mask (nhash w k) K = (nth t.mask (nth t.mask (runAt t.mask (SetTable.bits (nhash w k) % (t.mask + 1)) (SetTable.bits (nhash w k))) c) (K - c)).j := by
          rw [e1, show c + (K - c) = K by omega]
        rw [hst, e2]
        exact hpr
      rw [hpr']
      dsimp only
      refine wpAny_pure (hout fun hm => ?_)
      obtain ⟨p0, h0, hk0⟩ := List.mem_map.mp hm
      obtain ⟨i0, hi0, e0⟩ := List.getElem_of_mem h0
      have h00 : L[i0]? = some p0 := by rw [List.getElem?_eq_getElem hi0, e0]
      obtain ⟨c', a1, a2, a3⟩ := hre i0 p0 h00 hk0
      refine hno (c' - c) i0 (by omega) (by rw [e1, show c + (c' - c) = c' by omega]; exact a3) ?_
      exact (hashAt i0 p0 h00).trans (congrArg (nhash w) hk0)

/-- the search as adding asks for it -/
theorem srch_at (R : SetN P w s.heap a L es ep t) {x : Addr} {k : NestedKey} (hx : Nk s.heap k x) (hu : A.units + 8 < cLine) {Q : SetFound → Shared → Prop}
    (hin : k ∈ L.map (·.2) → Q (.there none) s)
    (hout : ∀ K, k ∉ L.map (·.2) → way t.mask (nhash w k) K ∉ t.place.toList → (∀ c, c < K → way t.mask (nhash w k) c ∈ t.place.toList) → Q (.free (way t.mask (nhash w k) K) false) s) :
    wpAny (model P w) A (setSearch a (.ref x) (nhash w k) true) Q E s := by
  have hroom := R.room
  obtain ⟨K, hKf, hK, hKb⟩ := R.tab.first (by rw [List.length_map]; omega) (nhash w k)
  have hbig : K < 100000 := by
    have : 10 * SetTable.turns t.mask ≤ 1420 := by
      unfold SetTable.turns
      rcases R.tab.mok with e | e | e <;> omega
    omega
  unfold setSearch
  refine srch_from R hx hu hKf hK hKb hin (fun hn => hout K hn hK hKb) 100000 0 none rfl (Nat.zero_le _) (by omega) fun i p hp hk => ?_
  have hi : (L.map fun p => nhash w p.2)[i]? = some (nhash w k) := by rw [List.getElem?_map, hp, ← hk] <;> rfl
  have hil : i < t.place.toList.length := by
    have h1 : i < L.length := (List.getElem?_eq_some_iff.mp hp).1
    have h2 := R.tab.sz
    rw [List.length_map] at h2
    rw [Array.length_toList]
    omega
  have hj := List.getElem?_eq_getElem hil
  obtain ⟨c, hc, e⟩ := R.tab.before hK hi hj
  exact ⟨c, Nat.zero_le _, hc, by rw [hj, e]⟩
end
end NsT

namespace NsT
open PySem PySem.Spec PyProof.Rows L2
section
variable {P : Program} {w : World} {A : Around} {E : Value → Shared → Prop} {s : Shared}
theorem nk_same {h h' : Heap} {k : NestedKey} {a b : Addr} {o : Obj} {es : Array (Int × Value)} {ep : Nat} {t : SetTable} (hb : Nk h k b) (ho : h.get? a = some o) (hd : o.data = .set es ep t) (hs : Heap.SameBut a h h') : Nk h' k b :=
  ⟨NestedIs.at (fun c u vs n hc he => (hs.2 c fun e => by
    subst e
    rw [ho] at hc
    cases hc
    rw [hd] at he
    cases he).trans hc) k _ hb.1, hb.2⟩
theorem rputN (L : List (Addr × NestedKey)) (p : Nat) (x : Addr) (k : NestedKey) : rowsN P w (L.take p ++ (x, k) :: L.drop p) = (rowsN P w L).take p ++ (nhash w k, Value.ref x) :: (rowsN P w L).drop p := by
  unfold rowsN
  rw [List.map_append, List.map_cons, List.map_take, List.map_drop]
theorem ordN (L : List (Addr × NestedKey)) (es : Array (Int × Value)) (order : Array Nat) (hr : es.toList = rowsN P w L) (hp : order.toList.Perm (List.range L.length)) :
    ∃ L2, (order.filterMap (es[·]?)).toList = rowsN P w L2 ∧ L2.Perm L ∧ (L2.map fun p => nhash w p.2) = order.toList.map fun i => (es.map (·.1)).getD i 0 := by
  have hsz : es.size = L.length := by
    have h := congrArg List.length hr
    unfold rowsN at h
    rw [Array.length_toList, List.length_map] at h
    exact h
  have ent : ∀ i (h : i < L.length), es[i]? = some (nhash w (L[i]).2, Value.ref (L[i]).1) := fun i h => by
    rw [← Array.getElem?_toList, hr]
    unfold rowsN
    rw [List.getElem?_map, List.getElem?_eq_getElem h] <;> rfl
  have key : ∀ l : List Nat, (∀ i ∈ l, i < L.length) → ∃ L2 : List (Addr × NestedKey), l.filterMap (fun i => es[i]?) = rowsN P w L2 ∧ L2 = l.filterMap (fun i => L[i]?) ∧ (L2.map fun p => nhash w p.2) = l.map fun i => (es.map (·.1)).getD i 0 := by
    intro l
    induction l with
    | nil => intro _; exact ⟨[], rfl, rfl, rfl⟩
    | cons i l ih =>
      intro hl
      have hi := hl i List.mem_cons_self
      obtain ⟨L2, e1, e2, e3⟩ := ih fun j hj => hl j (List.mem_cons_of_mem _ hj)
      refine ⟨L[i] :: L2, ?_, ?_, ?_⟩
      · rw [List.filterMap_cons_some (ent i hi), e1] <;> rfl
      · rw [List.filterMap_cons_some (List.getElem?_eq_getElem hi), e2]
      · rw [List.map_cons, List.map_cons, e3]
        have hi2 : i < (es.map (·.1)).size := by rw [Array.size_map, hsz]; exact hi
        have e4 : (es.map (·.1)).getD i 0 = nhash w (L[i]).2 := by
          have e5 : (es.map (·.1))[i]? = some (nhash w (L[i]).2) := by rw [Array.getElem?_map, ent i hi] <;> rfl
          simp [Array.getD_eq_getD_getElem?, e5]
        rw [e4]
  obtain ⟨L2, e1, e2, e3⟩ := key order.toList fun i hi => List.mem_range.mp (hp.mem_iff.mp hi)
  refine ⟨L2, by first | (rw [Array.toList_filterMap]; exact e1) | simpa using e1, ?_, e3⟩
  have h1 : L2.Perm ((List.range L.length).filterMap fun i => L[i]?) := by
    rw [e2]
    exact hp.filterMap _
  have h2 : (List.range L.length).filterMap (fun i => L[i]?) = L := by
    have key2 : ∀ n, n ≤ L.length → (List.range n).filterMap (fun i => L[i]?) = L.take n := by
      intro n
      induction n with
      | zero => intro _; rfl
      | succ n ih =>
        intro hn
        have hlt : n < L.length := hn
        rw [List.range_succ, List.filterMap_append, ih (Nat.le_of_lt hlt), List.take_succ, List.getElem?_eq_getElem hlt]
        rw [List.filterMap_cons_some (List.getElem?_eq_getElem hlt)] <;> rfl
    rw [key2 L.length (Nat.le_refl _), List.take_length]
  rw [h2] at h1
  exact h1

variable {a : Addr} {L : List (Addr × NestedKey)} {es : Array (Int × Value)} {ep : Nat} {t : SetTable}
/-- the table laid anew, larger -/
theorem rely_at {o : Obj} (ho : s.heap.get? a = some o) (hex : o.ExactSet) (hd : o.data = .set es ep t) (hrows : es.toList = rowsN P w L) (hsz : t.place.size = es.size) (hdm : t.dummies = #[]) (hfl : es.size ≤ t.mask)
    (nd : (L.map (·.2)).Nodup) (tup : ∀ p ∈ L, Nk s.heap p.2 p.1) (ld : w.params.followText "set-order" = true ∨ t.led = true) (few : L.length < 77) {wanted M : Nat}
    (hw : SetTable.sizeAbove wanted - 1 = M) (hM : MaskOk M) (hw2 : SetTable.sizeAbove wanted ≤ 128) (hn : L.length * 5 < M * 3) {Q : Unit → Shared → Prop}
    (hQ : ∀ h' L' es' ep' t', Heap.SameBut a s.heap h' → SetN P w h' a L' es' ep' t' → L'.Perm L → Q () { s with heap := h' }) : wpAny (model P w) A (setRelay a wanted) Q E s := by
  have hsl : es.size = L.length := by
    have h := congrArg List.length hrows
    unfold rowsN at h
    rw [Array.length_toList, List.length_map] at h
    exact h
  have hfits : t.fits es.size = true := by
    unfold SetTable.fits SetTable.fill
    rw [hdm, Bool.and_eq_true, beq_iff_eq, decide_eq_true_eq]
    show t.place.size = es.size ∧ t.place.size + 0 ≤ t.mask
    omega
  obtain ⟨t', order, e, hp, T, em, el, ep', ed⟩ := relaid_ok t (hs := es.map (·.1)) (wanted := wanted) hw hM (by rw [Array.size_map, hsl]; omega)
  rw [Array.size_map, hsl] at hp
  obtain ⟨L2, r1, r2, r3⟩ := ordN L es order hrows hp
  rw [← r3] at T
  have hs2 : (order.filterMap (es[·]?)).size = es.size := by
    have h := congrArg List.length r1
    unfold rowsN at h
    rw [Array.length_toList, List.length_map, r2.length_eq] at h
    rw [h, hsl]
  rw [setRelay_eq]
  refine wpAny_bind (wpAny_setState_of ho hd hfits ?_)
  dsimp only
  refine wp_if_neg (by rw [sizeLine_eq]; omega) ?_
  try refine wpAny_bind (wpAny_pure ?_)
  rw [e]
  dsimp only
  refine wpAny_bind ?_
  refine wp_if_neg (by rw [hs2]; simp) ?_
  try refine wpAny_bind (wpAny_pure ?_)
  refine wpAny_pure ?_
  dsimp only
  refine wpAny_storeSet_of ho hd ?_ (by rw [hs2, hsl, sizeLine_eq]; omega)
  have sb : Heap.SameBut a s.heap (s.heap.update a (Obj.putSet (order.filterMap (es[·]?)) t')) := Heap.SameBut.update ..
  refine hQ _ L2 (order.filterMap (es[·]?)) (ep + 1) t' sb ?_ r2
  refine ⟨⟨_, store_at ho hd, ⟨hex.1, hex.2.1, hex.2.2⟩, rfl⟩, r1, T, ?_, fun p hpm => nk_same (tup p (r2.mem_iff.mp hpm)) ho hd sb, by rw [el]; exact ld, ?_, by rw [r2.length_eq]; exact few⟩
  · exact (r2.map (·.2)).nodup_iff.mpr nd
  · rw [r2.length_eq, em]
    exact hn

/-- ADDING -/
theorem addN (R : SetN P w s.heap a L es ep t) {x : Addr} {k : NestedKey} (hx : Nk s.heap k x) (hu : A.units + 8 < cLine) (hfew : L.length + 1 < 77) {Q : Bool → Shared → Prop}
    (hQ : ∀ b h' L' es' ep' t', Heap.SameBut a s.heap h' → SetN P w h' a L' es' ep' t' → (k ∈ L.map (·.2) → L' = L) → (k ∉ L.map (·.2) → L'.Perm ((x, k) :: L)) → Q b { s with heap := h' }) :
    wpAny (model P w) A (setAddHashed a (.ref x) (nhash w k)) Q E s := by
  obtain ⟨o, ho, hex, hd⟩ := R.ob
  have hsl := R.size
  have hroom := R.room
  unfold setAddHashed
  refine wpAny_holding ?_
  rw [show (100000 : Nat) = 99999 + 1 from rfl, setAddHashedIn_succ]
  refine wpAny_bind (wpAny_setState_of ho hd R.fits ?_)
  dsimp only
  refine wp_if_neg (by simp [byScan, Value.scannable]) ?_
  try refine wpAny_bind (wpAny_pure ?_)
  refine wpAny_bind (srch_at R hx hu (fun hm => ?_) fun K hm hK hb => ?_)
  · dsimp only
    exact wpAny_pure (hQ false s.heap L es ep t (Heap.SameBut.refl a s.heap) R (fun _ => rfl) fun z => absurd hm z)
  · dsimp only
    refine wpAny_bind (wpAny_setState_of ho hd R.fits ?_)
    dsimp only
    obtain ⟨q1, q2, q3, q4, q5, q6, q7, q8, q9⟩ := R.tab.put hK hb
    generalize hpt : t.put (way t.mask (nhash w k) K) = pt at q1 q3 q4 q5 q6 q7 q8 q9 ⊢
    obtain ⟨t1, p⟩ := pt
    dsimp only at q1 q3 q4 q5 q6 q7 q8 q9 ⊢
    subst q1
    refine bv_any hx fun bv => ?_
    obtain ⟨t2, et2, c1, c2, c3, c4, c5⟩ := plain_any t1 bv
    rw [et2]
    replace q3 := tab_any c1 c2 c3 q3
    replace q4 : t2.mask = t.mask := c3.trans q4
    replace q5 : t2.led = t.led := c4.trans q5
    replace q9 := c5.trans q9
    clear et2 c1 c2 c3 c4 c5 q6 q7 q8
    generalize t2 = t1 at q3 q4 q5 q9 ⊢
    have hin : (SetTable.insertAt es (SetTable.below t.place (way t.mask (nhash w k) K)) (nhash w k, Value.ref x)).toList = rowsN P w (L.take (SetTable.below t.place (way t.mask (nhash w k) K)) ++ (x, k) :: L.drop (SetTable.below t.place (way t.mask (nhash w k) K))) := by
      rw [SetTable.toList_insertAt, rputN, R.rows]
    generalize hpp : SetTable.below t.place (way t.mask (nhash w k) K) = p at q2 q3 hin ⊢
    have pm := put_perm L p (x, k)
    have hlen : (L.take p ++ (x, k) :: L.drop p).length = L.length + 1 := pm.length_eq
    have hhs : (L.take p ++ (x, k) :: L.drop p).map (fun p => nhash w p.2) = (L.map fun p => nhash w p.2).take p ++ nhash w k :: (L.map fun p => nhash w p.2).drop p := by
      rw [List.map_append, List.map_cons, List.map_take, List.map_drop]
    rw [← hhs] at q3
    have nd1 : ((L.take p ++ (x, k) :: L.drop p).map (·.2)).Nodup := by
      refine (pm.map (·.2)).nodup_iff.mpr ?_
      rw [List.map_cons]
      exact List.nodup_cons.mpr ⟨hm, R.nd⟩
    have hes : (SetTable.insertAt es p (nhash w k, Value.ref x)).size = L.length + 1 := by
      have h := congrArg List.length hin
      unfold rowsN at h
      rw [Array.length_toList, List.length_map, hlen] at h
      exact h
    generalize SetTable.insertAt es p (nhash w k, Value.ref x) = es1 at hin hes ⊢
    generalize L.take p ++ (x, k) :: L.drop p = L1 at pm hlen q3 nd1 hin
    refine wpAny_bind (wpAny_storeSet_of ho hd ?_ (by rw [hes, sizeLine_eq]; omega))
    have sb : Heap.SameBut a s.heap (s.heap.update a (Obj.putSet es1 t1)) := Heap.SameBut.update ..
    have ho1 := store_at (es' := es1) (t' := t1) ho hd
    generalize s.heap.update a (Obj.putSet es1 t1) = h1 at sb ho1 ⊢
    have tup1 : ∀ p ∈ L1, Nk h1 p.2 p.1 := fun p hp => by
      rcases List.mem_cons.mp (pm.mem_iff.mp hp) with e | hp
      · rw [e]; exact nk_same hx ho hd sb
      · exact nk_same (R.tup p hp) ho hd sb
    have ld1 : w.params.followText "set-order" = true ∨ t1.led = true := by rw [q5]; exact R.led
    by_cases hf : t1.tooFull = true
    · first
        | (refine wpAny_bind ?_; refine wp_if_pos (by simp [hf]) ?_)
        | (refine wp_if_pos (by simp [hf]) ?_; refine wpAny_bind ?_)
      have hfull : (L.length + 1) * 5 ≥ t1.mask * 3 := by
        have h := hf
        unfold SetTable.tooFull at h
        rw [decide_eq_true_eq, q9, List.length_map] at h
        exact h
      rw [hsl]
      have hsz1 : t1.place.size = es1.size := by
        have h := q3.sz
        rw [List.length_map, hlen] at h
        rw [h, hes]
      have cases2 : (t.mask = 7 ∧ L.length = 4) ∨ (t.mask = 31 ∧ L.length = 18) := by
        rcases R.tab.mok with e | e | e
        · left; rw [q4, e] at hfull; rw [e] at hroom; exact ⟨e, by omega⟩
        · right; rw [q4, e] at hfull; rw [e] at hroom; exact ⟨e, by omega⟩
        · exfalso; rw [q4, e] at hfull; omega
      have go : ∀ M, SetTable.sizeAbove (SetTable.grown (L.length + 1)) - 1 = M → MaskOk M → SetTable.sizeAbove (SetTable.grown (L.length + 1)) ≤ 128 → (L.length + 1) * 5 < M * 3 →
          wpAny (model P w) A (setRelay a (SetTable.grown (L.length + 1))) (fun _ s' => wpAny (model P w) A (pure true) Q E s') E { s with heap := h1 } := fun M h1' h2' h3' h4' => by
        refine rely_at (s := { s with heap := h1 }) ho1 ⟨hex.1, hex.2.1, hex.2.2⟩ rfl hin hsz1 q3.dm (by rw [hes, q4]; rcases cases2 with ⟨e, e2⟩ | ⟨e, e2⟩ <;> omega) nd1 tup1 ld1 (by rw [hlen]; exact hfew) h1' h2' h3' (by rw [hlen]; exact h4') ?_
        intro h2 L2 es2 ep2 t2 sb2 R2 pm2
        refine wpAny_pure (hQ true h2 L2 es2 ep2 t2 (sb.trans sb2) R2 (fun z => absurd z hm) fun _ => pm2.trans pm)
      rcases cases2 with ⟨_, e2⟩ | ⟨_, e2⟩
      · refine go 31 (by rw [e2, size_20]) (.inr (.inl rfl)) (by rw [e2, size_20]; decide) (by omega)
      · refine go 127 (by rw [e2, size_76]) (.inr (.inr rfl)) (by rw [e2, size_76]; decide) (by omega)
    · first
        | refine wp_if_neg (by simp [hf]) ?_
        | (refine wpAny_bind ?_; refine wp_if_neg (by simp [hf]) ?_; refine wpAny_pure ?_)
      refine wpAny_pure (hQ true h1 L1 es1 (ep + 1) t1 sb ⟨⟨_, ho1, ⟨hex.1, hex.2.1, hex.2.2⟩, rfl⟩, hin, q3, nd1, tup1, ld1, ?_, by rw [hlen]; exact hfew⟩ (fun z => absurd z hm) fun _ => pm)
      have h := hf
      unfold SetTable.tooFull at h
      rw [decide_eq_true_eq, q9, List.length_map] at h
      rw [hlen]
      omega
end
end NsT

namespace NsT
open PySem PySem.Spec PyProof.Rows L2

/-- what the set has got from the first i items -/
structure GotN (ks : List (Addr × NestedKey)) (i : Nat) (L : List (Addr × NestedKey)) : Prop where
  sub : ∀ p ∈ L, p ∈ ks.take i
  all : ∀ p ∈ ks.take i, p.2 ∈ L.map (·.2)
  len : L.length ≤ i
theorem GotN.zero (ks : List (Addr × NestedKey)) : GotN ks 0 [] := ⟨fun p h => (by cases h), fun p h => (by simp at h), Nat.le_refl _⟩
theorem GotN.same {ks L : List (Addr × NestedKey)} {i : Nat} {x : Addr × NestedKey} (g : GotN ks i L) (h : ks[i]? = some x) (hm : x.2 ∈ L.map (·.2)) : GotN ks (i + 1) L := by
  refine ⟨fun p hp => ?_, fun p hp => ?_, Nat.le_succ_of_le g.len⟩
  · rw [take_next h]
    exact List.mem_append_left _ (g.sub p hp)
  · rw [take_next h] at hp
    rcases List.mem_append.mp hp with z | z
    · exact g.all p z
    · rw [List.mem_singleton.mp z]; exact hm
theorem GotN.more {ks L L' : List (Addr × NestedKey)} {i : Nat} {x : Addr × NestedKey} (g : GotN ks i L) (h : ks[i]? = some x) (pm : L'.Perm (x :: L)) : GotN ks (i + 1) L' := by
  refine ⟨fun p hp => ?_, fun p hp => ?_, ?_⟩
  · rw [take_next h]
    rcases List.mem_cons.mp (pm.mem_iff.mp hp) with e | z
    · rw [e]; exact List.mem_append_right _ (List.mem_singleton.mpr rfl)
    · exact List.mem_append_left _ (g.sub p z)
  · rw [(pm.map (·.2)).mem_iff, List.map_cons]
    rw [take_next h] at hp
    rcases List.mem_append.mp hp with z | z
    · exact List.mem_cons_of_mem _ (g.all p z)
    · rw [List.mem_singleton.mp z]; exact List.mem_cons_self
  · rw [pm.length_eq, List.length_cons]
    exact Nat.succ_le_succ g.len

section
variable {P : Program} {w : World} {A : Around} {E : Value → Shared → Prop} {s : Shared}
theorem nk_keep {h h' : Heap} {k : NestedKey} {b : Addr} (x : Nk h k b) (kp : ∀ c o, h.get? c = some o → h'.get? c = some o) : Nk h' k b := ⟨NestedIs.at (fun c u _ _ hc _ => kp c u hc) k _ x.1, x.2⟩
theorem SetN.keep {h h' : Heap} {a : Addr} {L : List (Addr × NestedKey)} {es : Array (Int × Value)} {ep : Nat} {t : SetTable} (R : SetN P w h a L es ep t) (ha : ∀ o, h.get? a = some o → h'.get? a = some o) (ht : ∀ p ∈ L, Nk h' p.2 p.1) : SetN P w h' a L es ep t := by
  obtain ⟨o, ho, r⟩ := R.ob
  exact ⟨⟨o, ha o ho, r⟩, R.rows, R.tab, R.nd, ht, R.led, R.room, R.few⟩
/-- a new set -/
theorem setN_fresh {h : Heap} {a : Addr} (ho : h.get? a = some { cls := .type "set", dict := none, data := .set #[] 0 (.fresh 0 0 (!w.params.followText "set-order")) }) : SetN P w h a [] #[] 0 (.fresh 0 0 (!w.params.followText "set-order")) where
  ob := ⟨_, ho, ⟨rfl, rfl, rfl⟩, rfl⟩
  rows := rfl
  tab := ⟨List.Pairwise.nil, rfl, rfl, .inl rfl, fun x hx => (by cases hx), fun i h j hi => (by simp at hi)⟩
  nd := List.nodup_nil
  tup := fun p hp => (by cases hp)
  led := by
    show _ ∨ (!w.params.followText "set-order") = true
    cases w.params.followText "set-order"
    · exact .inr rfl
    · exact .inl rfl
  room := by
    show 0 * 5 < 7 * 3
    decide
  few := by
    show 0 < 77
    decide

/-- set.update's loop -/
theorem updN {I : Addr} {fp wr : List Addr} {G : Array GenState → Array GenState → Prop} {n : Nat} {Pv : Nat → Value → Prop} {St : Nat → Shared → Prop} {R : Result → Shared → Prop}
    (W : WalksS P w A.in1 I fp wr G n Pv St) (S : Addr) (hSf : S ∉ fp) (ks : List (Addr × NestedKey)) (hn : n = ks.length) (hfew : ks.length < 77) (hval : ∀ i v, Pv i v → ∃ p, ks[i]? = some p ∧ v = .ref p.1)
    (h0 : Heap) (hk : ∀ p ∈ ks, Nk h0 p.2 p.1) (hS0 : h0.get? S = none) (hw0 : ∀ b ∈ wr, h0.get? b = none) (hu : A.in1.units + 8 < cLine) :
    ∀ (k i : Nat) (s : Shared), n - i = k → i ≤ n → St i s → (∀ b o, h0.get? b = some o → s.heap.get? b = some o) → (∃ L es ep t, SetN P w s.heap S L es ep t ∧ GotN ks i L) →
      (∀ s' L es ep t, Moved (S :: wr) G s s' → SetN P w s'.heap S L es ep t → GotN ks n L → (∀ b o, h0.get? b = some o → s'.heap.get? b = some o) → R (.ok (.ret .none)) s') →
      codeAny (model P w) A (.builtin "set.update.loop" ⟨[.ref S, .ref I], []⟩) R s := by
  have hSw : S ∉ wr := fun h => hSf (W.sub _ h)
  have hsub : ∀ b ∈ wr, b ∈ S :: wr := fun b hb => List.mem_cons_of_mem _ hb
  have keepM : ∀ {s s' : Shared}, Moved wr G s s' → (∀ b o, h0.get? b = some o → s.heap.get? b = some o) → ∀ b o, h0.get? b = some o → s'.heap.get? b = some o := fun hm hkp b o e =>
    hm.heap b o (fun hb => by rw [hw0 b hb] at e; cases e) (hkp b o e)
  intro k
  induction k with
  | zero =>
    intro i s hk' hi hst hkp ⟨L, es, ep, t, hS, g⟩ hR
    have hin : i = n := by omega
    subst hin
    refine codeAny_builtin F.entry_set_update_loop ?_
    rw [Around.under_plainId F.plain_set_update_loop _]
    show wpAny _ A.in1 (pyNext (.ref I) >>= _) _ _ s
    refine wpAny_bind (W.done s _ _ hst fun s' hm => ?_)
    show wpAny _ A.in1 (ret Value.none) _ _ s'
    have hkp' := keepM hm hkp
    have sub : ∀ p ∈ L, p ∈ ks := fun p hp => List.mem_of_mem_take (g.sub p hp)
    exact wpAny_pure (hR s' L es ep t (hm.mono hsub) (hS.keep (fun o e => hm.heap S o hSw e) fun p hp => nk_keep (hk p (sub p hp)) hkp') g hkp')
  | succ k ih =>
    intro i s hk' hi hst hkp ⟨L, es, ep, t, hS, g⟩ hR
    have hlt : i < n := by omega
    refine codeAny_builtin F.entry_set_update_loop ?_
    rw [Around.under_plainId F.plain_set_update_loop _]
    show wpAny _ A.in1 (pyNext (.ref I) >>= _) _ _ s
    refine wpAny_bind (W.item i s _ _ hlt hst fun v s' hP hst' hm => ?_)
    obtain ⟨p, hp, rfl⟩ := hval i v hP
    have hkp' := keepM hm hkp
    have sub : ∀ p ∈ L, p ∈ ks := fun p hp => List.mem_of_mem_take (g.sub p hp)
    have hS' : SetN P w s'.heap S L es ep t := hS.keep (fun o e => hm.heap S o hSw e) fun q hq => nk_keep (hk q (sub q hq)) hkp'
    have hx : Nk s'.heap p.2 p.1 := nk_keep (hk p (List.mem_of_getElem? hp)) hkp'
    show wpAny _ A.in1 (holding [Value.ref p.1] (setAdd S (.ref p.1)) >>= _) _ _ s'
    refine wpAny_bind (wpAny_holding ?_)
    unfold setAdd
    refine wpAny_holding ?_
    refine wpAny_bind (nk_hash hu hx ?_)
    refine addN (s := { s' with toks := s'.toks + p.2.draws }) hS' hx hu (by have := g.len; omega) fun b h' L' es' ep' t' hsb hS2 c1 c2 => ?_
    have g' : GotN ks (i + 1) L' := by
      rcases Classical.em (p.2 ∈ L.map (·.2)) with c | c
      · rw [c1 c]; exact g.same hp c
      · exact g.more hp (c2 c)
    have hkp2 : ∀ b o, h0.get? b = some o → h'.get? b = some o := fun b o e => (hsb.2 b (fun z => by rw [z, hS0] at e; cases e)).trans (hkp' b o e)
    refine wpAny_pure ⟨plainId_quiet F.plain_set_update_loop _, ih (i + 1) _ (by omega) hlt (W.frame _ s' _ _ hst' (Nat.le_add_right _ _) fun b hb o e => ?_) hkp2 ⟨L', es', ep', t', hS2, g'⟩ fun s'' L2 es2 ep2 t2 hm'' hS'' g'' hkp'' => ?_⟩
    · rw [hsb.2 b (fun h : b = S => hSf (by rw [← h]; exact hb))]; exact e
    · refine hR s'' L2 es2 ep2 t2 (Moved.trans W.gtrans ((hm.mono hsub).then_heap (Nat.le_add_right _ _) fun b o hb e => ?_) hm'') hS'' g'' hkp''
      rw [hsb.2 b (fun h : b = S => hb (by rw [h]; exact List.mem_cons_self))]; exact e

set_option maxRecDepth 100000 in
set_option maxHeartbeats 3200000 in
/-- set(xs) -/
theorem call_setN {l : Addr} {items : Array Value} (ks : List (Addr × NestedKey)) {Q : Value → Shared → Prop} (hh : A.handled = none) (hl : s.heap.IsList l items) (hit : items.toList = ks.map fun p => Value.ref p.1)
    (hk : ∀ p ∈ ks, Nk s.heap p.2 p.1) (hfew : ks.length < 77) (hu : A.units + 12 < cLine)
    (h : ∀ (h' : Heap) (tk : Nat) L es ep t, SetN P w h' s.heap.objs.size L es ep t → GotN ks ks.length L → (∀ b o, s.heap.get? b = some o → h'.get? b = some o) → Q (.ref s.heap.objs.size) { s with heap := h', toks := tk }) :
    wpAny (model P w) A (call (.type "set") [.ref l]) Q E s := by
  have hisz : items.size = ks.length := by
    have q := congrArg List.length hit
    rw [Array.length_toList, List.length_map] at q
    exact q
  obtain ⟨c, tl, hmro⟩ := F.called_set.mro
  have hmade := F.called_set.made
  have hsub := F.called_set.sub
  refine wpAny_call (codeAny_of_tree ?_)
  show wpAny _ _ (callAny (.type "set") _) _ _ _
  refine wpAny_pure ⟨Code.quiet_builtin _ (by decide +kernel), codeAny_builtin F.entry_type_call ?_⟩
  rw [Around.under_plain (weight_type_call_type "set" [.ref l] []) rfl]
  have h1 := F.called_set.notType
  have h2 := F.called_set.canCreate
  have hct := F.typeCall_set_1 (.ref l)
  repeat (any_goals (first | assumption | wp_step))

  refine codeAny_mono (code_set_led1 (.ref l) (E := E) (Q₁ := fun obj s₁ => obj = .ref s.heap.objs.size ∧ s₁ = { s with heap := s.heap.push { cls := .type "set", dict := none, data := .set #[] 0 (.fresh 0 0 (!w.params.followText "set-order")) } }) ⟨rfl, rfl⟩) fun r s₁ hr => ?_
  cases r with
  | error e => exact hr
  | ok fl =>
    cases fl with
    | ret obj =>
      obtain ⟨rfl, rfl⟩ := hr
      have hS : (s.heap.push { cls := .type "set", dict := none, data := .set #[] 0 (.fresh 0 0 (!w.params.followText "set-order")) }).get? s.heap.objs.size = some { cls := .type "set", dict := none, data := .set #[] 0 (.fresh 0 0 (!w.params.followText "set-order")) } := Heap.get?_push_size _ rfl
      have hT : Shared.TypeIs { s with heap := s.heap.push { cls := .type "set", dict := none, data := .set #[] 0 (.fresh 0 0 (!w.params.followText "set-order")) } } (.ref s.heap.objs.size) "set" := ⟨_, hS, rfl⟩
      have hli := F.called_set.init.lookup
      have hbi := F.called_set.init.bind (.ref s.heap.objs.size)
      repeat (any_goals (first | assumption | wp_step))

      refine codeAny_mono (codeAny_call_builtin (R := wants (fun r s₂ => r = .none ∧ ∃ h' tk L es ep t, s₂ = { s with heap := h', toks := tk } ∧ SetN P w h' s.heap.objs.size L es ep t ∧ GotN ks ks.length L ∧
          (∀ b o, s.heap.get? b = some o → h'.get? b = some o)) E) F.called_set.init.plain F.entry_set_init (check_set_init_1 hT ?_)) fun r₂ s₂ hr₂ => ?_
      · obtain ⟨ol, hol, hcl, nl, hdl⟩ := hl
        obtain ⟨ocls, odict, odata, oslots⟩ := ol
        simp only at hcl hdl
        subst hcl; subst hdl
        have hol' : (s.heap.push { cls := .type "set", dict := none, data := .set #[] 0 (.fresh 0 0 (!w.params.followText "set-order")) }).get? l = some { cls := .type "list", dict := odict, data := .seq items nl, slots := oslots } := Heap.get?_push_of_some _ hol
        have hsls := F.sub_list_set
        have hslf := F.sub_list_frozenset
        have hne : (Value.type "list" == Value.type "dict") = false := by decide
        have hl1 : (s.heap.push { cls := .type "set", dict := none, data := .set #[] 0 (.fresh 0 0 (!w.params.followText "set-order")) }).IsList l items := ⟨_, hol', rfl, nl, rfl⟩
        unfold Builtin.«set.__init__» noKeywords Builtin.Frozenset.updateFrom
        generalize hPI : pyIter = PI
        wp_walk
        subst hPI

        refine wpAny_pyIter_list hl1 ?_
        refine wpAny_bind (wpAny_runValue ?_)
        have hlS : l < s.heap.objs.size := Heap.lt_size hol
        have hh3 : A.in1.in1.in1.handled = none := by simp [hh]
        have hz1 : (s.heap.push { cls := .type "set", dict := none, data := .set #[] 0 (.fresh 0 0 (!w.params.followText "set-order")) }).objs.size = s.heap.objs.size + 1 := Heap.size_push ..
        have hneI : l ≠ (s.heap.push { cls := .type "set", dict := none, data := .set #[] 0 (.fresh 0 0 (!w.params.followText "set-order")) }).objs.size := by
          rw [Heap.size_push]; exact Nat.ne_of_lt (Nat.lt_succ_of_lt hlS)
        have hSf : s.heap.objs.size ∉ [(s.heap.push { cls := .type "set", dict := none, data := .set #[] 0 (.fresh 0 0 (!w.params.followText "set-order")) }).objs.size, l] := by
          rw [Heap.size_push]; simp only [List.mem_cons, List.mem_singleton, List.not_mem_nil, or_false, not_or]
          exact ⟨Nat.ne_of_lt (Nat.lt_succ_self _), Nat.ne_of_gt hlS⟩
        have hval : ∀ (i : Nat) (v : Value), items[i]? = some v → ∃ p, ks[i]? = some p ∧ v = .ref p.1 := fun i v hv => by
          have q : items.toList[i]? = some v := by rw [Array.getElem?_toList]; exact hv
          rw [hit, List.getElem?_map] at q
          cases hq : ks[i]? with
          | none => rw [hq] at q; cases q
          | some p =>
            rw [hq] at q
            exact ⟨p, rfl, (Option.some.inj q).symm⟩
        have none_of : ∀ b, s.heap.objs.size ≤ b → s.heap.get? b = none := fun b hb => by
          cases q : s.heap.get? b with
          | none => rfl
          | some o => exact absurd (Nat.lt_of_lt_of_le (Heap.lt_size q) hb) (Nat.lt_irrefl _)
        refine updN ((Walks.list hh3 _ l hneI items).toS) s.heap.objs.size
          hSf ks hisz hfew hval s.heap hk (none_of _ (Nat.le_refl _)) (fun b hb => none_of b (by
            rw [List.mem_singleton.mp hb, Heap.size_push]
            exact Nat.le_succ _)) (by show A.units + 1 + 1 + 1 + 8 < cLine; omega) (items.size - 0) 0 _ (by omega) (Nat.zero_le _)
          ⟨⟨_, Heap.get?_push_size _ rfl, rfl, rfl⟩, (hl1.push _)⟩ (fun b o e => Heap.get?_push_of_some _ (Heap.get?_push_of_some _ e)) ?hS0 ?hR
        case hS0 =>
          have hget : ((s.heap.push { cls := .type "set", dict := none, data := .set #[] 0 (.fresh 0 0 (!w.params.followText "set-order")) }).push { cls := .type "list_iterator", data := .fields #[.ref l, .int 0 0] }).get? s.heap.objs.size
              = some { cls := .type "set", dict := none, data := .set #[] 0 (.fresh 0 0 (!w.params.followText "set-order")) } := Heap.get?_push_of_some _ hS
          exact ⟨[], #[], 0, _, setN_fresh hget, GotN.zero ks⟩
        case hR =>
          intro s' L es ep t hm hS' g' hkp
          obtain ⟨h', g2, d', tk', os'⟩ := s'
          have eg : g2 = s.gens := hm.gens
          have ed : d' = s.drawn := hm.drawn
          have eo : os' = s.os := hm.os
          subst eg; subst ed; subst eo
          show wpAny _ _ _ _ _ _
          refine wpAny_pure ?_
          show wpAny _ _ (ret Value.none) _ _ _
          rw [hisz] at g'
          exact wpAny_pure ⟨rfl, h', tk', L, es, ep, t, rfl, hS', g', hkp⟩

      · cases r₂ with
        | error e => exact hr₂
        | ok fl₂ =>
          cases fl₂ with
          | ret r =>
            obtain ⟨rfl, h', tk, L, es, ep, t, rfl, hS', g', hk'⟩ := hr₂
            repeat (any_goals (first | assumption | wp_step))
            exact h _ _ _ _ _ _ hS' g' hk'
          | _ => exact hr₂.elim
    | _ => exact hr.elim
end
end NsT
namespace LsX
open PySem PySem.Spec PyProof.Rows L2
section
variable {prog : Program} {w : World} {A : Around} {E : Value → Shared → Prop} {s : Shared}
theorem hint_str {x : Str} {t : Tok} {Q : Bool → Shared → Prop} (h : Q false s) : wpAny (model prog w) A (Builtin.List.listLengthHint (.str x t)) Q E s := by
  have hT : s.TypeIs (.str x t) "str" := typeIs_str s x t
  unfold Builtin.List.listLengthHint
  refine wpAny_bind (wpAny_specialOf hT PySem.F.slot_str_len.lookup ?_)
  generalize hid : ("str.__len__" : String) = id0
  wp_delta
  rw [show splitId id0 = some ("str", "__len__") from by subst hid; decide +kernel]
  subst hid
  refine wpAny_bind (wpAny_isInstance (T := "str") (b := true) hT (by rw [isSubtype_type]; kernel_rfl) ?_)
  refine wpAny_ite_split (fun hab => absurd hab (by decide)) (fun _ => ?_)
  refine wpAny_ite_split (fun _ => ?_) (fun hab => absurd (by decide +kernel) hab)
  refine wpAny_bind (wpAny_typeOf hT ?_)
  exact wpAny_pure h
theorem extend_str {R : Result → Shared → Prop} (hh : A.handled = none) (x : Str) (t : Tok) (S : Addr) (res : Value) (c₀ : Nat) (hS : s.heap.get? S = some { cls := .type "list", data := .seq #[] c₀ })
    (hR : ∀ h' tk acc' c', (∀ b o, b ≠ S → s.heap.get? b = some o → h'.get? b = some o) → h'.get? S = some { cls := .type "list", dict := none, data := .seq acc' c', slots := #[] } →
      ItemsOf (SignAt x) acc' x.cps.size → R (.ok (.ret res)) { s with heap := h', toks := tk }) (hn : x.cps.size ≤ sizeLine) :
    wpAny (model prog w) A.in1 (Builtin.List.listExtendWith (.ref S) (.str x t) res)
      (fun fin s' => match fin with | .done f => R (.ok f) s' | .again c' => c'.quiet = true ∧ codeAny (model prog w) A c' R s') (fun e s' => R (.error e) s') s := by
  have hSI : S ≠ s.heap.objs.size := Nat.ne_of_lt (Heap.lt_size hS)
  have hSf : S ∉ [s.heap.objs.size] := fun hm => hSI (List.mem_singleton.mp hm)
  unfold Builtin.List.listExtendWith
  refine wpAny_bind (wpAny_typeOf (T := "str") (v := .str x t) (typeIs_str s x t) ?_)
  have h1 : Builtin.List.listSameRef (.ref S) (.str x t) = false := rfl
  have h2 : (Value.type "str" == Value.type "list") = false := by decide
  have h3 : (Value.type "str" == Value.type "tuple") = false := by decide
  simp only [h1, h2, h3, Bool.or_false, Bool.false_eq_true, if_false]
  refine wpAny_bind (wpAny_pyIter_str fun o St W hst => ?_)
  refine wpAny_bind (wpAny_holding (hint_str ?_))
  rw [if_neg (by first | decide | decide +kernel)]
  have W' := W A.in1 hh
  refine wpAny_pure ⟨plainId_quiet PySem.F.plain_extend_loop _, codeAny_extend_loopS W'.toS hn _ hSf _ x.cps.size 0 _ _ _ rfl (Nat.zero_le _) hst (Heap.get?_push_of_some _ hS) (ItemsOf.nil _) fun s' acc' c' hm hS' hacc => ?_⟩
  rw [Moved.eq_with hm]
  refine hR s'.heap s'.toks acc' c' (fun b ob hb e => hm.heap b ob (fun hmem => ?_) (Heap.get?_push_of_some _ e)) hS' hacc
  rcases List.mem_cons.mp hmem with e' | hmem
  · exact hb e'
  · exact absurd (Heap.lt_size e) (by rw [List.mem_singleton.mp hmem]; exact Nat.lt_irrefl _)
theorem list_init_str {R : Result → Shared → Prop} (hh : A.handled = none) (x : Str) (t : Tok) (S : Addr) (hS : s.heap.get? S = some { cls := .type "list", data := .seq #[] })
    (hR : ∀ h' tk acc' c', (∀ b o, b ≠ S → s.heap.get? b = some o → h'.get? b = some o) → h'.get? S = some { cls := .type "list", dict := none, data := .seq acc' c', slots := #[] } →
      ItemsOf (SignAt x) acc' x.cps.size → R (.ok (.ret .none)) { s with heap := h', toks := tk }) (hn : x.cps.size ≤ sizeLine) :
    wpAny (model prog w) A.in1 (Builtin.«list.__init__» ⟨[.ref S, .str x t], []⟩)
      (fun fin s' => match fin with | .done f => R (.ok f) s' | .again c' => c'.quiet = true ∧ codeAny (model prog w) A c' R s') (fun e s' => R (.error e) s') s := by
  show wpAny _ _ (do let old ← Builtin.List.listItems (.ref S); Builtin.List.listUpdate (.ref S) (fun _ => #[]); letGo old.toList.reverse; Builtin.List.listExtendWith (.ref S) (.str x t) .none) _ _ s
  refine wpAny_bind ?_
  unfold Builtin.List.listItems
  refine wpAny_bind (wpAny_seqItems hS rfl (wpAny_pure ?_))
  show wpAny _ _ (updateSeq S (fun _ => #[]) >>= fun _ => letGo (#[] : Array Value).toList.reverse >>= fun _ => Builtin.List.listExtendWith (.ref S) (.str x t) .none) _ _ s
  refine wpAny_bind (wpAny_updateSeq hS rfl ?_)
  have hS₂ := Heap.get?_update_self (Obj.mapSeq (fun _ => (#[] : Array Value))) hS rfl
  have oth : ∀ b o, b ≠ S → s.heap.get? b = some o → (s.heap.update S (Obj.mapSeq (fun _ => (#[] : Array Value)))).get? b = some o :=
    fun b o hb e => (Heap.get?_update_other _ _ (Ne.symm hb)).trans e
  refine wpAny_bind (wpAny_letGo ?_)
  refine extend_str hh x t S .none _ hS₂ (fun h' tk acc' c' hk hS' hacc => ?_) hn
  exact hR h' tk acc' c' (fun b o hb e => hk b o hb (oth b o hb e)) hS' hacc
theorem call_list_str {x : Str} {t : Tok} {Q : Value → Shared → Prop} (hh : A.handled = none) (hn : x.cps.size ≤ sizeLine)
    (hQ : ∀ h' tk acc' c', (∀ b o, s.heap.get? b = some o → h'.get? b = some o) →
      h'.get? s.heap.objs.size = some { cls := .type "list", dict := none, data := .seq acc' c', slots := #[] } → ItemsOf (SignAt x) acc' x.cps.size → Q (.ref s.heap.objs.size) { s with heap := h', toks := tk }) :
    wpAny (model prog w) A (call (.type "list") [.str x t]) Q E s := by
  refine callType_codes (Q₁ := fun obj s₁ => obj = .ref s.heap.objs.size ∧ s₁ = { s with heap := s.heap.push { cls := .type "list", data := .seq #[] } }) PySem.F.called_list (PySem.F.typeCall_list_1 _) PySem.F.entry_list_init
    (code_list_new _ ⟨rfl, rfl⟩) fun obj s₁ h₁ => ?_
  obtain ⟨rfl, rfl⟩ := h₁
  have hS : (s.heap.push { cls := .type "list", data := .seq #[] }).get? s.heap.objs.size = some { cls := .type "list", data := .seq #[] } := Heap.get?_push_size _ rfl
  refine ⟨⟨_, hS, rfl⟩, PySem.F.args_list_init_2 _ _, list_init_str (A := A.in1) hh x t _ hS (fun h' tk acc' c' hk hS' hacc => ?_) hn⟩
  exact ⟨rfl, hQ h' tk acc' c' (fun b o e => hk b o (Nat.ne_of_lt (Heap.lt_size e)) (Heap.get?_push_of_some _ e)) hS' hacc⟩
end
/-- list(x), x a text: its signs -/
theorem call_list_signs {X : Cx} (hc : X.calm = true) : CallR X (.type "list") (fun xs H Q => ∃ z : Str, xs = [.str z] ∧ z.cps.size ≤ sizeLine ∧ ∀ p, H p = none → Q (.ref p) (upd H p (.lst (z.cps.toList.map fun c => V.str ⟨#[c]⟩)))) := by
  intro pins s σ H xs us Q I r h
  obtain ⟨z, rfl, hz, q⟩ := h
  obtain ⟨u, rfl, t, rfl⟩ := vals1 r
  refine call_list_str (I.ok.hd hc) hz fun h' tk acc' c' kp e ha => ?_
  have hr : Vals (z.cps.toList.map fun c => V.str ⟨#[c]⟩) acc'.toList := by
    refine vals_of_idx _ _ ?_ fun j u hj => ?_
    · rw [List.length_map, Array.length_toList, Array.length_toList]
      exact ha.1
    · obtain ⟨c, tk', hcj, rfl⟩ := ha.2 j u (by rw [← Array.getElem?_toList]; exact hj)
      refine ⟨.str ⟨#[c]⟩, ?_, tk', rfl⟩
      rw [List.getElem?_map, Array.getElem?_toList, hcj]
      rfl
  exact ⟨.ref s.heap.objs.size, _, I.laid (t' := tk) kp (Nat.le_refl _) (show ObjOk X.prog X.w _ h' _ (.lst _) from ⟨by rw [List.length_map, Array.length_toList]; exact hz, acc'.toList, c', hr, by simpa using e⟩), rfl, q _ (I.hok.fresh (Nat.le_refl _))⟩
end LsX
namespace LwB
open PySem PySem.Spec PyProof.Rows L2 IqX RvT EnS TL
/-! ### the law's own helpers: what they promise -/
def spBox : Sp := fun vs H Q _ => ∃ (a : Addr) (ns : List Int) (k : Nat), vs = [.ref a, .int k] ∧ Sq true H a (ns.map V.int) ∧ k < 1000 ∧
  ∀ H' p, Same H H' → H p = none → Bx 0 H' p → Q (.ref p) H'
def spTake : Sp := fun vs H Q _ => ∃ (b : Addr) (n : Nat) (m : Int), vs = [.ref b, .int m] ∧ Bx n H b ∧ n < 1000000000 ∧ 0 < m ∧ m < 1073741824 ∧
  ∀ H' r, Fr b H H' → Bx (n + 1) H' b → 0 ≤ r → r < m → Q (.int r) H'
def spCells (K : PySem.W.Frag) : Sp := fun vs H Q _ => ∃ (a : Addr) (ns : List Int) (t : Nat), vs = [.ref a, .int t] ∧ SqL K H a (ns.map V.int) ∧ 0 < t ∧ t ≤ 63 ∧ ns.length ≤ 63 ∧
  ∀ H' p (zs : List Int), NewAt H H' p (.lst (zs.map V.int)) → 0 < zs.length → zs.length ≤ t → Q (.ref p) H'
/-- the signs of a text, each a text -/
def signs (z : Str) : List V := z.cps.toList.map fun c => V.str ⟨#[c]⟩
/-- goods: a text or a list, of such items -/
def Goods (H : Hp) (b : Addr) (g : V) (xs : List V) : Prop := (∃ z : Str, g = .str z ∧ z.length ≤ 1000000 ∧ xs = signs z) ∨ (∃ (t : Bool) (l : Addr), g = .ref l ∧ l ≠ b ∧ Sq t H l xs ∧ xs.length ≤ 1000000)
theorem Goods.len {H : Hp} {b : Addr} {g : V} {xs : List V} (h : Goods H b g xs) : xs.length ≤ 1000000 := by
  rcases h with ⟨z, _, h, rfl⟩ | ⟨_, _, _, _, _, h⟩
  · unfold signs
    rw [List.length_map]
    exact h
  · exact h
theorem Goods.fr {H H' : Hp} {b : Addr} {g : V} {xs : List V} (f : Fr b H H') (h : Goods H b g xs) : Goods H' b g xs := by
  rcases h with h | ⟨t, l, e, n, hs, hl⟩
  · exact .inl h
  · exact .inr ⟨t, l, e, n, f.sq n hs, hl⟩
def spOf : Sp := fun vs H Q _ => ∃ (b : Addr) (n : Nat) (g : V) (xs : List V), vs = [.ref b, g] ∧ Bx n H b ∧ n < 1000000000 ∧ Goods H b g xs ∧ 0 < xs.length ∧
  ∀ H' x, Fr b H H' → Bx (n + 1) H' b → x ∈ xs → Q x H'
def spPick : Sp := fun vs H Q _ => ∃ (b : Addr) (n m : Nat) (g : V) (xs : List V), vs = [.ref b, g, .int m] ∧ Bx n H b ∧ n < 900000000 ∧ m ≤ 1000000 ∧ Goods H b g xs ∧
  ∀ H' p ys rest, Fr b H H' → Bx (n + m) H' b → H p = none → H' p = some (.lst ys) → (ys ++ rest).Perm xs → ys.length = min m xs.length → Q (.ref p) H'
theorem ixN_nat {n k : Nat} (h : k < n) : ixN n (k : Int) = some k := by
  unfold ixN
  rw [if_pos (by omega), if_pos (by omega)]
  simp
theorem _root_.L2.PE.imp {X : Cx} {e : Expr} {t t' : TE} (h : PE X e t) (i : ∀ σ H Q, t' σ H Q → t σ H Q) : PE X e t' := ⟨fun pins s σ H Q I q => h.run pins s σ H Q I (i σ H Q q)⟩
theorem _root_.L2.PS.imp {X : Cx} {st : Stmt} {t t' : TS} (h : PS X st t) (i : ∀ D σ H, t' D σ H → t D σ H) : PS X st t' := ⟨fun pins s σ H D I q => h.run pins s σ H D I (i D σ H q)⟩
theorem _root_.L2.PSs.imp {X : Cx} {st : List Stmt} {t t' : TS} (h : PSs X st t) (i : ∀ D σ H, t' D σ H → t D σ H) : PSs X st t' := ⟨fun pins s σ H D I q => h.run pins s σ H D I (i D σ H q)⟩
theorem seqIndex_nat {n k : Nat} (h : k < n) : seqIndex? (k : Int) n = some k := by
  unfold seqIndex?
  have h1 : ¬ ((k : Int) < 0) := by omega
  simp only [h1, if_false]
  have h2 : (0 : Int) ≤ (k : Int) := by omega
  have h3 : (k : Int) < (n : Int) := by omega
  simp [h2, h3]
theorem erase_perm {α : Type} : ∀ (l : List α) (i : Nat) (h : i < l.length), (l[i] :: l.eraseIdx i).Perm l
  | [], _, h => absurd h (Nat.not_lt_zero _)
  | x :: xs, 0, _ => List.Perm.refl _
  | x :: xs, i + 1, h => by
    have h' : i < xs.length := Nat.lt_of_succ_lt_succ h
    show (xs[i] :: x :: xs.eraseIdx i).Perm (x :: xs)
    exact (List.Perm.swap x xs[i] _).trans ((erase_perm xs i h').cons x)
theorem pick_perm {fs pool xs : List V} {k : Nat} (h : k < pool.length) (p : (fs ++ pool).Perm xs) : ((fs ++ [pool[k]]) ++ pool.eraseIdx k).Perm xs := by
  refine List.Perm.trans ?_ p
  rw [List.append_assoc]
  refine List.Perm.append_left fs ?_
  show (pool[k] :: pool.eraseIdx k).Perm pool
  exact erase_perm pool k h
/-- list(script[:top]) or [0] -/
def tCellsAt (K : PySem.W.Frag) : TE := fun σ H Q => ∃ (a : Addr) (ns : List Int) (t : Nat), σ[0]? = some (some (.ref a)) ∧ σ[1]? = some (some (.int t)) ∧ SqL K H a (ns.map V.int) ∧ 0 < t ∧
  ∀ H' p (zs : List Int), NewAt H H' p (.lst (zs.map V.int)) → 0 < zs.length → zs.length ≤ t → (t < ns.length → zs.length = t) → Q (.ref p) H'
/-! ### rules over goods -/
section
variable {X : Cx}
def rLenG : List V → Hp → VK → Prop := fun vs H Q => ∃ (b : Addr) (g : V) (xs : List V), vs = [g] ∧ Goods H b g xs ∧ Q (.int (xs.length : Nat)) H
theorem call_lenG : CallR X (.builtin "len") rLenG := by
  intro pins s σ H xs us Q I r h
  obtain ⟨b, g, zs, rfl, hg, q⟩ := h
  rcases hg with ⟨z, rfl, hz, rfl⟩ | ⟨t, l, rfl, _, hs, _⟩
  · refine call_len_str pins s σ H _ us Q I r ⟨z, rfl, Nat.le_trans hz (by decide), ?_⟩
    unfold signs at q
    rw [List.length_map] at q
    exact q
  · exact call_len_seq pins s σ H _ us Q I r ⟨l, zs, rfl, hs.LT, q⟩
theorem pe_lenG {e : Expr} {te : TA} {p pos : Pos} (hm : X.mg "len" = none) (he : PA X [e] te) (hg : Gl X "len" := by rfl) (hs : starEach [e] X.env = (false, eval e X.env) :: starEach [] X.env := by rfl) : PE X (.Call (.Name "len" p) [e] [] pos) (tCB rLenG te) := pe_callB (he := hs) call_lenG hg hm PySem.boot_len he
/-- list(goods) -/
def rListG : List V → Hp → VK → Prop := fun vs H Q => ∃ (b : Addr) (g : V) (xs : List V), vs = [g] ∧ Goods H b g xs ∧ ∀ H' p, NewAt H H' p (.lst xs) → Q (.ref p) H'
theorem call_listG (hc : X.calm = true) : CallR X (.type "list") rListG := by
  intro pins s σ H xs us Q I r h
  obtain ⟨b, g, zs, rfl, hg, q⟩ := h
  rcases hg with ⟨z, rfl, hz, rfl⟩ | ⟨t, l, rfl, _, hs, _⟩
  · exact LsX.call_list_signs hc pins s σ H _ us Q I r ⟨z, rfl, Nat.le_trans hz (by decide), fun p np => q _ p ⟨same_new np, np, upd_same⟩⟩
  · exact call_listQ pins s σ H _ us Q I r ⟨t, l, zs, rfl, hs, q⟩
theorem pe_listG {e : Expr} {te : TA} {p pos : Pos} (hc : X.calm = true) (hm : X.mg "list" = none) (he : PA X [e] te) (hg : Gl X "list" := by rfl) (hs : starEach [e] X.env = (false, eval e X.env) :: starEach [] X.env := by rfl) : PE X (.Call (.Name "list" p) [e] [] pos) (tCB rListG te) := pe_callTy (he := hs) (call_listG hc) hg hm (by decide +kernel) he
/-- abs(i), int(i), int(b) -/
theorem pe_abs {e : Expr} {te : TA} {p pos : Pos} (hm : X.mg "abs" = none) (he : PA X [e] te) (hg : Gl X "abs" := by rfl) (hs : starEach [e] X.env = (false, eval e X.env) :: starEach [] X.env := by rfl) : PE X (.Call (.Name "abs" p) [e] [] pos) (tCB (fun xs H Q => ∃ i, xs = [V.int i] ∧ Q (.int (if i < 0 then -i else i)) H) te) := pe_callB (he := hs) call_abs hg hm (by decide +kernel) he
theorem pe_int1 {e : Expr} {te : TA} {p pos : Pos} (hm : X.mg "int" = none) (he : PA X [e] te) (hg : Gl X "int" := by rfl) (hs : starEach [e] X.env = (false, eval e X.env) :: starEach [] X.env := by rfl) : PE X (.Call (.Name "int" p) [e] [] pos) (tCB (fun xs H Q => (∃ i, xs = [V.int i] ∧ Q (.int i) H) ∨ ∃ k, xs = [V.bl k] ∧ Q (.int (if k then 1 else 0)) H) te) := pe_callTy (he := hs) call_int1 hg hm (by decide +kernel) he
def rIxG : R2 := fun x y H Q => ∃ (b : Addr) (xs : List V) (i : Nat) (v : V), y = .int i ∧ Goods H b x xs ∧ xs[i]? = some v ∧ Q v H
theorem ix_goods : IxR X rIxG := by
  intro value slice pins s σ H x y v u Q I rx ry h e
  obtain ⟨b, xs, i, w', rfl, hg, hi, q⟩ := h
  refine ix_seq value slice pins s σ H _ _ v u Q I rx ry ?_ e
  rcases hg with ⟨z, rfl, hz, rfl⟩ | ⟨t, l, rfl, _, hs, _⟩
  · refine .inr (.inr ?_)
    unfold signs at hi
    rw [List.getElem?_map] at hi
    cases hc : z.cps.toList[i]? with
    | none =>
      rw [hc] at hi
      cases hi
    | some c =>
      rw [hc] at hi
      cases hi
      exact ⟨z, i, c, rfl, rfl, Nat.le_trans hz (by decide), atI_nat hc, q⟩
  · cases t with
    | true => exact .inl ⟨l, xs, i, w', rfl, rfl, hs.L, atI_nat hi, q⟩
    | false => exact .inr (.inl ⟨l, xs, i, w', rfl, rfl, hs.T, atI_nat hi, q⟩)
end
end LwB
namespace LwB
open PySem PySem.Spec PyProof.Rows L2 IqX RvT EnS TL
/-! ### trees of values -/
inductive Tr where
  | non | bl (b : Bool) | int (i : Int) | str (z : Str) | sq (t : Bool) (ts : List Tr)
/-- a list that may be changed, or a tuple -/
def Sx (t : Bool) (H : Hp) (a : Addr) (xs : List V) : Prop := Sq t H a xs ∧ (t = true → H a = some (.lst xs))
theorem Sx.lst {H : Hp} {a : Addr} {xs : List V} (h : H a = some (.lst xs)) : Sx true H a xs := ⟨.lst h, fun _ => h⟩
theorem Sx.tup {H : Hp} {a : Addr} {xs : List V} (h : Sq false H a xs) : Sx false H a xs := ⟨h, fun e => nomatch e⟩
theorem Sx.mv {t : Bool} {H H' : Hp} {a : Addr} {xs : List V} (e : ∀ o, H a = some o → H' a = some o) (h : Sx t H a xs) : Sx t H' a xs := ⟨h.1.mv e, fun q => e _ (h.2 q)⟩
def Is (H : Hp) (n : Nat) : Tr → V → Prop := match n with
  | 0 => fun t v => match t with
    | .non => v = V.non
    | .bl b => v = V.bl b
    | .int i => v = V.int i
    | .str z => v = V.str z
    | .sq _ _ => False
  | n + 1 => fun t v => match t with
    | .non => v = V.non
    | .bl b => v = V.bl b
    | .int i => v = V.int i
    | .str z => v = V.str z
    | .sq t ts => ∃ (a : Addr) (xs : List V), v = V.ref a ∧ Sx t H a xs ∧ xs.length ≤ 1000000 ∧ Paired (Is H n) ts xs
theorem Is.non {H : Hp} {n : Nat} : Is H n .non V.non := by cases n <;> rfl
theorem Is.bl {H : Hp} {n : Nat} {b : Bool} : Is H n (.bl b) (V.bl b) := by cases n <;> rfl
theorem Is.int {H : Hp} {n : Nat} {i : Int} : Is H n (.int i) (V.int i) := by cases n <;> rfl
theorem Is.str {H : Hp} {n : Nat} {z : Str} : Is H n (.str z) (V.str z) := by cases n <;> rfl
theorem Is.sq {H : Hp} {n : Nat} {t : Bool} {a : Addr} {ts : List Tr} {xs : List V} (h : Sx t H a xs) (hl : xs.length ≤ 1000000) (p : Paired (Is H n) ts xs) : Is H (n + 1) (.sq t ts) (V.ref a) := ⟨a, xs, rfl, h, hl, p⟩
theorem Is.non_eq {H : Hp} {n : Nat} {v : V} (h : Is H n .non v) : v = .non := by cases n <;> exact h
theorem Is.bl_eq {H : Hp} {n : Nat} {b : Bool} {v : V} (h : Is H n (.bl b) v) : v = .bl b := by cases n <;> exact h
theorem Is.int_eq {H : Hp} {n : Nat} {i : Int} {v : V} (h : Is H n (.int i) v) : v = .int i := by cases n <;> exact h
theorem Is.str_eq {H : Hp} {n : Nat} {z : Str} {v : V} (h : Is H n (.str z) v) : v = .str z := by cases n <;> exact h
theorem Is.sq_eq {H : Hp} {n : Nat} {t : Bool} {ts : List Tr} {v : V} (h : Is H n (.sq t ts) v) : ∃ m a xs, n = m + 1 ∧ v = .ref a ∧ Sx t H a xs ∧ xs.length ≤ 1000000 ∧ Paired (Is H m) ts xs := by
  cases n with
  | zero => exact absurd h id
  | succ m =>
    obtain ⟨a, xs, e, hs, hl, p⟩ := h
    exact ⟨m, a, xs, rfl, e, hs, hl, p⟩
theorem paired_imp {α β : Type} {F G : α → β → Prop} : ∀ {l₁ : List α} {l₂ : List β}, Paired F l₁ l₂ → (∀ a b, F a b → G a b) → Paired G l₁ l₂
  | _, _, .nil, _ => .nil
  | _, _, .cons r t, f => .cons (f _ _ r) (paired_imp t f)
theorem Is.mv {H H' : Hp} (e : ∀ a o, H a = some o → H' a = some o) : ∀ {n : Nat} {t : Tr} {v : V}, Is H n t v → Is H' n t v := by
  intro n
  induction n with
  | zero => intro t v h; cases t <;> exact h
  | succ n ih =>
    intro t v h
    cases t with
    | sq t ts =>
      obtain ⟨a, xs, e', hs, hl, p⟩ := h
      exact ⟨a, xs, e', hs.mv fun o q => e a o q, hl, paired_imp p fun a b q => ih q⟩
    | _ => exact h
theorem Is.same {H H' : Hp} {n : Nat} {t : Tr} {v : V} (s : Same H H') (h : Is H n t v) : Is H' n t v := h.mv s
theorem Is.up {H : Hp} : ∀ {n : Nat} {t : Tr} {v : V}, Is H n t v → Is H (n + 1) t v := by
  intro n
  induction n with
  | zero =>
    intro t v h
    cases t with
    | sq t ts => exact absurd h id
    | _ => exact h
  | succ n ih =>
    intro t v h
    cases t with
    | sq t ts =>
      obtain ⟨a, xs, e', hs, hl, p⟩ := h
      exact ⟨a, xs, e', hs, hl, paired_imp p fun a b q => ih q⟩
    | _ => exact h
theorem Is.mono {H : Hp} {n m : Nat} {t : Tr} {v : V} (h : n ≤ m) (x : Is H n t v) : Is H m t v := by
  induction h with
  | refl => exact x
  | step _ ih => exact ih.up
theorem paired_get {α β : Type} {F : α → β → Prop} : ∀ {l₁ : List α} {l₂ : List β} {i : Nat} {y : β}, Paired F l₁ l₂ → l₂[i]? = some y → ∃ x, l₁[i]? = some x ∧ F x y
  | _, _, _, _, .nil, h => by simp at h
  | _, _, 0, _, .cons r _, h => by
    simp at h
    subst h
    exact ⟨_, rfl, r⟩
  | _, _, i + 1, y, .cons _ t, h => by
    obtain ⟨x, e, r⟩ := paired_get (i := i) (y := y) t (by simpa using h)
    exact ⟨x, by simpa using e, r⟩
/-- both are the same: _law_same says so -/
def spSame : Nat → Sp
  | 0 => fun _ _ _ _ => False
  | n + 1 => fun vs H Q _ => ∃ (v1 v2 : V) (t : Tr), vs = [v1, v2] ∧ Is H n t v1 ∧ Is H n t v2 ∧ ∀ H', Same H H' → Q (.bl true) H'
theorem spSame_len : ∀ {n : Nat} {vs : List V} {H : Hp} {Q : VK} {E : XK}, spSame n vs H Q E → vs.length = 2
  | 0, _, _, _, _, h => h.elim
  | n + 1, _, _, _, _, ⟨_, _, _, e, _⟩ => by rw [e]; rfl
theorem kit2 {K : PySem.W.Frag} {t a b : String} {r1 r2 : Bool} (h1 : kitB t a = some r1) (h2 : kitB t b = some r2) : PySem.W.kitAny K (.type t) [.type a, .type b] = some (r1 || r2) := by
  cases r1 with
  | true => exact kitAny_cons (kit_ty h1) (fun e => nomatch e) (fun _ => rfl)
  | false =>
    refine kitAny_cons (kit_ty h1) (fun _ => ?_) (fun e => nomatch e)
    cases r2 with
    | true => exact kitAny_cons (kit_ty h2) (fun e => nomatch e) (fun _ => rfl)
    | false => exact kitAny_cons (kit_ty h2) (fun _ => kitAny_nil) (fun e => nomatch e)
theorem iteD {c A B : Prop} [Decidable c] (h : c) (a : A) : if decide c = true then A else B := by
  rw [if_pos (decide_eq_true h)]
  exact a
theorem iteDF {c A B : Prop} [Decidable c] (h : ¬ c) (b : B) : if decide c = true then A else B := by
  rw [if_neg (by simp [h])]
  exact b
theorem iteND {c A B : Prop} [Decidable c] (h : c) (b : B) : if (!decide c) = true then A else B := by
  rw [if_neg (by simp [h])]
  exact b
theorem Sq.ty {K : PySem.W.Frag} {t : Bool} {H : Hp} {a : Addr} {xs : List V} (h : Sq t H a xs) : TyX K H (.ref a) (.type (if t = true then "list" else "tuple")) := by
  cases t with
  | true =>
    rcases h with h | ⟨o, h⟩
    · exact .base (.lst h)
    · exact .base (.frz h)
  | false =>
    rcases h with h | ⟨o, h⟩
    · exact .base (.tup h)
    · exact .fTuple h
section
variable {X : Cx} {p pos : Pos} {e : Expr} {es : List Expr} {te : TA}
/-- isinstance(x, T) and isinstance(x, (T, U)): built-in types -/
def rIsQ (K : PySem.W.Frag) : List V → Hp → VK → Prop := fun vs H Q => ∃ (x : V) (T t : String) (b : Bool), vs = [x, .ty T] ∧ TyX K H x (.type t) ∧ kitB t T = some b ∧ Q (.bl b) H
theorem call_isQ : CallR X (.builtin "isinstance") (rIsQ X.K) := by
  intro pins s σ H xs us Q I r h
  obtain ⟨x, T, t, b, rfl, ty, hk, q⟩ := h
  exact call_isi pins s σ H _ us Q I r ⟨x, .ty T, .type t, .type T, b, rfl, .ty T, ty, kit_ty hk, q⟩
def rIsQ2 (K : PySem.W.Frag) : List V → Hp → VK → Prop := fun vs H Q => ∃ (x : V) (tp : Addr) (T U t : String) (b c : Bool), vs = [x, .ref tp] ∧ H tp = some (.tup [.ty T, .ty U]) ∧ TyX K H x (.type t) ∧ kitB t T = some b ∧ kitB t U = some c ∧ Q (.bl (b || c)) H
theorem call_isQ2 : CallR X (.builtin "isinstance") (rIsQ2 X.K) := by
  intro pins s σ H xs us Q I r h
  obtain ⟨x, tp, T, U, t, b, c, rfl, hT, ty, hb, hc, q⟩ := h
  exact call_isiT pins s σ H _ us Q I r ⟨x, tp, _, .type t, [.type T, .type U], _, rfl, hT, .cons (.ty T) (.cons (.ty U) .nil), ty, kit2 hb hc, q⟩
theorem pe_isQ (hm : X.mg "isinstance" = none) (he : PA X (e :: es) te) (hg : Gl X "isinstance" := by rfl) (hs : starEach (e :: es) X.env = (false, eval e X.env) :: starEach es X.env := by rfl) (hpl : (backTo pos (starEach es X.env)).any (·.1) = false := by rfl) :
    PE X (.Call (.Name "isinstance" p) (e :: es) [] pos) (tCB (rIsQ X.K) te) := pe_callB (he := hs) (hpl := hpl) call_isQ hg hm (by decide +kernel) he
theorem pe_isQ2 (hm : X.mg "isinstance" = none) (he : PA X (e :: es) te) (hg : Gl X "isinstance" := by rfl) (hs : starEach (e :: es) X.env = (false, eval e X.env) :: starEach es X.env := by rfl) (hpl : (backTo pos (starEach es X.env)).any (·.1) = false := by rfl) :
    PE X (.Call (.Name "isinstance" p) (e :: es) [] pos) (tCB (rIsQ2 X.K) te) := pe_callB (he := hs) (hpl := hpl) call_isQ2 hg hm (by decide +kernel) he
end
/-- a comprehension over zip of two lists (or tuples) of one length -/
theorem lc_zipB {K : PySem.W.Frag} {b : Bool} {a c : Addr} {xs ys : List V} {g : TG} {tt : TT} {te : TE} {vs : List Nat} {σ : L2.St} {H1 : Hp} {D : Addr} {Qd : Hp → Prop} (hlen : xs.length = ys.length) (Pv : Nat → Hp → Prop) (h0 : Pv 0 (upd H1 D (.lst []))) (hl : ∀ i H, i ≤ xs.length → Pv i H → SqB K b H a xs ∧ SqB K b H c ys)
    (hs : ∀ i x y T H, xs[i]? = some x → ys[i]? = some y → Pv i H → H T = none → g (.ref T) (wipe σ vs) (upd H T (.tup [x, y])) fun σ2 H2 => wipe σ2 vs = wipe σ vs ∧ tt σ2 H2 fun b H3 =>
      if b = true then te σ2 H3 fun y H4 => ∃ acc, H4 D = some (.lst acc) ∧ acc.length < sizeLine ∧ Pv (i + 1) (upd H4 D (.lst (acc ++ [y]))) else Pv (i + 1) H3) (hd : ∀ H, Pv xs.length H → Qd H) :
    ∃ W : Nat → Nat → Hp → Prop, (∃ m, W 0 m (upd H1 D (.lst []))) ∧ ∀ i m H, W i m H →
      ((if b = true then Itz K a c else RZ.ItzT K a c).stop i H ∧ Qd H) ∨ ((if b = true then Itz K a c else RZ.ItzT K a c).go i H ∧ ∃ Nx : Hp → Prop, (∀ H', Nx H' → ∃ m', m' < m ∧ W (i + 1) m' H') ∧ ∀ x H', (if b = true then Itz K a c else RZ.ItzT K a c).yld i H x H' → g x (wipe σ vs) H' fun σ2 H2 => wipe σ2 vs = wipe σ vs ∧ tt σ2 H2 fun b H3 =>
        if b = true then te σ2 H3 fun y H4 => ∃ acc, H4 D = some (.lst acc) ∧ acc.length < sizeLine ∧ Nx (upd H4 D (.lst (acc ++ [y]))) else Nx H3) := by
  refine ⟨fun i m H => m = xs.length - i ∧ i ≤ xs.length ∧ Pv i H, ⟨xs.length, by simp, Nat.zero_le _, h0⟩, ?_⟩
  rintro i m H ⟨rfl, hi, p⟩
  obtain ⟨q1, q2⟩ := hl i H hi p
  by_cases hlt : i < xs.length
  · have hlt2 : i < ys.length := by omega
    refine .inr ⟨?_, Pv (i + 1), fun H' p' => ⟨xs.length - (i + 1), by omega, rfl, hlt, p'⟩, fun x H' y => ?_⟩
    · cases b with
      | true => exact ⟨xs, ys, xs[i], ys[i], q1, q2, by simp [hlt], by simp [hlt2]⟩
      | false => exact ⟨xs, ys, xs[i], ys[i], q1, q2, by simp [hlt], by simp [hlt2]⟩
    · cases b with
      | true =>
        obtain ⟨T, z, z2, rfl, nT, rfl, y1, y2⟩ := y
        exact hs i z z2 T H (y1 xs q1) (y2 ys q2) p nT
      | false =>
        obtain ⟨T, z, z2, rfl, nT, rfl, y1, y2⟩ := y
        exact hs i z z2 T H (y1 xs q1) (y2 ys q2) p nT
  · have e : i = xs.length := by omega
    subst e
    refine .inl ⟨?_, hd H p⟩
    cases b with
    | true => exact ⟨xs, ys, q1, q2, .inl (Nat.le_refl _)⟩
    | false => exact ⟨xs, ys, q1, q2, .inl (Nat.le_refl _)⟩
def iZipQ (K : PySem.W.Frag) (ta : TA) : TI := fun σ H R => ta σ H fun vs H1 => ∃ (t : Bool) (a b : Addr) (xs ys : List V), vs = [.ref a, .ref b] ∧ SqB K t H1 a xs ∧ SqB K t H1 b ys ∧ R (if t = true then Itz K a b else RZ.ItzT K a b) H1
theorem _root_.L2.PI.imp {X : Cx} {tg it : Expr} {t t' : TI} (h : PI X tg it t) (i : ∀ σ H R, t' σ H R → t σ H R) : PI X tg it t' := ⟨fun pins s σ H R I q => h.run pins s σ H R I (i σ H R q)⟩
theorem pi_zipQ {X : Cx} {e e2 : Expr} {ta : TA} {p pos tpos : Pos} {elts : List Expr} {kk : Nat} (hm : X.mg "zip" = none) (ha : PA X [e, e2] ta) (hg : Gl X "zip" := by rfl)
    (hs : starEach [e, e2] X.env = (false, eval e X.env) :: starEach [e2] X.env := by rfl) (hpl : (backTo pos (starEach [e2] X.env)).any (·.1) = false := by rfl) :
    PI X (.Tuple elts kk tpos) (.Call (.Name "zip" p) [e, e2] [] pos) (iZipQ X.K ta) := by
  have h := RZ.pi_zipA (X := X) (p := p) (pos := pos) (tpos := tpos) (elts := elts) (kk := kk) (hs := hs) (hpl := hpl) hg hm (ta := fun σ H Q => ∃ R : List V → Hp → Prop, ta σ H R ∧ ∀ vs H', R vs H' → Q vs H') ⟨fun q pins s σ H Q I h => ?_⟩
  · refine PI.imp h fun σ H R q => ?_
    refine ⟨_, q, fun vs H1 ⟨t, a, b, xs, ys, e, h1, h2, r⟩ => ?_⟩
    cases t with
    | true => exact ⟨a, b, xs, ys, e, .inl ⟨h1, h2, r⟩⟩
    | false => exact ⟨a, b, xs, ys, e, .inr ⟨h1, h2, r⟩⟩
  · obtain ⟨R, h1, h2⟩ := h
    exact thn (ha.run q pins s σ H R I h1) fun us s1 ⟨vs, H1, I1, r, z⟩ => ⟨vs, H1, I1, r, h2 _ _ z⟩
/-! ### letters and names -/
def one (c : Nat) : Str := ⟨#[c]⟩
def gv (c : Nat) : V := V.str (one c)
def ungv : V → Nat
  | .str z => z.cps.toList.headD 0
  | _ => 0
theorem ungv_gv (c : Nat) : ungv (gv c) = c := rfl
def Letter (c : Nat) : Prop := 97 ≤ c ∧ c ≤ 122
def NameOk (z : Str) : Prop := 1 ≤ (tl z).length ∧ (tl z).length ≤ 8 ∧ ∀ c ∈ tl z, Letter c
theorem tl_one (c : Nat) : tl (one c) = [c] := rfl
theorem signs_eq (z : Str) : signs z = (tl z).map gv := rfl
theorem flat_one : ∀ cs : List Nat, ((cs.map one).map tl).flatten = cs
  | [] => rfl
  | c :: cs => by
    show [c] ++ ((cs.map one).map tl).flatten = c :: cs
    rw [flat_one cs]
    rfl
theorem joinL_nil : ∀ ls : List (List Nat), joinL [] ls = ls.flatten
  | [] => rfl
  | [p] => by simp [joinL]
  | p :: q :: r => by
    show p ++ ([] ++ joinL [] (q :: r)) = _
    rw [joinL_nil (q :: r)]
    rfl
theorem tl_joined {sep : Str} (h : tl sep = []) (cs : List Nat) : tl (Txt.join sep (cs.map one)) = cs := by
  rw [join_eq, tl_join, h, joinL_nil, flat_one]
theorem len_ones (cs : List Nat) : ((cs.map one).map (·.length)).sum = cs.length := by
  induction cs with
  | nil => rfl
  | cons c cs ih =>
    show (one c).length + ((cs.map one).map (·.length)).sum = cs.length + 1
    rw [ih]
    show 1 + cs.length = _
    omega
theorem vals_ones (cs : List Nat) : (cs.map one).map V.str = cs.map gv := by
  rw [List.map_map]
  rfl
theorem mem_gv {cs : List Nat} {x : V} (h : x ∈ cs.map gv) : ∃ c, c ∈ cs ∧ x = gv c := by
  obtain ⟨c, hc, e⟩ := List.mem_map.mp h
  exact ⟨c, hc, e.symm⟩
theorem picked {ys rest : List V} {ls : List Nat} (h : (ys ++ rest).Perm (ls.map gv)) : ∃ cs rs : List Nat, ys = cs.map gv ∧ (cs ++ rs).Perm ls := by
  have hm : ∀ l : List V, (∀ x ∈ l, x ∈ ls.map gv) → l = (l.map ungv).map gv := by
    intro l
    induction l with
    | nil => intro _; rfl
    | cons x l ih =>
      intro hx
      obtain ⟨c, _, e⟩ := mem_gv (hx x List.mem_cons_self)
      rw [List.map_cons, List.map_cons, ← ih fun y hy => hx y (List.mem_cons_of_mem _ hy), e, ungv_gv]
  refine ⟨ys.map ungv, rest.map ungv, hm ys fun x hx => h.subset (List.mem_append_left _ hx), ?_⟩
  have h2 := h.map ungv
  rw [List.map_append, List.map_map] at h2
  have e : ungv ∘ gv = id := by
    funext c
    rfl
  rw [e, List.map_id] at h2
  exact h2
/-- names: each one good, no two alike -/
def NamesOk (ss : List Str) : Prop := (∀ z ∈ ss, NameOk z) ∧ ss.Nodup
theorem nodup_key {α β : Type} {f : α → β} {l : List α} (h : (l.map f).Nodup) : l.Nodup := by
  induction l with
  | nil => exact List.nodup_nil
  | cons x l ih =>
    rw [List.map_cons, List.nodup_cons] at h
    rw [List.nodup_cons]
    exact ⟨fun hx => h.1 (List.mem_map_of_mem hx), ih h.2⟩
theorem nodup_some {l : List Nat} (h : l.Nodup) : (l.map some).Nodup := by
  induction l with
  | nil => exact List.nodup_nil
  | cons x l ih =>
    rw [List.nodup_cons] at h
    rw [List.map_cons, List.nodup_cons]
    refine ⟨fun hx => ?_, ih h.2⟩
    obtain ⟨y, hy, e⟩ := List.mem_map.mp hx
    cases e
    exact h.1 hy
def spNames : Sp := fun vs H Q _ => ∃ (b : Addr) (n m : Nat), vs = [.ref b, .int m] ∧ Bx n H b ∧ n < 800000000 ∧ m ≤ 26 ∧
  ∀ H' p ss, Fr b H H' → Bx (n + 400) H' b → H p = none → H' p = some (.lst (ss.map V.str)) → NamesOk ss → ss.length = m → Q (.ref p) H'
end LwB
namespace LwB
open PySem PySem.Spec PyProof.Rows L2 IqX RvT EnS TL
/-! ### parts, rests, fronts -/
theorem isPart_iff : ∀ (es ws : List Str), isPart ws es = true ↔ ws.Sublist es
  | [], [] => ⟨fun _ => List.Sublist.refl _, fun _ => isPart_nil _⟩
  | [], w :: ws => ⟨fun h => by simp [isPart] at h, fun h => by cases h⟩
  | e :: es, [] => ⟨fun _ => List.nil_sublist _, fun _ => isPart_nil _⟩
  | e :: es, w :: ws => by
    have h1 := isPart_iff es ws
    have h2 := isPart_iff es (w :: ws)
    show (if e = w then isPart ws es else isPart (w :: ws) es) = true ↔ _
    by_cases h : e = w
    · rw [if_pos h, h1, h]
      exact List.cons_sublist_cons.symm
    · rw [if_neg h, h2]
      refine ⟨fun s => s.cons e, fun s => ?_⟩
      cases s with
      | cons _ s => exact s
      | cons_cons _ s => exact absurd rfl h
theorem isPart_rev (ws es : List Str) : isPart ws.reverse es.reverse = isPart ws es := by
  have h1 := isPart_iff es.reverse ws.reverse
  have h2 := isPart_iff es ws
  rw [List.reverse_sublist] at h1
  cases ha : isPart ws.reverse es.reverse <;> cases hb : isPart ws es
  · rfl
  · rw [h1.mpr (h2.mp hb)] at ha
    exact ha.symm
  · rw [h2.mpr (h1.mp ha)] at hb
    exact hb
  · rfl
/-- how much of word's beginning is a part of log -/
def mt (ws es : List Str) : Nat := (early ws es 0).length
theorem early_len_k : ∀ (es ws : List Str) (k : Nat), (early ws es k).length = mt ws es
  | [], ws, k => by unfold mt; rw [early_end, early_end]
  | e :: es, [], k => by unfold mt; rw [early_nil, early_nil]
  | e :: es, w :: ws, k => by
    unfold mt
    by_cases h : e = w
    · rw [early_hit h, early_hit h, List.length_cons, List.length_cons, early_len_k es ws (k + 1), early_len_k es ws (0 + 1)]
    · rw [early_miss h, early_miss h, early_len_k es (w :: ws) (k + 1), early_len_k es (w :: ws) (0 + 1)]
theorem mt_end (ws : List Str) : mt ws [] = 0 := by unfold mt; rw [early_end]; rfl
theorem mt_nil (es : List Str) : mt [] es = 0 := by unfold mt; rw [early_nil]; rfl
theorem mt_hit {w e : Str} {ws es : List Str} (h : e = w) : mt (w :: ws) (e :: es) = mt ws es + 1 := by
  unfold mt
  rw [early_hit h, List.length_cons, early_len_k]
  rfl
theorem mt_miss {w e : Str} {ws es : List Str} (h : e ≠ w) : mt (w :: ws) (e :: es) = mt (w :: ws) es := by
  unfold mt
  rw [early_miss h, early_len_k]
  rfl
theorem mt_le (ws es : List Str) : mt ws es ≤ ws.length := early_len es ws 0
theorem isPart_mt : ∀ (es ws : List Str), isPart ws es = decide (mt ws es = ws.length)
  | [], [] => by rw [isPart_nil, mt_nil]; rfl
  | [], w :: ws => by
    rw [mt_end]
    simp [isPart]
  | e :: es, [] => by rw [isPart_nil, mt_nil]; rfl
  | e :: es, w :: ws => by
    show (if e = w then isPart ws es else isPart (w :: ws) es) = _
    by_cases h : e = w
    · rw [if_pos h, isPart_mt es ws, mt_hit h, List.length_cons]
      simp
    · rw [if_neg h, isPart_mt es (w :: ws), mt_miss h]
theorem isPart_take : ∀ (es ws : List Str) (k : Nat), k ≤ ws.length → isPart (ws.take k) es = decide (k ≤ mt ws es)
  | [], [], k, h => by
    have : k = 0 := by simpa using h
    subst this
    rw [List.take_zero, isPart_nil]
    simp
  | [], w :: ws, 0, _ => by
    rw [List.take_zero, isPart_nil]
    simp
  | [], w :: ws, k + 1, _ => by
    rw [mt_end, List.take_succ_cons]
    simp [isPart]
  | e :: es, [], k, h => by
    have : k = 0 := by simpa using h
    subst this
    rw [List.take_zero, isPart_nil]
    simp
  | e :: es, w :: ws, 0, _ => by
    rw [List.take_zero, isPart_nil]
    simp
  | e :: es, w :: ws, k + 1, hk => by
    rw [List.take_succ_cons]
    show (if e = w then isPart (ws.take k) es else isPart (w :: ws.take k) es) = _
    by_cases h : e = w
    · rw [if_pos h, isPart_take es ws k (by simpa using hk), mt_hit h]
      simp
    · have := isPart_take es (w :: ws) (k + 1) hk
      rw [List.take_succ_cons] at this
      rw [if_neg h, this, mt_miss h]
theorem isPart_append : ∀ (es ws more : List Str), isPart ws (es ++ more) = isPart (ws.drop (mt ws es)) more
  | [], ws, more => by rw [mt_end, List.drop_zero]; rfl
  | e :: es, [], more => by rw [isPart_nil, List.drop_nil, isPart_nil]
  | e :: es, w :: ws, more => by
    show (if e = w then isPart ws (es ++ more) else isPart (w :: ws) (es ++ more)) = _
    by_cases h : e = w
    · rw [if_pos h, isPart_append es ws more, mt_hit h, List.drop_succ_cons]
    · rw [if_neg h, isPart_append es (w :: ws) more, mt_miss h]
theorem restOf_eq (ws es : List Str) : restOf ws es = ws.drop (mt ws es) := rfl
/-- word without its longest end that is a part of log -/
def frontOf (ws es : List Str) : List Str := (restOf ws.reverse es.reverse).reverse
theorem isPart_rest (ws es more : List Str) : isPart (restOf ws es) more = isPart ws (es ++ more) := (isPart_append es ws more).symm
theorem isPart_front (ws es more : List Str) : isPart (frontOf ws es) more = isPart ws (more ++ es) := by
  unfold frontOf
  have h := isPart_rest ws.reverse es.reverse more.reverse
  rw [← List.reverse_append, isPart_rev] at h
  rw [← h, ← isPart_rev (restOf ws.reverse es.reverse).reverse, List.reverse_reverse]
theorem frontOf_take (ws es : List Str) : frontOf ws es = ws.take (ws.length - mt ws.reverse es.reverse) := by
  unfold frontOf
  rw [restOf_eq, List.drop_reverse, List.reverse_reverse]
theorem Sq.ne_box {n : Nat} {H : Hp} {p b : Addr} {xs : List V} (h : Sq false H p xs) (x : Bx n H b) : p ≠ b := by
  obtain ⟨x0, x1, x2, e, _⟩ := x
  rintro rfl
  rcases h with h | ⟨o, h⟩
  · rw [h] at e
    cases e
  · rw [h] at e
    cases e
section
variable {X : Cx}
/-- t + u, two tuples -/
def rCatQ : R2 := fun x y H Q => ∃ (a b : Addr) (xs ys : List V), x = .ref a ∧ y = .ref b ∧ Sq false H a xs ∧ Sq false H b ys ∧ xs.length + ys.length ≤ 1000000 ∧ ∀ H' p, Same H H' → Sq false H' p (xs ++ ys) → Q (.ref p) H'
theorem op_catQ : OpR X (binaryOp .Add) rCatQ := by
  intro pins s σ H x y v u Q I rx ry h
  obtain ⟨a, b, xs, ys, rfl, rfl, ha, hb, hl, q⟩ := h
  refine op_catA pins s σ H _ _ v u Q I rx ry ⟨a, b, xs, ys, rfl, rfl, ha.T, hb.T, Nat.le_trans hl (by decide), fun e => ?_, fun _ e => ?_, fun _ _ p np => ?_⟩
  · subst e
    exact q H b (Same.refl H) hb
  · subst e
    exact q H a (Same.refl H) (by rw [List.append_nil]; exact ha)
  · exact q _ p (same_new np) (Sq.tup upd_same)
end
/-- a row of texts as a tree -/
def trs (t : Bool) (es : List Str) : Tr := .sq t (es.map Tr.str)
theorem Is.strs {H : Hp} {t : Bool} {n : Nat} {a : Addr} {es : List Str} (h : Sx t H a (es.map V.str)) (hl : es.length ≤ 1000000) : Is H (n + 1) (trs t es) (.ref a) := by
  refine Is.sq h (by rw [List.length_map]; exact hl) ?_
  clear h hl
  induction es with
  | nil => exact .nil
  | cons e es ih => exact .cons Is.str ih
/-! ### promises of this law's own defs -/
def spLies : Sp := fun vs H Q _ => ∃ (b1 b2 : Bool) (a c : Addr) (ws es : List Str), vs = [.ref a, .ref c] ∧ Sq b1 H a (ws.map V.str) ∧ Sq b2 H c (es.map V.str) ∧ ws.length ≤ 1000 ∧ Q (.bl (isPart ws es)) H
def spRow : Sp := fun vs H Q _ => ∃ (b l : Addr) (n m : Nat) (ss : List Str), vs = [.ref b, .ref l, .int m] ∧ Bx n H b ∧ n < 800000000 ∧ l ≠ b ∧ Sq true H l (ss.map V.str) ∧ ss.length ≤ 1000000 ∧ 0 < ss.length ∧ m ≤ 1000 ∧
  ∀ H' p (es : List Str), Fr b H H' → Bx (n + 1 + m) H' b → Sq false H' p (es.map V.str) → p ≠ b → es.length ≤ m → (∀ e ∈ es, e ∈ ss) → Q (.ref p) H'
def spLeft : Sp := fun vs H Q _ => ∃ (a c : Addr) (ws es : List Str), vs = [.ref a, .ref c] ∧ Sq false H a (ws.map V.str) ∧ Sq false H c (es.map V.str) ∧ ws.length ≤ 1000 ∧
  ∀ H' p, Same H H' → Sq false H' p ((restOf ws es).map V.str) → Q (.ref p) H'
def spFrontL : Sp := fun vs H Q _ => ∃ (a c : Addr) (ws es : List Str), vs = [.ref a, .ref c] ∧ Sq false H a (ws.map V.str) ∧ Sq false H c (es.map V.str) ∧ ws.length ≤ 1000 ∧
  ∀ H' p, Same H H' → Sq false H' p ((frontOf ws es).map V.str) → Q (.ref p) H'
def spTrue3 : Sp := fun vs H Q _ => ∃ (a c d : Addr) (ws es ms : List Str), vs = [.ref a, .ref c, .ref d] ∧ Sq false H a (ws.map V.str) ∧ Sq false H c (es.map V.str) ∧ Sq false H d (ms.map V.str) ∧ ws.length ≤ 100 ∧ es.length ≤ 100 ∧ ms.length ≤ 100 ∧
  ∀ H', Same H H' → Q (.bl true) H'
def spTrue0 : Sp := fun vs H Q _ => vs = [] ∧ ∀ H', Same H H' → Q (.bl true) H'
def spRight (n : Nat) : Sp := fun vs H Q _ => ∃ (b : Addr), vs = [.ref b] ∧ Bx 0 H b ∧ ∀ H', Fr b H H' → Q (.bl true) H'
/-! ### written values -/
section
variable {X : Cx}
/-- what a written value is: new things that nothing else looks at -/
def tLit (n : Nat) (T : Tr) : TE := fun _ H Q => ∀ H' v, Same H H' → Is H' n T v → Q v H'
def tLits (n : Nat) (Ts : List Tr) : TA := fun _ H Q => ∀ H' vs, Same H H' → Paired (Is H' n) Ts vs → Q vs H'
theorem _root_.L2.PA.imp {es : List Expr} {t t' : TA} (h : PA X es t) (i : ∀ σ H Q, t' σ H Q → t σ H Q) : PA X es t' := ⟨fun q pins s σ H Q I z => h.run q pins s σ H Q I (i σ H Q z)⟩
theorem pl_str {n : Nat} {x : Str} {j pos} : PE X (.Constant (.str x) j pos) (tLit n (.str x)) := PE.imp pe_str fun σ H Q q => q H _ (Same.refl H) .str
theorem pl_int {n : Nat} {i : Int} {j pos} : PE X (.Constant (.int i) j pos) (tLit n (.int i)) := PE.imp pe_int fun σ H Q q => q H _ (Same.refl H) .int
theorem pl_bl {n : Nat} {b : Bool} {j pos} : PE X (.Constant (.bool b) j pos) (tLit n (.bl b)) := PE.imp pe_bl fun σ H Q q => q H _ (Same.refl H) .bl
theorem pl_non {n : Nat} {j pos} : PE X (.Constant .none j pos) (tLit n .non) := PE.imp pe_non fun σ H Q q => q H _ (Same.refl H) .non
theorem pl_nil {n : Nat} : PA X [] (tLits n []) := PA.imp pa_nil fun σ H Q q => q H _ (Same.refl H) .nil
theorem pl_cons {n : Nat} {e : Expr} {es : List Expr} {T : Tr} {Ts : List Tr} (he : PE X e (tLit n T)) (hr : PA X es (tLits n Ts)) (hs : starEach (e :: es) X.env = (false, eval e X.env) :: starEach es X.env := by rfl) : PA X (e :: es) (tLits n (T :: Ts)) :=
  PA.imp (pa_cons (hs := hs) he hr) fun σ H Q q H1 v s1 i1 H2 vs s2 i2 => q H2 _ (s1.trans s2) (.cons (i1.same s2) i2)
theorem pl_tup {n : Nat} {es : List Expr} {Ts : List Tr} {x1 pos} (h : PA X es (tLits n Ts)) (hl : Ts.length ≤ 1000000 := by decide) : PE X (.Tuple es x1 pos) (tLit (n + 1) (.sq false Ts)) :=
  PE.imp (pe_tup h) fun σ H Q q H1 vs s1 i1 => by
    have hlen : vs.length ≤ 1000000 := by rw [← Paired.length i1]; exact hl
    exact ⟨Nat.le_trans hlen (by decide), fun p np => q _ _ (s1.trans (same_new np)) (Is.sq (.tup (.tup upd_same)) hlen (paired_imp i1 fun a b z => z.same (same_new np)))⟩
theorem pl_lst {n : Nat} {es : List Expr} {Ts : List Tr} {pos} (h : PA X es (tLits n Ts)) (hl : Ts.length ≤ 1000000 := by decide) : PE X (.List es pos) (tLit (n + 1) (.sq true Ts)) :=
  PE.imp (pe_lst h) fun σ H Q q H1 vs s1 i1 => by
    have hlen : vs.length ≤ 1000000 := by rw [← Paired.length i1]; exact hl
    exact ⟨Nat.le_trans hlen (by decide), fun p np => q _ _ (s1.trans (same_new np)) (Is.sq (.lst upd_same) hlen (paired_imp i1 fun a b z => z.same (same_new np)))⟩
/-- what a written value is, where it stands: in the place of a test of many steps -/
theorem Is.list {H : Hp} {n : Nat} {Ts : List Tr} {v : V} (h : Is H (n + 1) (.sq true Ts) v) : ∃ a xs, v = .ref a ∧ H a = some (.lst xs) ∧ xs.length ≤ 1000000 ∧ Paired (Is H n) Ts xs := by
  obtain ⟨m, a, xs, e, rfl, hs, hl, p⟩ := h.sq_eq
  cases e
  exact ⟨a, xs, rfl, hs.2 rfl, hl, p⟩
theorem Is.tuple {H : Hp} {n : Nat} {Ts : List Tr} {v : V} (h : Is H (n + 1) (.sq false Ts) v) : ∃ a xs, v = .ref a ∧ Sq false H a xs ∧ xs.length ≤ 1000000 ∧ Paired (Is H n) Ts xs := by
  obtain ⟨m, a, xs, e, rfl, hs, hl, p⟩ := h.sq_eq
  cases e
  exact ⟨a, xs, rfl, hs.1, hl, p⟩
theorem paired_str {H : Hp} {n : Nat} : ∀ {es : List Str} {xs : List V}, Paired (Is H n) (es.map Tr.str) xs → xs = es.map V.str
  | [], _, .nil => rfl
  | e :: es, _, .cons r t => by rw [r.str_eq, paired_str t]; rfl
theorem Is.row {H : Hp} {n : Nat} {es : List Str} {v : V} (h : Is H (n + 1) (trs false es) v) : ∃ a, v = .ref a ∧ Sq false H a (es.map V.str) := by
  obtain ⟨a, xs, e, hs, hl, p⟩ := Is.tuple (show Is H (n + 1) (.sq false (es.map Tr.str)) v from h)
  rw [paired_str p] at hs
  exact ⟨a, e, hs⟩
theorem paired_append {α β : Type} {F : α → β → Prop} : ∀ {a : List α} {b : List β} {c : List α} {d : List β}, Paired F a b → Paired F c d → Paired F (a ++ c) (b ++ d)
  | _, _, _, _, .nil, q => q
  | _, _, _, _, .cons r t, q => .cons r (paired_append t q)
/-- two lists, one behind the other -/
def rCatX : R2 := fun x y H Q => ∃ (n : Nat) (Ts Us : List Tr), Is H (n + 1) (.sq true Ts) x ∧ Is H (n + 1) (.sq true Us) y ∧ Ts.length + Us.length ≤ 1000000 ∧ ∀ H' v, Same H H' → Is H' (n + 1) (.sq true (Ts ++ Us)) v → Q v H'
theorem op_catX : OpR X (binaryOp .Add) rCatX := by
  intro pins s σ H x y v u Q I rx ry h
  obtain ⟨n, Ts, Us, hx, hy, hl, q⟩ := h
  obtain ⟨a, xs, rfl, ea, la, pa⟩ := hx.list
  obtain ⟨b, ys, rfl, eb, lb, pb⟩ := hy.list
  have h1 := Paired.length pa
  have h2 := Paired.length pb
  refine op_cat pins s σ H _ _ v u Q I rx ry ⟨a, b, xs, ys, rfl, rfl, ea, eb, Nat.le_trans (by omega : xs.length + ys.length ≤ 1000000) (by decide), fun p np => ?_⟩
  refine q _ _ (same_new np) (Is.sq (.lst upd_same) (by rw [List.length_append]; omega) ?_)
  exact paired_append (paired_imp pa fun a b z => z.same (same_new np)) (paired_imp pb fun a b z => z.same (same_new np))
end
/-! ### rows of texts in a list -/
def RowAt (H : Hp) (w : List Str) (v : V) : Prop := ∃ p, v = .ref p ∧ Sq false H p (w.map V.str) ∧ w.length ≤ 1000000
theorem RowAt.same {H H' : Hp} {w : List Str} {v : V} (s : Same H H') (h : RowAt H w v) : RowAt H' w v := by
  obtain ⟨p, e, hp, l⟩ := h
  exact ⟨p, e, s.sq hp, l⟩
theorem Sq.put_list {H : Hp} {p D : Addr} {xs ys : List V} {o : HO} (h : Sq false H p xs) (e : H D = some (.lst ys)) : Sq false (L2.upd H D o) p xs := by
  refine h.mv fun u hu => ?_
  rw [upd_ne]
  · exact hu
  · rintro rfl
    rcases h with h | ⟨o', h⟩
    · rw [h] at e
      cases e
    · rw [h] at e
      cases e
theorem RowAt.put {H : Hp} {D : Addr} {w : List Str} {v : V} {ys : List V} {o : HO} (h : RowAt H w v) (e : H D = some (.lst ys)) : RowAt (L2.upd H D o) w v := by
  obtain ⟨p, e', hp, l⟩ := h
  exact ⟨p, e', Sq.put_list hp e, l⟩
theorem RowAt.is {H : Hp} {n : Nat} {w : List Str} {v : V} (h : RowAt H w v) : Is H (n + 1) (trs false w) v := by
  obtain ⟨p, rfl, hp, l⟩ := h
  exact .strs (.tup hp) l
/-- rows as a tree -/
def trows (t : Bool) (Ws : List (List Str)) : Tr := .sq t (Ws.map (trs false))
theorem paired_map {α β γ : Type} {F : β → γ → Prop} {f : α → β} : ∀ {l : List α} {m : List γ}, Paired (fun a c => F (f a) c) l m → Paired F (l.map f) m
  | _, _, .nil => .nil
  | _, _, .cons r t => .cons r (paired_map t)
theorem paired_unmap {α β γ : Type} {F : β → γ → Prop} {f : α → β} : ∀ {l : List α} {m : List γ}, Paired F (l.map f) m → Paired (fun a c => F (f a) c) l m
  | [], _, .nil => .nil
  | _ :: _, _, .cons r t => .cons r (paired_unmap t)
theorem rows_is {H : Hp} {n : Nat} {D : Addr} {Ws : List (List Str)} {ys : List V} (e : H D = some (.lst ys)) (hl : ys.length ≤ 1000000) (p : Paired (RowAt H) Ws ys) : Is H (n + 2) (trows true Ws) (.ref D) :=
  Is.sq (.lst e) hl (paired_map (paired_imp p fun _ _ z => z.is))
theorem Is.row_at {H : Hp} {n : Nat} {es : List Str} {v : V} (h : Is H (n + 1) (trs false es) v) : RowAt H es v := by
  obtain ⟨a, xs, e, hs, hl, p⟩ := Is.tuple (show Is H (n + 1) (.sq false (es.map Tr.str)) v from h)
  have q := paired_str p
  rw [q] at hs
  refine ⟨a, e, hs, ?_⟩
  rw [q, List.length_map] at hl
  exact hl
theorem rows_of {H : Hp} {n : Nat} {t : Bool} {Ws : List (List Str)} {v : V} (h : Is H (n + 2) (trows t Ws) v) : ∃ a xs, v = .ref a ∧ Sq t H a xs ∧ xs.length ≤ 1000000 ∧ Paired (RowAt H) Ws xs := by
  obtain ⟨m, a, xs, e, rfl, hs, hl, p⟩ := Is.sq_eq (show Is H (n + 2) (.sq t (Ws.map (trs false))) v from h)
  cases e
  exact ⟨a, xs, rfl, hs.1, hl, paired_imp (paired_unmap p) fun _ _ z => z.row_at⟩
theorem paired_snoc {α β : Type} {F : α → β → Prop} {l : List α} {m : List β} {a : α} {b : β} (p : Paired F l m) (h : F a b) : Paired F (l ++ [a]) (m ++ [b]) := paired_append p (.cons h .nil)
end LwB
namespace NsT
open PySem PySem.Spec PyProof.Rows L2 PySem.W
section
variable {P : Program} {w : World} {A : Around} {E : Value → Shared → Prop} {s : Shared}
mutual
theorem depth_data : ∀ k : NestedKey, k.data.depth ≤ k.depth
  | .none => by simp [NestedKey.data, PyData.depth, NestedKey.depth]
  | .num _ => by simp [NestedKey.data, PyData.depth, NestedKey.depth]
  | .text _ => by simp [NestedKey.data, PyData.depth, NestedKey.depth]
  | .tup ks => by
    simp only [NestedKey.data, PyData.depth, NestedKey.depth]
    exact Nat.succ_le_succ (depth_datas ks)
theorem depth_datas : ∀ ks : List NestedKey, PyData.depthAll (NestedKey.datas ks) ≤ NestedKey.depthAll ks
  | [] => by simp [NestedKey.datas, PyData.depthAll, NestedKey.depthAll]
  | k :: ks => by
    have h1 := depth_data k
    have h2 := depth_datas ks
    simp only [NestedKey.datas, PyData.depthAll, NestedKey.depthAll]
    omega
end
theorem dataLe_tot {β : Type} (k : β → PyData) : TotalLe (dataLe false k) := sortLe_total (listOrd itemOrd) false fun b => keyToks (k b)
theorem each_refs : ∀ {out : List Value} {M : List (Addr × NestedKey)}, EachIs (fun v q => v = Value.ref q.1) out M → out = M.map fun q => Value.ref q.1
  | _, _, .nil => rfl
  | _, _, .cons e t => by rw [e, each_refs t] <;> rfl
theorem refs_each : ∀ M : List (Addr × NestedKey), EachIs (fun v q => v = Value.ref q.1) (M.map fun q => Value.ref q.1) M
  | [] => .nil
  | _ :: M => .cons rfl (refs_each M)
theorem each_reads {h : Heap} {a : Addr} : ∀ M : List (Addr × NestedKey), (∀ q ∈ M, Reads h (.ref q.1) q.2.data []) → EachIs (fun v q => ∃ as, Reads h v q.2.data as ∧ a ∉ as) (M.map fun q => Value.ref q.1) M
  | [], _ => .nil
  | q :: M, r => .cons ⟨[], r q List.mem_cons_self, fun z => nomatch z⟩ (each_reads M fun x hx => r x (List.mem_cons_of_mem _ hx))
/-- sorted(S), S such a set -/
theorem sorted_setN {a : Addr} {L : List (Addr × NestedKey)} {es : Array (Int × Value)} {ep : Nat} {t : SetTable} {Q : Value → Shared → Prop} (R : SetN P w s.heap a L es ep t) (hh : A.handled = none) (hu : A.units + 12 < cLine)
    (rd : ∀ q ∈ L, Reads s.heap (.ref q.1) q.2.data []) (hal : ∀ M : List (Addr × NestedKey), (∀ q ∈ M, q ∈ L) → AllAlike (M.map fun q => q.2.data)) (hso : ∀ M : List (Addr × NestedKey), M.Perm L → Sortable (M.map fun q => q.2.data))
    (hQ : ∀ s' p (out : Array Value) (c : Nat) (L' : List (Addr × NestedKey)), (∀ b o, s.heap.get? b = some o → s'.heap.get? b = some o) → s'.gens = s.gens → s'.os = s.os → s.heap.objs.size ≤ p →
      s'.heap.get? p = some (seqObj "list" out c) → out.toList = L'.map (fun q => Value.ref q.1) → L'.Perm L → L'.Pairwise (fun q r => dataLe false (fun q : Addr × NestedKey => q.2.data) q r = true) → Q (.ref p) s') :
    wpAny (model P w) A (call (.builtin "sorted") [.ref a]) Q E s := by
  obtain ⟨o, ho, hex, hd⟩ := R.ob
  have hsz := R.size
  have hfew := R.few
  refine Calls.call_function_entry kind_sorted plain_sorted entry_sorted (args_sorted1 _) ?_
  unfold Builtin.«sorted»
  refine wpAny_bind (m := checkCount "sorted" 1 1 _) (wpAny_pure ?_)
  refine wpAny_bind (collect_set (A := A.in1) hh ⟨o, ho, hex.1, hd⟩ R.fits (by unfold scanBound; omega) R.tab.ris R.led fun s1 vs k1 hz g1 o1 pm => ?_)
  have hes : es.toList.map (·.2) = L.map fun q => Value.ref q.1 := by
    rw [R.rows]
    unfold rowsN
    rw [List.map_map] <;> rfl
  rw [hes] at pm
  have one : ∀ q ∈ L, ∀ r ∈ L, q.1 = r.1 → q = r := fun q hq r hr e => by
    have a1 := R.tup q hq
    have a2 := R.tup r hr
    rw [e] at a1
    exact Prod.ext e (a1.inj a2)
  have nref : (L.map fun q => Value.ref q.1).Nodup := by
    have nL : L.Nodup := nodup_of_map R.nd
    refine List.pairwise_map.mpr (List.Pairwise.imp_of_mem (fun {q r} hq hr hne e => ?_) nL)
    injection e with e
    exact hne (one q hq r hr e)
  obtain ⟨M, eM, pM⟩ : ∃ M : List (Addr × NestedKey), vs = M.map (fun q => Value.ref q.1) ∧ M.Perm L := by
    have ord : ∀ vs : List Value, (∀ v ∈ vs, ∃ q ∈ L, v = Value.ref q.1) → ∃ M : List (Addr × NestedKey), vs = M.map (fun q => Value.ref q.1) ∧ ∀ q ∈ M, q ∈ L := by
      intro vs
      induction vs with
      | nil => intro _; exact ⟨[], rfl, fun q hq => (by cases hq)⟩
      | cons v vs ih =>
        intro hv
        obtain ⟨q, hq, e⟩ := hv v List.mem_cons_self
        obtain ⟨M, e1, hs⟩ := ih fun u hu => hv u (List.mem_cons_of_mem _ hu)
        exact ⟨q :: M, by rw [List.map_cons, e, e1], fun r hr => (List.mem_cons.mp hr).elim (fun z => z ▸ hq) (hs r)⟩
    obtain ⟨M, eM, sM⟩ := ord vs fun v hv => by
      obtain ⟨q, hq, e⟩ := List.mem_map.mp (pm.mem_iff.mp hv)
      exact ⟨q, hq, e.symm⟩
    refine ⟨M, eM, ?_⟩
    rw [eM] at pm
    have n1 : M.Nodup := nodup_of_map (pm.nodup_iff.mpr nref)
    refine (List.perm_ext_iff_of_nodup n1 (nodup_of_map R.nd)).mpr fun q => ⟨sM q, fun hq => ?_⟩
    obtain ⟨r, hr, e⟩ := List.mem_map.mp (pm.mem_iff.mpr (List.mem_map.mpr ⟨q, hq, rfl⟩))
    injection e with e
    rw [← one r (sM r hr) q hq e]
    exact hr
  subst eM
  have hvl : (M.map fun q => Value.ref q.1).length < 77 := by rw [List.length_map, pM.length_eq]; exact hfew
  refine wpAny_bind (wpAny_newList ?_ (by rw [sizeLine_eq]; omega))
  have hoL : (s1.heap.push (seqObj "list" (M.map fun q => Value.ref q.1).toArray 0)).get? s1.heap.objs.size = some (seqObj "list" (M.map fun q => Value.ref q.1).toArray 0) := Heap.get?_push_size _ rfl
  have rM : ∀ q ∈ M, Reads (s1.heap.push (seqObj "list" (M.map fun q => Value.ref q.1).toArray 0)) (.ref q.1) q.2.data [] := fun q hq => PyProof.Rows.Reads.keeps (fun b u e => Heap.get?_push_of_some _ (k1 b u e)) (rd q (pM.mem_iff.mp hq))
  refine wpAny_bind (wpAny_holding (list_sort_data (s := { s1 with heap := s1.heap.push (seqObj "list" (M.map fun q => Value.ref q.1).toArray 0) }) (R := fun v (q : Addr × NestedKey) => v = Value.ref q.1) (enc := fun q : Addr × NestedKey => q.2.data) hoL (refs_each M) (each_reads M rM) (hal M fun q hq => pM.mem_iff.mp hq) (hso M pM) ?_ ?_ fun out hlen hout => ?_))
  · rw [List.length_map] at hvl
    rw [sizeLine_eq]
    omega
  · intro q hq
    have h1 := (R.tup q (pM.mem_iff.mp hq)).2
    have h2 := depth_data q.2
    show A.units + 1 + 1 + q.2.data.depth < cLine
    omega
  have eo := each_refs hout
  obtain ⟨c, hc⟩ := sortedHeap_at (vs := M.map fun q => Value.ref q.1) (out := out.toArray) hoL
  refine wpAny_pure ⟨_, rfl, hQ _ s1.heap.objs.size out.toArray c (M.mergeSort (dataLe false fun q => q.2.data)) (fun b u e => ?_) g1 o1 hz hc (by simpa using eo) ((List.mergeSort_perm M _).trans pM) (sort_pairwise (dataLe_tot _) M)⟩
  have q := k1 b u e
  have hlt := Heap.lt_size q
  show (sortedHeap (s1.heap.push (seqObj "list" (M.map fun q => Value.ref q.1).toArray 0)) s1.heap.objs.size (M.map fun q => Value.ref q.1) out.toArray).get? b = some u
  rw [sortedHeap_old (Nat.ne_of_lt hlt) (by rw [size_push']; exact Nat.lt_succ_of_lt hlt)]
  exact Heap.get?_push_of_some _ q
end
/-! ### keys where the walk sees them -/
mutual
inductive KIs (H : Hp) : NestedKey → V → Prop
  | num (i) : KIs H (.num i) (.int i)
  | text (x) : KIs H (.text x) (.str x)
  | tup {a ks xs} : LwB.Sq false H a xs → KAll H ks xs → KIs H (.tup ks) (.ref a)
inductive KAll (H : Hp) : List NestedKey → List V → Prop
  | nil : KAll H [] []
  | cons {k v ks vs} : KIs H k v → KAll H ks vs → KAll H (k :: ks) (v :: vs)
end
section
variable {X : Cx} {pins : List (Addr × Obj)} {σ : L2.St} {H : Hp} {s : Shared}
mutual
theorem KIs.raw (I : Inv X pins σ H s) : ∀ {k : NestedKey} {v : V} {u : Value}, KIs H k v → RelV v u → NestedIs s.heap k u ∧ Reads s.heap u k.data []
  | .num i, _, _, x, r => by
    cases x
    obtain ⟨tk, rfl⟩ := r
    exact ⟨.int _ _, .int _ _⟩
  | .text z, _, _, x, r => by
    cases x
    obtain ⟨tk, rfl⟩ := r
    exact ⟨.text _ _, .str _ _⟩
  | .none, _, _, x, _ => by cases x
  | .tup ks, _, _, x, r => by
    cases x with
    | tup hs hk =>
      cases r
      obtain ⟨its, rv, ⟨o, ho, hc, n, hd⟩, _⟩ := I.tuple hs.T
      obtain ⟨h1, h2⟩ := KAll.raw I hk rv
      exact ⟨.tup ho hc hd (by simpa using h1), .tuple ho hc hd (by simpa [NestedKey.data] using h2)⟩
theorem KAll.raw (I : Inv X pins σ H s) : ∀ {ks : List NestedKey} {vs : List V} {us : List Value}, KAll H ks vs → Vals vs us → NestedAll s.heap ks us ∧ ReadsAll s.heap us (NestedKey.datas ks) []
  | [], _, _, x, r => by
    cases x
    cases r
    exact ⟨.nil, .nil⟩
  | k :: ks, _, _, x, r => by
    cases x with
    | cons x1 x2 =>
      cases r with
      | cons r1 r2 =>
        obtain ⟨a1, a2⟩ := KIs.raw I x1 r1
        obtain ⟨b1, b2⟩ := KAll.raw I x2 r2
        exact ⟨.cons a1 b1, by simpa [NestedKey.datas] using ReadsAll.cons a2 b2⟩
end
end
/-! ### the set as a thing of the walk -/
structure SetN0 (P : Program) (w : World) (h : Heap) (a : Addr) (L : List (Addr × NestedKey)) : Prop where
  ex : ∃ (es : Array (Int × Value)) (ep : Nat) (t : SetTable), (∃ o, h.get? a = some o ∧ o.ExactSet ∧ o.data = .set es ep t) ∧ es.toList = rowsN P w L ∧ TabOk t (L.map fun p => nhash w p.2) ∧ (L.map (·.2)).Nodup ∧
    (w.params.followText "set-order" = true ∨ t.led = true) ∧ L.length * 5 < t.mask * 3 ∧ L.length < 77
def SetNO (P : Program) (w : World) (a : Addr) (L : List (Addr × NestedKey)) : HO := .ext fun h => SetN0 P w h a L
theorem SetN.n0 {P : Program} {w : World} {h : Heap} {a : Addr} {L : List (Addr × NestedKey)} {es : Array (Int × Value)} {ep : Nat} {t : SetTable} (R : SetN P w h a L es ep t) : SetN0 P w h a L :=
  ⟨es, ep, t, R.ob, R.rows, R.tab, R.nd, R.led, R.room, R.few⟩
theorem SetN0.full {P : Program} {w : World} {h : Heap} {a : Addr} {L : List (Addr × NestedKey)} (R : SetN0 P w h a L) (ht : ∀ p ∈ L, Nk h p.2 p.1) : ∃ es ep t, SetN P w h a L es ep t := by
  obtain ⟨es, ep, t, h1, h2, h3, h4, h6, h7, h8⟩ := R.ex
  exact ⟨es, ep, t, h1, h2, h3, h4, ht, h6, h7, h8⟩
theorem setNO_new {P : Program} {w : World} {H : Hp} {h : Heap} {a : Addr} {L : List (Addr × NestedKey)} (R : SetN0 P w h a L) : ObjOk P w H h a (SetNO P w a L) := by
  have ⟨es, ep, t, ⟨o, ho, r⟩, q⟩ := R.ex
  refine ⟨R, ⟨o, ho⟩, fun h1 h2 p k => ?_⟩
  have ⟨es', ep', t', ⟨o', ho', r'⟩, q'⟩ := SetN0.ex p
  exact ⟨es', ep', t', ⟨o', k o' ho', r'⟩, q'⟩
theorem refsN_of : ∀ {ks : List (Addr × NestedKey)} {us : List Value}, Vals (ks.map fun p => V.ref p.1) us → us = ks.map fun p => Value.ref p.1
  | [], _, .nil => rfl
  | p :: ks, _, .cons r t => by
    cases r
    rw [refsN_of t] <;> rfl
theorem of_refsN : ∀ ks : List (Addr × NestedKey), Vals (ks.map fun p => V.ref p.1) (ks.map fun p => Value.ref p.1)
  | [] => .nil
  | p :: ks => .cons rfl (of_refsN ks)
section
variable {X : Cx}
/-- set(xs): a list of such tuples, fewer than 64 -/
def rSetN (P : Program) (w : World) : List V → Hp → VK → Prop := fun xs H Q => ∃ (l : Addr) (ks : List (Addr × NestedKey)), xs = [V.ref l] ∧ LwB.Sq true H l (ks.map fun p => V.ref p.1) ∧ (∀ p ∈ ks, KIs H p.2 (.ref p.1) ∧ p.2.depth ≤ 7) ∧ ks.length < 77 ∧
  ∀ a L, H a = none → (∀ p ∈ L, p ∈ ks) → (∀ p ∈ ks, p.2 ∈ L.map (·.2)) → (L.map (·.2)).Nodup → Q (.ref a) (upd H a (SetNO P w a L))
theorem cr_setN (hc : X.calm = true) (hu : X.A.units + 64 < cLine) : CallR X (.type "set") (rSetN X.prog X.w) := by
  intro pins s σ H xs us Q I r h
  obtain ⟨l, ks, rfl, hl, kk, hf, q⟩ := h
  rw [Vals.ref1 r]
  obtain ⟨its, rv, pl, hz⟩ := I.list hl.L
  have hn : H s.heap.objs.size = none := I.hok.fresh (Nat.le_refl _)
  refine call_setN (P := X.prog) (w := X.w) ks (I.ok.hd hc) pl.isList (by simpa using refsN_of rv) (fun p hp => ⟨((kk p hp).1.raw I rfl).1, (kk p hp).2⟩) hf (by omega) fun h' tk L es ep t R g k => ?_
  refine ⟨.ref s.heap.objs.size, upd H s.heap.objs.size (SetNO X.prog X.w s.heap.objs.size L), I.laid (t' := tk) k (Nat.le_refl _) (setNO_new R.n0), rfl, q _ L hn (fun p hp => ?_) (fun p hp => ?_) R.nd⟩
  · exact List.mem_of_mem_take (g.sub p hp)
  · exact g.all p (by rw [List.take_length]; exact hp)
/-- sorted(S) -/
def rSortN (P : Program) (w : World) : List V → Hp → VK → Prop := fun vs H Q => ∃ (a : Addr) (L : List (Addr × NestedKey)), vs = [V.ref a] ∧ H a = some (SetNO P w a L) ∧ (∀ p ∈ L, KIs H p.2 (.ref p.1) ∧ p.2.depth ≤ 7) ∧
  (∀ M : List (Addr × NestedKey), (∀ q ∈ M, q ∈ L) → AllAlike (M.map fun q => q.2.data)) ∧ (∀ M : List (Addr × NestedKey), M.Perm L → Sortable (M.map fun q => q.2.data)) ∧
  ∀ (L' : List (Addr × NestedKey)) (p : Addr), L'.Perm L → (L'.map (·.2)).Nodup → L'.length < 77 → L'.Pairwise (fun q r => dataLe false (fun q : Addr × NestedKey => q.2.data) q r = true) → H p = none → Q (.ref p) (upd H p (.lst (L'.map fun q => V.ref q.1)))
theorem cr_sortN (hc : X.calm = true) (hu : X.A.units + 64 < cLine) : CallR X (.builtin "sorted") (rSortN X.prog X.w) := by
  intro pins s σ H vs us Q I r h
  obtain ⟨a, L, rfl, ha, kk, hal, hso, q⟩ := h
  have R0 : SetN0 X.prog X.w s.heap a L := (I.hok a _ ha).1
  obtain ⟨es, ep, t, R⟩ := R0.full fun p hp => ⟨((kk p hp).1.raw I rfl).1, (kk p hp).2⟩
  rw [Vals.ref1 r]
  refine sorted_setN R (I.ok.hd hc) (by omega) (fun p hp => ((kk p hp).1.raw I rfl).2) hal hso fun s' p out c L' k g o hp hg hout pm pw => ?_
  have hfew : L'.length < 77 := by rw [pm.length_eq]; exact R.few
  have hlen : (L'.map fun q => V.ref q.1).length ≤ sizeLine := by rw [List.length_map, sizeLine_eq]; omega
  have hn : H p = none := I.hok.fresh hp
  have hv : Vals (L'.map fun q => V.ref q.1) out.toList := by rw [hout]; exact of_refsN L'
  have J : Inv X pins σ (upd H p (.lst (L'.map fun q => V.ref q.1))) { s with heap := s'.heap, gens := s'.gens, drawn := s'.drawn, toks := s'.toks } :=
    I.call (ch := []) (Un.laid k hp hn) (I.hok.laid k hp ⟨hlen, out.toList, c, hv, hg⟩) (by rw [g]; exact I.bare) (fun _ z => nomatch z)
  have e : s' = { s with heap := s'.heap, gens := s'.gens, drawn := s'.drawn, toks := s'.toks } := by
    cases s'
    cases s
    cases o
    rfl
  rw [e]
  exact ⟨.ref p, _, J, rfl, q L' p pm ((pm.map (·.2)).nodup_iff.mpr R.nd) hfew pw hn⟩
end
end NsT
namespace LwB
open PySem PySem.Spec PyProof.Rows L2 IqX RvT EnS TL NsT
section
variable {X : Cx}
/-! ### against the empty one -/
def rEqE (K : PySem.W.Frag) : R2 := fun x y H Q => ∃ (b : Bool) (a c : Addr) (xs : List V), x = .ref a ∧ y = .ref c ∧ SqB K b H a xs ∧ SqB K b H c [] ∧ Q (.bl xs.isEmpty) H
def rNeE (K : PySem.W.Frag) : R2 := fun x y H Q => ∃ (b : Bool) (a c : Addr) (xs : List V), x = .ref a ∧ y = .ref c ∧ SqB K b H a xs ∧ SqB K b H c [] ∧ Q (.bl (!xs.isEmpty)) H
theorem vals_nil {us : List Value} (r : Vals [] us) : us = [] := by cases r; rfl
theorem empty_len {xs : List V} {us : List Value} (r : Vals xs us) : xs.isEmpty = us.isEmpty := by cases r <;> rfl
theorem op_eqE (hu : X.A.units + 64 < cLine) : OpR X (compareOp .Eq) (rEqE X.K) := by
  intro pins s σ H x y v u Q I rx ry h
  obtain ⟨b, a, c, xs, rfl, rfl, ha, hc, q⟩ := h
  cases (show v = Value.ref a from rx)
  cases (show u = Value.ref c from ry)
  cases b with
  | true =>
    obtain ⟨us, r1, p1, _⟩ := I.list ha.list
    obtain ⟨ws, r2, p2, _⟩ := I.list hc.list
    have e := vals_nil r2
    subst e
    cases r1 with
    | nil => exact SeqAt.RcAt.lists (e := fun _ => true) p1.isList p2.isList rfl (by omega) (fun j h1 _ => absurd h1 (Nat.not_lt_zero _)) _ _ _ _ ⟨.bl _, H, I, rfl, q⟩
    | cons r t => exact SeqAt.RcAt.lists_lengths p1.isList p2.isList rfl (by omega) _ _ _ _ ⟨.bl _, H, I, rfl, q⟩
  | false =>
    obtain ⟨us, r1, p1, _⟩ := I.tuple ha.tup
    obtain ⟨ws, r2, p2, _⟩ := I.tuple hc.tup
    have e := vals_nil r2
    subst e
    have key := SeqAt.RcAt.tuples (A := X.A) (e := fun _ => true) (show s.heap.IsTuple a us.toArray from p1) (show s.heap.IsTuple c ([] : List Value).toArray from p2) (by omega) (fun j _ h2 => absurd h2 (Nat.not_lt_zero _))
    cases r1 with
    | nil => exact key _ _ _ _ ⟨.bl _, H, I, rfl, q⟩
    | cons r t => exact key _ _ _ _ ⟨.bl _, H, I, rfl, q⟩
theorem op_neE (hu : X.A.units + 64 < cLine) : OpR X (compareOp .NotEq) (rNeE X.K) := by
  intro pins s σ H x y v u Q I rx ry h
  obtain ⟨b, a, c, xs, rfl, rfl, ha, hc, q⟩ := h
  cases (show v = Value.ref a from rx)
  cases (show u = Value.ref c from ry)
  cases b with
  | true =>
    obtain ⟨us, r1, p1, _⟩ := I.list ha.list
    obtain ⟨ws, r2, p2, _⟩ := I.list hc.list
    have e := vals_nil r2
    subst e
    cases r1 with
    | nil => exact SeqAt.RcNeAt.lists (e := fun _ => true) p1.isList p2.isList rfl (by omega) (fun j h1 _ => absurd h1 (Nat.not_lt_zero _)) _ _ _ _ ⟨.bl _, H, I, rfl, q⟩
    | cons r t => exact SeqAt.RcNeAt.lists_lengths p1.isList p2.isList rfl (by omega) _ _ _ _ ⟨.bl _, H, I, rfl, q⟩
  | false =>
    obtain ⟨us, r1, p1, _⟩ := I.tuple ha.tup
    obtain ⟨ws, r2, p2, _⟩ := I.tuple hc.tup
    have e := vals_nil r2
    subst e
    have key := SeqAt.RcNeAt.tuples (A := X.A) (e := fun _ => true) (show s.heap.IsTuple a us.toArray from p1) (show s.heap.IsTuple c ([] : List Value).toArray from p2) (by omega) (fun j _ h2 => absurd h2 (Nat.not_lt_zero _))
    cases r1 with
    | nil => exact key _ _ _ _ ⟨.bl _, H, I, rfl, q⟩
    | cons r t => exact key _ _ _ _ ⟨.bl _, H, I, rfl, q⟩
/-! ### two tuples of texts, numbers and such tuples -/
def rEqK : R2 := fun x y H Q => ∃ (ks ls : List NestedKey) (a c : Addr), x = .ref a ∧ y = .ref c ∧ KIs H (.tup ks) (.ref a) ∧ KIs H (.tup ls) (.ref c) ∧ NestedKey.depthAll ks ≤ 60 ∧ Q (.bl (NestedKey.beqAll ks ls)) H
def rNeK : R2 := fun x y H Q => ∃ (ks ls : List NestedKey) (a c : Addr), x = .ref a ∧ y = .ref c ∧ KIs H (.tup ks) (.ref a) ∧ KIs H (.tup ls) (.ref c) ∧ NestedKey.depthAll ks ≤ 60 ∧ Q (.bl (!NestedKey.beqAll ks ls)) H
theorem op_eqK (hu : X.A.units + 64 < cLine) : OpR X (compareOp .Eq) rEqK := by
  intro pins s σ H x y v u Q I rx ry h
  obtain ⟨ks, ls, a, c, rfl, rfl, ha, hc, hd, q⟩ := h
  cases (show v = Value.ref a from rx)
  cases (show u = Value.ref c from ry)
  obtain ⟨n1, _⟩ := ha.raw I rfl
  obtain ⟨n2, _⟩ := hc.raw I rfl
  cases n1 with
  | @tup _ o vs n _ h1 h2 h3 h4 =>
    cases n2 with
    | @tup _ o' vs' n' _ k1 k2 k3 k4 =>
      have l1 : vs.size = ks.length := by simpa using NestedAll.length _ _ h4
      have l2 : vs'.size = ls.length := by simpa using NestedAll.length _ _ k4
      have key := SeqAt.RcAt.tuples (A := X.A) (e := keyEqAt ks ls) (show s.heap.IsTuple a vs from ⟨_, h1, h2, _, h3⟩) (show s.heap.IsTuple c vs' from ⟨_, k1, k2, _, k3⟩) (by omega) fun j j1 j2 => by
        have := eqAt_keys ks ls X.A.in1 s vs.toList vs'.toList h4 k4 (by show X.A.units + 1 + _ < cLine; omega) j (by simpa using j1) (by simpa using j2)
        simpa using this
      rw [l1, l2, beqAll_eq] at key
      exact key _ _ _ _ ⟨.bl _, H, I, rfl, q⟩
theorem op_neK (hu : X.A.units + 64 < cLine) : OpR X (compareOp .NotEq) rNeK := by
  intro pins s σ H x y v u Q I rx ry h
  obtain ⟨ks, ls, a, c, rfl, rfl, ha, hc, hd, q⟩ := h
  cases (show v = Value.ref a from rx)
  cases (show u = Value.ref c from ry)
  obtain ⟨n1, _⟩ := ha.raw I rfl
  obtain ⟨n2, _⟩ := hc.raw I rfl
  cases n1 with
  | @tup _ o vs n _ h1 h2 h3 h4 =>
    cases n2 with
    | @tup _ o' vs' n' _ k1 k2 k3 k4 =>
      have l1 : vs.size = ks.length := by simpa using NestedAll.length _ _ h4
      have l2 : vs'.size = ls.length := by simpa using NestedAll.length _ _ k4
      have key := SeqAt.RcNeAt.tuples (A := X.A) (e := keyEqAt ks ls) (show s.heap.IsTuple a vs from ⟨_, h1, h2, _, h3⟩) (show s.heap.IsTuple c vs' from ⟨_, k1, k2, _, k3⟩) (by omega) fun j j1 j2 => by
        have := eqAt_keys ks ls X.A.in1 s vs.toList vs'.toList h4 k4 (by show X.A.units + 1 + _ < cLine; omega) j (by simpa using j1) (by simpa using j2)
        simpa using this
      rw [l1, l2, beqAll_eq] at key
      exact key _ _ _ _ ⟨.bl _, H, I, rfl, q⟩
end
/-! ### rows of texts as keys -/
def rowK (w : List Str) : NestedKey := .tup (w.map NestedKey.text)
def pairK (w : List Str) : NestedKey := .tup [.num (w.length : Nat), rowK w]
theorem kall_texts {H : Hp} : ∀ w : List Str, KAll H (w.map NestedKey.text) (w.map V.str)
  | [] => .nil
  | z :: w => .cons (.text z) (kall_texts w)
theorem RowAt.key {H : Hp} {w : List Str} {v : V} (h : RowAt H w v) : KIs H (rowK w) v := by
  obtain ⟨p, rfl, hp, _⟩ := h
  exact .tup hp (kall_texts w)
theorem depth_texts : ∀ w : List Str, NestedKey.depthAll (w.map NestedKey.text) = 0
  | [] => rfl
  | z :: w => by
    show max 0 (NestedKey.depthAll (w.map NestedKey.text)) = 0
    rw [depth_texts w]
    rfl
theorem rowK_depth (w : List Str) : (rowK w).depth = 1 := by
  show NestedKey.depthAll (w.map NestedKey.text) + 1 = 1
  rw [depth_texts]
theorem pairK_depth (w : List Str) : (pairK w).depth = 2 := by
  show max 0 (max (rowK w).depth 0) + 1 = 2
  rw [rowK_depth]
  rfl
theorem beq_texts : ∀ u w : List Str, NestedKey.beqAll (u.map NestedKey.text) (w.map NestedKey.text) = decide (u = w)
  | [], [] => rfl
  | [], _ :: _ => rfl
  | _ :: _, [] => rfl
  | a :: u, b :: w => by
    show (decide (a = b) && NestedKey.beqAll (u.map NestedKey.text) (w.map NestedKey.text)) = _
    rw [beq_texts u w]
    simp
theorem text_inj : ∀ {u w : List Str}, u.map NestedKey.text = w.map NestedKey.text → u = w
  | [], [], _ => rfl
  | [], _ :: _, h => by cases h
  | _ :: _, [], h => by cases h
  | a :: u, b :: w, h => by
    injection h with h1 h2
    injection h1 with h1
    rw [h1, text_inj h2]
theorem rowK_inj {u w : List Str} (h : rowK u = rowK w) : u = w := by
  injection h with h
  exact text_inj h
theorem pairK_inj {u w : List Str} (h : pairK u = pairK w) : u = w := by
  injection h with h
  injection h with h1 h2
  injection h2 with h2 h3
  exact rowK_inj h2
/-! ### a comprehension that keeps what it finds -/
theorem paired_len {α β : Type} {F : α → β → Prop} {l : List α} {m : List β} (p : Paired F l m) : l.length = m.length := Paired.length p
theorem take_snoc {α : Type} {l : List α} {i : Nat} {z : α} (h : l[i]? = some z) : l.take (i + 1) = l.take i ++ [z] := by
  rw [List.take_succ, h]
  rfl
theorem fm_len {α β : Type} (f : α → Option β) (l : List α) : (l.filterMap f).length ≤ l.length := List.length_filterMap_le f l
theorem lc_mf {α β : Type} {K : PySem.W.Frag} {b : Bool} {a : Addr} {xs : List V} {g : TG} {tt : TT} {te : TE} {vs : List Nat} {σ : L2.St} {H1 : Hp} {D : Addr} {Qd : Hp → Prop} (as : List α) (out : α → Option β) (R : Hp → β → V → Prop)
    (nD : H1 D = none) (hx : Sq b H1 a xs) (hl : xs.length ≤ 1000000) (hlen : as.length = xs.length)
    (mono : ∀ H H' z v, Same H H' → R H z v → R H' z v) (put : ∀ H z v ys o, Same H1 H → H D = some (.lst ys) → R H z v → R (upd H D o) z v)
    (step : ∀ (i : Nat) z x H (C : V → Hp → Prop) (C0 : Hp → Prop), as[i]? = some z → xs[i]? = some x → Same H1 H → (∃ ys, H D = some (.lst ys)) → (∀ y H4 z', Same H H4 → out z = some z' → R H4 z' y → C y H4) → (∀ H3, Same H H3 → out z = none → C0 H3) →
      g x (wipe σ vs) H fun σ2 H2 => wipe σ2 vs = wipe σ vs ∧ tt σ2 H2 fun b H3 => if b = true then te σ2 H3 C else C0 H3)
    (hd : ∀ H ys, Same H1 H → H D = some (.lst ys) → Paired (R H) (as.filterMap out) ys → ys.length ≤ xs.length → Qd H) :
    ∃ W : Nat → Nat → Hp → Prop, (∃ m, W 0 m (upd H1 D (.lst []))) ∧ ∀ i m H, W i m H →
      ((if b = true then Itl K a else Itt K a).stop i H ∧ Qd H) ∨ ((if b = true then Itl K a else Itt K a).go i H ∧ ∃ Nx : Hp → Prop, (∀ H', Nx H' → ∃ m', m' < m ∧ W (i + 1) m' H') ∧ ∀ x H', (if b = true then Itl K a else Itt K a).yld i H x H' → g x (wipe σ vs) H' fun σ2 H2 => wipe σ2 vs = wipe σ vs ∧ tt σ2 H2 fun b H3 =>
        if b = true then te σ2 H3 fun y H4 => ∃ acc, H4 D = some (.lst acc) ∧ acc.length < sizeLine ∧ Nx (upd H4 D (.lst (acc ++ [y]))) else Nx H3) := by
  refine lc_seq (K := K) (b := b) (a := a) (xs := xs) (fun i H => Same H1 H ∧ ∃ ys, H D = some (.lst ys) ∧ Paired (R H) ((as.take i).filterMap out) ys) ⟨same_new nD, [], upd_same, .nil⟩ (fun i H _ hp => (hp.1.sq hx).B) ?_ ?_
  · rintro i x H hi ⟨sm, ys, eD, pr⟩
    have hix := (List.getElem?_eq_some_iff.mp hi).1
    obtain ⟨z, hz⟩ : ∃ z, as[i]? = some z := ⟨as[i]'(by omega), List.getElem?_eq_getElem (by omega)⟩
    refine step i z x H _ _ hz hi sm ⟨ys, eD⟩ (fun y H4 z' s4 ez r => ?_) (fun H3 s3 ez => ?_)
    · have e4 : H4 D = some (.lst ys) := s4 _ _ eD
      have sm4 := sm.trans s4
      have hyl : ys.length ≤ i := by
        have h1 := paired_len pr
        have h2 := fm_len out (as.take i)
        rw [List.length_take] at h2
        omega
      refine ⟨ys, e4, Nat.lt_of_le_of_lt hyl (Nat.lt_of_lt_of_le hix (Nat.le_trans hl (by decide))), Same.young sm4 nD, ys ++ [y], upd_same, ?_⟩
      rw [take_snoc hz, List.filterMap_append, List.filterMap_cons_some ez]
      exact paired_snoc (paired_imp pr fun b' v h => put H4 b' v ys _ sm4 e4 (mono H H4 b' v s4 h)) (put H4 z' y ys _ sm4 e4 r)
    · refine ⟨sm.trans s3, ys, s3 _ _ eD, ?_⟩
      rw [take_snoc hz, List.filterMap_append, List.filterMap_cons_none ez]
      show Paired (R H3) ((as.take i).filterMap out ++ []) ys
      rw [List.append_nil]
      exact paired_imp pr fun b' v h => mono H H3 b' v s3 h
  · rintro H ⟨sm, ys, eD, pr⟩
    rw [← hlen, List.take_length] at pr
    refine hd H ys sm eD pr ?_
    have h1 := paired_len pr
    have h2 := fm_len out as
    omega
end LwB
namespace LwB
open PySem PySem.Spec PyProof.Rows L2 IqX RvT EnS TL NsT
/-- a word, a tuple or a list of texts -/
def RowX (H : Hp) (w : List Str) (v : V) : Prop := ∃ t p, v = .ref p ∧ Sq t H p (w.map V.str) ∧ w.length ≤ 1000000
theorem RowAt.x {H : Hp} {w : List Str} {v : V} (h : RowAt H w v) : RowX H w v := by
  obtain ⟨p, e, hp, l⟩ := h
  exact ⟨false, p, e, hp, l⟩
theorem RowX.same {H H' : Hp} {w : List Str} {v : V} (s : Same H H') (h : RowX H w v) : RowX H' w v := by
  obtain ⟨t, p, e, hp, l⟩ := h
  exact ⟨t, p, e, s.sq hp, l⟩
/-- words in a tuple or a list -/
def BasX (t : Bool) (H : Hp) (a : Addr) (Ws : List (List Str)) : Prop := ∃ xs, Sq t H a xs ∧ xs.length ≤ 1000000 ∧ Paired (RowX H) Ws xs
def Bas (t : Bool) (H : Hp) (a : Addr) (Ws : List (List Str)) : Prop := ∃ xs, Sq t H a xs ∧ xs.length ≤ 1000000 ∧ Paired (RowAt H) Ws xs
theorem Bas.x {t : Bool} {H : Hp} {a : Addr} {Ws : List (List Str)} (h : Bas t H a Ws) : BasX t H a Ws := by
  obtain ⟨xs, hs, hl, p⟩ := h
  exact ⟨xs, hs, hl, paired_imp p fun _ _ z => z.x⟩
theorem BasX.same {t : Bool} {H H' : Hp} {a : Addr} {Ws : List (List Str)} (s : Same H H') (h : BasX t H a Ws) : BasX t H' a Ws := by
  obtain ⟨xs, hs, hl, p⟩ := h
  exact ⟨xs, s.sq hs, hl, paired_imp p fun _ _ z => z.same s⟩
theorem Bas.same {t : Bool} {H H' : Hp} {a : Addr} {Ws : List (List Str)} (s : Same H H') (h : Bas t H a Ws) : Bas t H' a Ws := by
  obtain ⟨xs, hs, hl, p⟩ := h
  exact ⟨xs, s.sq hs, hl, paired_imp p fun _ _ z => z.same s⟩
theorem Bas.len {t : Bool} {H : Hp} {a : Addr} {Ws : List (List Str)} (h : Bas t H a Ws) : Ws.length ≤ 1000000 := by
  obtain ⟨xs, hs, hl, p⟩ := h
  have := paired_len p
  omega
theorem paired_at {α β : Type} {F : α → β → Prop} : ∀ {l : List α} {m : List β} {i : Nat} {x : α}, Paired F l m → l[i]? = some x → ∃ y, m[i]? = some y ∧ F x y
  | _, _, _, _, .nil, h => by simp at h
  | _, _, 0, _, .cons r _, h => by
    simp at h
    subst h
    exact ⟨_, rfl, r⟩
  | _, _, i + 1, x, .cons _ t, h => by
    obtain ⟨y, e, r⟩ := paired_at (i := i) (x := x) t (by simpa using h)
    exact ⟨y, by simpa using e, r⟩
theorem paired_both {α β : Type} {F : α → β → Prop} {l : List α} {m : List β} {i : Nat} {x : α} {y : β} (p : Paired F l m) (h : l[i]? = some x) (h' : m[i]? = some y) : F x y := by
  obtain ⟨y', e, r⟩ := paired_at p h
  rw [h'] at e
  cases e
  exact r
/-! ### what the words' functions promise -/
/-- whether some word is a part of the log -/
def dn (Ws : List (List Str)) (es : List Str) : Bool := Ws.any fun w => isPart w es
theorem dn_nil (es : List Str) : dn [] es = false := rfl
theorem dn_cons (w : List Str) (Ws : List (List Str)) (es : List Str) : dn (w :: Ws) es = (isPart w es || dn Ws es) := rfl
def headT : List (List Str) → Tr
  | [] => .non
  | z :: _ => trs false z
theorem headT_none {p : List Str → Bool} {Ws : List (List Str)} (h : Ws.find? p = none) : headT (Ws.filter p) = .non := by
  rw [← List.head?_filter] at h
  cases e : Ws.filter p with
  | nil => rfl
  | cons z r =>
    rw [e] at h
    cases h
theorem headT_some {p : List Str → Bool} {Ws : List (List Str)} {z : List Str} (h : Ws.find? p = some z) : headT (Ws.filter p) = trs false z := by
  rw [← List.head?_filter] at h
  cases e : Ws.filter p with
  | nil =>
    rw [e] at h
    cases h
  | cons y r =>
    rw [e] at h
    cases h
    rfl
def spCopied : Sp := fun vs H Q _ => ∃ (t : Bool) (a : Addr) (Ws : List (List Str)), vs = [.ref a] ∧ BasX t H a Ws ∧ ∀ H' p, Same H H' → Bas false H' p Ws → Q (.ref p) H'
def spDoes : Sp := fun vs H Q _ => ∃ (t b : Bool) (a c : Addr) (Ws : List (List Str)) (es : List Str), vs = [.ref a, .ref c] ∧ BasX t H a Ws ∧ Sq b H c (es.map V.str) ∧ ∀ H', Same H H' → Q (.bl (dn Ws es)) H'
def spOutside : Sp := fun vs H Q _ => ∃ (t b : Bool) (a c : Addr) (Ws Us : List (List Str)), vs = [.ref a, .ref c] ∧ BasX t H a Ws ∧ BasX b H c Us ∧ ∀ H' v, Same H H' → Is H' 1 (headT (Ws.filter fun w => !dn Us w)) v → Q v H'
def spInside : Sp := fun vs H Q _ => ∃ (t b : Bool) (a c : Addr) (Ws Us : List (List Str)), vs = [.ref a, .ref c] ∧ BasX t H a Ws ∧ BasX b H c Us ∧ ∀ H', Same H H' → Q (.bl (Ws.filter fun w => !dn Us w).isEmpty) H'
def spMissing : Sp := fun vs H Q _ => ∃ (t b : Bool) (a c : Addr) (Ws Us : List (List Str)), vs = [.ref a, .ref c] ∧ BasX t H a Ws ∧ BasX b H c Us ∧ ∀ H' p, Same H H' → Bas false H' p (Us.filter fun w => !dn Ws w) → Q (.ref p) H'
/-! ### what the law's own promise -/
mutual
/-- a list for each tuple -/
def Tr.lists : Tr → Tr
  | .sq _ ts => .sq true (Tr.listsAll ts)
  | .non => .non
  | .bl b => .bl b
  | .int i => .int i
  | .str z => .str z
def Tr.listsAll : List Tr → List Tr
  | [] => []
  | t :: ts => t.lists :: Tr.listsAll ts
end
theorem Tr.listsAll_map : ∀ ts : List Tr, Tr.listsAll ts = ts.map Tr.lists
  | [] => rfl
  | t :: ts => by
    show t.lists :: Tr.listsAll ts = t.lists :: ts.map Tr.lists
    rw [Tr.listsAll_map ts]
/-- what is new in H' -/
def off (H H' : Hp) : Hp := fun a => if (H a).isSome = true then none else H' a
theorem off_le {H H' : Hp} {a : Addr} {o : HO} (h : off H H' a = some o) : H' a = some o := by
  unfold off at h
  split at h
  · cases h
  · exact h
theorem off_of {H H' : Hp} {a : Addr} {o : HO} (n : H a = none) (h : H' a = some o) : off H H' a = some o := by
  unfold off
  rw [n]
  exact h
theorem off_none {H H' : Hp} {a : Addr} {o : HO} (h : off H H' a = some o) : H a = none := by
  unfold off at h
  split at h
  · cases h
  · rename_i e
    cases q : H a with
    | none => rfl
    | some u =>
      rw [q] at e
      exact absurd rfl e
def spLists : Nat → Sp
  | 0 => fun _ _ _ _ => False
  | n + 1 => fun vs H Q _ => ∃ (v : V) (t : Tr), vs = [v] ∧ Is H n t v ∧ ∀ H' v', Same H H' → Is (off H H') n t.lists v' → Q v' H'
theorem spLists_len : ∀ {n : Nat} {vs : List V} {H : Hp} {Q : VK} {E : XK}, spLists n vs H Q E → vs.length = 1
  | 0, _, _, _, _, h => h.elim
  | n + 1, _, _, _, _, ⟨_, _, e, _⟩ => by rw [e]; rfl
/-- the order of words: by length, then as they stand -/
def wLe (u w : List Str) : Bool := PySem.W.dataLe false (fun w : List Str => (pairK w).data) u w
def SortedOf (Ws Us : List (List Str)) : Prop := (∀ w, w ∈ Us ↔ w ∈ Ws) ∧ Us.Nodup ∧ Us.Pairwise fun u w => wLe u w = true
def spSorted : Sp := fun vs H Q _ => ∃ (t : Bool) (a : Addr) (Ws : List (List Str)), vs = [.ref a] ∧ Bas t H a Ws ∧ Ws.length < 77 ∧ ∀ H' p Us, Same H H' → Bas false H' p Us → SortedOf Ws Us → Q (.ref p) H'
/-- those that have no other one as a part -/
def lst (Us : List (List Str)) : List (List Str) := Us.filter fun w => (Us.filter fun u => decide (u ≠ w) && isPart u w).isEmpty
def spLeast : Sp := fun vs H Q _ => ∃ (t : Bool) (a : Addr) (Ws : List (List Str)), vs = [.ref a] ∧ Bas t H a Ws ∧ Ws.length < 77 ∧ (∀ w ∈ Ws, w.length ≤ 1000) ∧ ∀ H' p Us, Same H H' → Bas false H' p (lst Us) → SortedOf Ws Us → Q (.ref p) H'
def spDone : Sp := fun vs H Q _ => ∃ (t b : Bool) (a c : Addr) (Ws : List (List Str)) (es : List Str), vs = [.ref a, .ref c] ∧ Bas t H a Ws ∧ Sq b H c (es.map V.str) ∧ (∀ w ∈ Ws, w.length ≤ 1000) ∧ ∀ H', Same H H' → Q (.bl (dn Ws es)) H'
structure Bs (mg : Str → Option Value) : Prop where
  set : mg "set" = none
  any : mg "any" = none
def PairAt (H : Hp) (w : List Str) (v : V) : Prop := ∃ p r, v = .ref p ∧ Sq false H p [.int (w.length : Nat), r] ∧ RowAt H w r
theorem PairAt.same {H H' : Hp} {w : List Str} {v : V} (s : Same H H') (h : PairAt H w v) : PairAt H' w v := by
  obtain ⟨p, r, e, hp, hr⟩ := h
  exact ⟨p, r, e, s.sq hp, hr.same s⟩
theorem PairAt.put {H : Hp} {D : Addr} {w : List Str} {v : V} {ys : List V} {o : HO} (h : PairAt H w v) (e : H D = some (.lst ys)) : PairAt (L2.upd H D o) w v := by
  obtain ⟨p, r, e', hp, hr⟩ := h
  exact ⟨p, r, e', Sq.put_list hp e, hr.put e⟩
theorem PairAt.key {H : Hp} {w : List Str} {v : V} (h : PairAt H w v) : KIs H (pairK w) v := by
  obtain ⟨p, r, rfl, hp, hr⟩ := h
  exact .tup hp (.cons (.num _) (.cons hr.key .nil))
theorem PairAt.ref {H : Hp} {w : List Str} {v : V} (h : PairAt H w v) : ∃ p, v = .ref p := by
  obtain ⟨p, r, e, _⟩ := h
  exact ⟨p, e⟩
theorem RowAt.ref {H : Hp} {w : List Str} {v : V} (h : RowAt H w v) : ∃ p, v = .ref p := by
  obtain ⟨p, e, _⟩ := h
  exact ⟨p, e⟩
/-- the addresses with their keys -/
theorem keyed {R : List Str → V → Prop} {key : List Str → NestedKey} (hr : ∀ w v, R w v → ∃ p, v = .ref p) : ∀ {Ws : List (List Str)} {ys : List V}, Paired R Ws ys →
    ∃ ks : List (Addr × NestedKey), ys = ks.map (fun p => V.ref p.1) ∧ ks.map (·.2) = Ws.map key ∧ ∀ q ∈ ks, ∃ w ∈ Ws, q.2 = key w ∧ R w (.ref q.1)
  | _, _, .nil => ⟨[], rfl, rfl, fun _ h => nomatch h⟩
  | w :: Ws, y :: ys, .cons r t => by
    obtain ⟨p, rfl⟩ := hr _ _ r
    obtain ⟨ks, e1, e2, e3⟩ := keyed hr t
    refine ⟨(p, key w) :: ks, by rw [e1]; rfl, by rw [List.map_cons, e2]; rfl, fun q hq => ?_⟩
    rcases List.mem_cons.mp hq with rfl | hq
    · exact ⟨w, List.mem_cons_self, rfl, r⟩
    · obtain ⟨u, hu, e⟩ := e3 q hq
      exact ⟨u, List.mem_cons_of_mem _ hu, e⟩
theorem unkeyed {R : List Str → V → Prop} {key : List Str → NestedKey} : ∀ {ks : List (Addr × NestedKey)}, (∀ q ∈ ks, ∃ w, q.2 = key w ∧ R w (.ref q.1)) →
    ∃ Us : List (List Str), ks.map (·.2) = Us.map key ∧ Paired R Us (ks.map fun p => V.ref p.1)
  | [], _ => ⟨[], rfl, .nil⟩
  | q :: ks, h => by
    obtain ⟨w, e, r⟩ := h q List.mem_cons_self
    obtain ⟨Us, e1, e2⟩ := unkeyed (ks := ks) fun x hx => h x (List.mem_cons_of_mem _ hx)
    exact ⟨w :: Us, by rw [List.map_cons, List.map_cons, e, e1], .cons r e2⟩
theorem alike_texts : ∀ u w : List Str, PySem.W.alikeAll (NestedKey.datas (u.map NestedKey.text)) (NestedKey.datas (w.map NestedKey.text)) = true
  | [], w => by cases w <;> simp [NestedKey.datas, PySem.W.alikeAll]
  | _ :: _, [] => by simp [NestedKey.datas, PySem.W.alikeAll]
  | a :: u, b :: w => by simp [NestedKey.datas, NestedKey.data, PySem.W.alikeAll, PySem.W.alike, alike_texts u w]
theorem alike_row (u w : List Str) : PySem.W.alike (rowK u).data (rowK w).data = true := by
  simp [rowK, NestedKey.data, PySem.W.alike, alike_texts u w]
theorem alike_pair (u w : List Str) : PySem.W.alike (pairK u).data (pairK w).data = true := by
  simp [pairK, NestedKey.data, NestedKey.datas, PySem.W.alike, PySem.W.alikeAll, alike_row u w]
theorem pair_data (w : List Str) : ∃ x r, (pairK w).data = .tuple (x :: r) := ⟨_, _, by simp [pairK, NestedKey.data, NestedKey.datas]; exact ⟨rfl, rfl⟩⟩
/-! ### the same where the walk is inside a comprehension: K by its name -/
theorem pi_seqK {X : Cx} (K : PySem.W.Frag) {tg l : Expr} {tl : TE} (hl : PE X l tl) (hK : X.K = K := by rfl) : PI X tg l (iSeq K tl) := hK ▸ pi_seq hl
theorem op_eqEK {X : Cx} (K : PySem.W.Frag) (hu : X.A.units + 64 < cLine) (hK : X.K = K := by rfl) : OpR X (compareOp .Eq) (rEqE K) := hK ▸ op_eqE hu
theorem op_neEK {X : Cx} (K : PySem.W.Frag) (hu : X.A.units + 64 < cLine) (hK : X.K = K := by rfl) : OpR X (compareOp .NotEq) (rNeE K) := hK ▸ op_neE hu
theorem fm_if {α : Type} (p : α → Bool) : ∀ l : List α, l.filterMap (fun x => if p x = true then some x else none) = l.filter p
  | [] => rfl
  | x :: l => by
    have ih := fm_if p l
    simp only [List.filterMap_cons, List.filter_cons]
    cases h : p x <;> simp [ih]
theorem paired_empty {α β : Type} {F : α → β → Prop} {l : List α} {m : List β} (p : Paired F l m) : m.isEmpty = l.isEmpty := by cases p <;> rfl
theorem RowAt.fr {b : Addr} {n : Nat} {H H' : Hp} {w : List Str} {v : V} (f : Fr b H H') (x : Bx n H b) (h : RowAt H w v) : RowAt H' w v := by
  obtain ⟨p, e, hp, l⟩ := h
  exact ⟨p, e, f.sq (hp.ne_box x) hp, l⟩
/-- words of up to so many of these names -/
def Gd (ss : List Str) (m : Nat) (w : List Str) : Prop := w.length ≤ m ∧ ∀ e ∈ w, e ∈ ss
def spSomeRows : Sp := fun vs H Q _ => ∃ (b l : Addr) (n k m : Nat) (ss : List Str), vs = [.ref b, .ref l, .int k, .int m] ∧ Bx n H b ∧ n < 700000000 ∧ l ≠ b ∧ Sq true H l (ss.map V.str) ∧ ss.length ≤ 1000000 ∧ 0 < ss.length ∧ m ≤ 1000 ∧ k ≤ 1000 ∧
  ∀ H' p ys Ws, Fr b H H' → Bx (n + 1 + k * (1 + m)) H' b → H p = none → H' p = some (.lst ys) → Paired (RowAt H') Ws ys → Ws.length ≤ k → (∀ w ∈ Ws, Gd ss m w) → Q (.ref p) H'
def spDrawn : Sp := fun vs H Q _ => ∃ (b l : Addr) (n k m : Nat) (ss : List Str), vs = [.ref b, .ref l, .int k, .int m] ∧ Bx n H b ∧ n < 600000000 ∧ l ≠ b ∧ Sq true H l (ss.map V.str) ∧ ss.length ≤ 1000000 ∧ 0 < ss.length ∧ m ≤ 1000 ∧ k ≤ 60 ∧
  ∀ H' p Ws Us, Fr b H H' → Bx (n + 1 + k * (1 + m) + k) H' b → Bas false H' p (lst Us) → p ≠ b → SortedOf Ws Us → Ws.length ≤ k → (∀ w ∈ Ws, Gd ss m w) → Q (.ref p) H'
theorem lst_sub {Ws Us : List (List Str)} (so : SortedOf Ws Us) {w : List Str} (h : w ∈ lst Us) : w ∈ Ws := (so.1 w).mp (List.mem_filter.mp h).1
theorem Bas.ne_box {n : Nat} {H : Hp} {p b : Addr} {Ws : List (List Str)} (h : Bas false H p Ws) (x : Bx n H b) : p ≠ b := by
  obtain ⟨xs, hs, _⟩ := h
  exact hs.ne_box x
theorem Bas.fr {b : Addr} {n : Nat} {t : Bool} {H H' : Hp} {a : Addr} {Ws : List (List Str)} (f : Fr b H H') (x : Bx n H b) (ne : a ≠ b) (h : Bas t H a Ws) : Bas t H' a Ws := by
  obtain ⟨xs, hs, hl, p⟩ := h
  exact ⟨xs, f.sq ne hs, hl, paired_imp p fun _ _ r => r.fr f x⟩
theorem nodup_sub_len {α : Type} [DecidableEq α] : ∀ {l m : List α}, l.Nodup → (∀ x ∈ l, x ∈ m) → l.length ≤ m.length
  | [], _, _, _ => Nat.zero_le _
  | x :: l, m, h, hs => by
    obtain ⟨h1, h2⟩ := List.nodup_cons.mp h
    have hx := hs x List.mem_cons_self
    have ih := nodup_sub_len (l := l) (m := m.erase x) h2 fun y hy => (List.mem_erase_of_ne (fun e : y = x => by rw [e] at hy; exact h1 hy)).mpr (hs y (List.mem_cons_of_mem _ hy))
    rw [List.length_erase_of_mem hx] at ih
    have : 0 < m.length := List.length_pos_of_mem hx
    rw [List.length_cons]
    omega
theorem sorted_len {Ws Us : List (List Str)} (so : SortedOf Ws Us) : Us.length ≤ Ws.length := nodup_sub_len so.2.1 fun w h => (so.1 w).mp h
theorem lst_len (Us : List (List Str)) : (lst Us).length ≤ Us.length := List.length_filter_le _ _
/-- words as lists of lists -/
def ltrows (Ws : List (List Str)) : Tr := .sq true (Ws.map (trs true))
theorem listsAll_strs : ∀ w : List Str, Tr.listsAll (w.map Tr.str) = w.map Tr.str
  | [] => rfl
  | z :: w => by
    show Tr.str z :: Tr.listsAll (w.map Tr.str) = _
    rw [listsAll_strs w]
    rfl
theorem trs_lists (t : Bool) (w : List Str) : (trs t w).lists = trs true w := by
  show Tr.sq true (Tr.listsAll (w.map Tr.str)) = _
  rw [listsAll_strs]
  rfl
theorem trows_lists (t : Bool) (Ws : List (List Str)) : (trows t Ws).lists = ltrows Ws := by
  show Tr.sq true (Tr.listsAll (Ws.map (trs false))) = _
  rw [Tr.listsAll_map, List.map_map]
  unfold ltrows
  congr 1
  refine List.map_congr_left fun w _ => ?_
  exact trs_lists false w
theorem Bas.is {H : Hp} {n : Nat} {a : Addr} {Ws : List (List Str)} (h : Bas false H a Ws) : Is H (n + 2) (trows false Ws) (.ref a) := by
  obtain ⟨xs, hs, hl, p⟩ := h
  exact Is.sq (.tup hs) hl (paired_map (paired_imp p fun _ _ z => z.is))
theorem rowx_of {H : Hp} {n : Nat} {w : List Str} {v : V} (h : Is H (n + 1) (trs true w) v) : RowX H w v := by
  obtain ⟨a, xs, e, hs, hl, p⟩ := Is.list (show Is H (n + 1) (.sq true (w.map Tr.str)) v from h)
  have q := paired_str p
  subst q
  rw [List.length_map] at hl
  exact ⟨true, a, e, .lst hs, hl⟩
theorem basx_of {H : Hp} {n : Nat} {Ws : List (List Str)} {v : V} (h : Is H (n + 2) (ltrows Ws) v) : ∃ a, v = .ref a ∧ BasX true H a Ws := by
  obtain ⟨a, xs, e, hs, hl, p⟩ := Is.list (show Is H (n + 2) (.sq true (Ws.map (trs true))) v from h)
  exact ⟨a, e, xs, .lst hs, hl, paired_imp (paired_unmap p) fun _ _ r => rowx_of r⟩
theorem paired_two {α β γ : Type} {F : α → β → Prop} {G : α → γ → Prop} {E : β → γ → Prop} : ∀ {l : List α} {m : List β} {n : List γ}, Paired F l m → Paired G l n → (∀ a b c, a ∈ l → F a b → G a c → E b c) → Paired E m n
  | _, _, _, .nil, .nil, _ => .nil
  | _, _, _, .cons r t, .cons r' t', h => .cons (h _ _ _ List.mem_cons_self r r') (paired_two t t' fun a b c m x y => h a b c (List.mem_cons_of_mem _ m) x y)
/-- two fresh lists of the same are equal -/
theorem eqV_lists {K : PySem.W.Frag} {H : Hp} : ∀ {n : Nat} {t : Tr} {v1 v2 : V}, Is H n t.lists v1 → Is H n t.lists v2 → EqV K H (n + 1) v1 v2 := by
  intro n
  induction n with
  | zero =>
    intro t v1 v2 h1 h2
    cases t with
    | non => exact .inl ⟨by rw [h1.non_eq, h2.non_eq], by rw [h1.non_eq]; rfl⟩
    | bl b => exact .inl ⟨by rw [h1.bl_eq, h2.bl_eq], by rw [h1.bl_eq]; rfl⟩
    | int i => exact .inl ⟨by rw [h1.int_eq, h2.int_eq], by rw [h1.int_eq]; rfl⟩
    | str z => exact .inl ⟨by rw [h1.str_eq, h2.str_eq], by rw [h1.str_eq]; rfl⟩
    | sq t ts => exact absurd h1 id
  | succ n ih =>
    intro t v1 v2 h1 h2
    cases t with
    | non => exact .inl ⟨by rw [h1.non_eq, h2.non_eq], by rw [h1.non_eq]; rfl⟩
    | bl b => exact .inl ⟨by rw [h1.bl_eq, h2.bl_eq], by rw [h1.bl_eq]; rfl⟩
    | int i => exact .inl ⟨by rw [h1.int_eq, h2.int_eq], by rw [h1.int_eq]; rfl⟩
    | str z => exact .inl ⟨by rw [h1.str_eq, h2.str_eq], by rw [h1.str_eq]; rfl⟩
    | sq t ts =>
      obtain ⟨a, xs, rfl, hs, hl, p⟩ := Is.list (show Is H (n + 1) (.sq true (Tr.listsAll ts)) v1 from h1)
      obtain ⟨b, ys, rfl, hs', hl', p'⟩ := Is.list (show Is H (n + 1) (.sq true (Tr.listsAll ts)) v2 from h2)
      rw [Tr.listsAll_map] at p p'
      exact .inr (.inr (.inl ⟨a, b, xs, ys, rfl, rfl, SqL.of hs, SqL.of hs', paired_two (paired_unmap p) (paired_unmap p') fun z x y _ hx hy => ih hx hy⟩))
theorem find_head {α : Type} (p : α → Bool) (l : List α) : l.find? p = (l.filter p).head? := (List.head?_filter (p := p) (l := l)).symm
theorem isNone_empty {α : Type} (l : List α) : l.head?.isNone = l.isEmpty := by cases l <;> rfl
def spPairR : Sp := fun vs H Q _ => ∃ (a c : Addr) (Ws Us : List (List Str)), vs = [.ref a, .ref c] ∧ Bas false H a Ws ∧ Bas false H c Us ∧ (∀ w ∈ Ws, w.length ≤ 1000) ∧ (∀ w ∈ Us, w.length ≤ 1000) ∧ ∀ H', Same H H' → Q (.bl true) H'
/-- G[0] if G != () else None -/
def tHead (k : Nat) : TE := fun σ H Q => ∃ (p : Addr) (G : List (List Str)), σ[k]? = some (some (.ref p)) ∧ Bas false H p G ∧ ∀ H' v, Same H H' → Is H' 1 (headT G) v → Q v H'
theorem isnil_empty (G : List (List Str)) : (decide (G = [])) = G.isEmpty := by cases G <;> simp
end LwB
namespace LwB
open PySem PySem.Spec PyProof.Rows L2 IqX RvT EnS TL NsT
/-! ### trees of any depth -/
mutual
def Tr.dep : Tr → Nat
  | .sq _ ts => Tr.depAll ts + 1
  | .non => 0
  | .bl _ => 0
  | .int _ => 0
  | .str _ => 0
def Tr.depAll : List Tr → Nat
  | [] => 0
  | t :: ts => max t.dep (Tr.depAll ts)
end
mutual
/-- no list in it -/
def Tr.nol : Tr → Bool
  | .sq t ts => !t && Tr.nolAll ts
  | .non => true
  | .bl _ => true
  | .int _ => true
  | .str _ => true
def Tr.nolAll : List Tr → Bool
  | [] => true
  | t :: ts => t.nol && Tr.nolAll ts
end
mutual
def Tr.beq : Tr → Tr → Bool
  | .non, .non => true
  | .bl a, .bl b => a == b
  | .int a, .int b => decide (a = b)
  | .str a, .str b => decide (a = b)
  | .sq a xs, .sq b ys => a == b && Tr.beqAll xs ys
  | _, _ => false
def Tr.beqAll : List Tr → List Tr → Bool
  | [], [] => true
  | x :: xs, y :: ys => Tr.beq x y && Tr.beqAll xs ys
  | _, _ => false
end
mutual
theorem Tr.eq_of : ∀ a b : Tr, Tr.beq a b = true → a = b
  | .non, b, h => by cases b <;> simp [Tr.beq] at h ⊢
  | .bl a, b, h => by cases b <;> simp [Tr.beq] at h ⊢; exact h
  | .int a, b, h => by cases b <;> simp [Tr.beq] at h ⊢; exact h
  | .str a, b, h => by cases b <;> simp [Tr.beq] at h ⊢; exact h
  | .sq a xs, b, h => by
    cases b with
    | sq b ys =>
      simp [Tr.beq] at h
      rw [h.1, Tr.eq_ofAll xs ys h.2]
    | _ => simp [Tr.beq] at h
theorem Tr.eq_ofAll : ∀ a b : List Tr, Tr.beqAll a b = true → a = b
  | [], b, h => by cases b <;> simp [Tr.beqAll] at h ⊢
  | x :: xs, b, h => by
    cases b with
    | nil => simp [Tr.beqAll] at h
    | cons y ys =>
      simp [Tr.beqAll] at h
      rw [Tr.eq_of x y h.1, Tr.eq_ofAll xs ys h.2]
end
def It (H : Hp) (t : Tr) (v : V) : Prop := ∃ n, Is H n t v
theorem paired_mem {α β : Type} {F G : α → β → Prop} : ∀ {l : List α} {m : List β}, Paired F l m → (∀ a b, a ∈ l → F a b → G a b) → Paired G l m
  | _, _, .nil, _ => .nil
  | _, _, .cons r t, f => .cons (f _ _ List.mem_cons_self r) (paired_mem t fun a b h => f a b (List.mem_cons_of_mem _ h))
theorem dep_mem : ∀ {ts : List Tr} {t : Tr}, t ∈ ts → t.dep ≤ Tr.depAll ts
  | x :: ts, t, h => by
    show t.dep ≤ max x.dep (Tr.depAll ts)
    rcases List.mem_cons.mp h with rfl | h
    · omega
    · have := dep_mem h
      omega
theorem nol_mem : ∀ {ts : List Tr} {t : Tr}, Tr.nolAll ts = true → t ∈ ts → t.nol = true
  | x :: ts, t, hn, h => by
    have hn' : (x.nol && Tr.nolAll ts) = true := hn
    rw [Bool.and_eq_true] at hn'
    rcases List.mem_cons.mp h with rfl | h
    · exact hn'.1
    · exact nol_mem hn'.2 h
theorem is_least {H : Hp} : ∀ {m : Nat} {t : Tr} {v : V} {n : Nat}, Is H m t v → t.dep ≤ n → Is H n t v := by
  intro m
  induction m with
  | zero =>
    intro t v n h hn
    cases t with
    | sq t ts => exact absurd h id
    | _ => exact h.mono (Nat.zero_le n)
  | succ m ih =>
    intro t v n h hn
    cases t with
    | sq t ts =>
      obtain ⟨a, xs, e, hs, hl, p⟩ := h
      have hd : Tr.depAll ts + 1 ≤ n := hn
      obtain ⟨k, rfl⟩ : ∃ k, n = k + 1 := ⟨n - 1, by omega⟩
      exact ⟨a, xs, e, hs, hl, paired_mem p fun x y hx r => ih r (Nat.le_trans (dep_mem hx) (by omega))⟩
    | non => rw [h.non_eq]; exact .non
    | bl b => rw [h.bl_eq]; exact .bl
    | int i => rw [h.int_eq]; exact .int
    | str z => rw [h.str_eq]; exact .str
theorem It.to {H : Hp} {t : Tr} {v : V} {n : Nat} (h : It H t v) (hn : t.dep ≤ n) : Is H n t v := by
  obtain ⟨m, h⟩ := h
  exact is_least h hn
theorem It.mv {H H' : Hp} {t : Tr} {v : V} (e : ∀ a o, H a = some o → H' a = some o) (h : It H t v) : It H' t v := by
  obtain ⟨n, h⟩ := h
  exact ⟨n, h.mv e⟩
theorem It.same {H H' : Hp} {t : Tr} {v : V} (s : Same H H') (h : It H t v) : It H' t v := h.mv s
theorem It.of {H : Hp} {n : Nat} {t : Tr} {v : V} (h : Is H n t v) : It H t v := ⟨n, h⟩
theorem It.sq {H : Hp} {t : Bool} {a : Addr} {ts : List Tr} {xs : List V} (h : Sx t H a xs) (hl : xs.length ≤ 1000000) (p : Paired (It H) ts xs) : It H (.sq t ts) (.ref a) :=
  ⟨Tr.depAll ts + 1, Is.sq h hl (paired_mem p fun x y hx r => r.to (dep_mem hx))⟩
theorem It.sq_inv {H : Hp} {t : Bool} {ts : List Tr} {v : V} (h : It H (.sq t ts) v) : ∃ a xs, v = .ref a ∧ Sx t H a xs ∧ xs.length ≤ 1000000 ∧ Paired (It H) ts xs := by
  obtain ⟨n, h⟩ := h
  obtain ⟨m, a, xs, _, e, hs, hl, p⟩ := h.sq_eq
  exact ⟨a, xs, e, hs, hl, paired_imp p fun _ _ r => ⟨m, r⟩⟩
/-! ### tuples that the module's own names hold: every heap knows them -/
class KC where
  cs : List (Addr × Obj × List V)
variable [KC]
def Good (H : Hp) : Prop := ∀ c ∈ KC.cs, H c.1 = some (.frz c.2.1 (.tup c.2.2))
theorem Good.mv {H H' : Hp} (g : Good H) (s : Same H H') : Good H' := fun c hc => s _ _ (g c hc)
theorem Good.put {H : Hp} {p : Addr} {xs : List V} {o : HO} (g : Good H) (e : H p = some (.lst xs)) : Good (upd H p o) := fun c hc => by
  have h := g c hc
  rw [upd_ne]
  · exact h
  · intro q
    rw [q, e] at h
    cases h
theorem Good.new {H : Hp} {p : Addr} {o : HO} (g : Good H) (e : H p = none) : Good (upd H p o) := g.mv (same_new e)
/-! ### a view: the heap without some of its lists -/
structure Vw (W H : Hp) : Prop where
  sub : ∀ a o, W a = some o → H a = some o
  all : ∀ a o, H a = some o → W a = some o ∨ ∃ xs, o = .lst xs
  good : Good H
theorem Vw.refl (H : Hp) (g : Good H) : Vw H H := ⟨fun _ _ h => h, fun _ _ h => .inl h, g⟩
theorem Vw.self {W H : Hp} (x : Vw W H) : Vw H H := Vw.refl H x.good
theorem Vw.off {W H : Hp} (x : Vw W H) {a : Addr} (h : H a = none) : W a = none := by
  cases e : W a with
  | none => rfl
  | some o =>
    rw [x.sub a o e] at h
    cases h
/-- what the view is where H has grown to H' -/
def vw (W H H' : Hp) : Hp := fun a => if (H a).isSome = true then W a else H' a
theorem vw_old {W H H' : Hp} {a : Addr} {o : HO} (h : H a = some o) : vw W H H' a = W a := by
  unfold vw
  rw [h]
  rfl
theorem vw_new {W H H' : Hp} {a : Addr} (h : H a = none) : vw W H H' a = H' a := by
  unfold vw
  rw [h]
  rfl
theorem dom_cases (H : Hp) (a : Addr) : H a = none ∨ ∃ o, H a = some o := by
  cases H a with
  | none => exact .inl rfl
  | some o => exact .inr ⟨o, rfl⟩
theorem vw_self {W H : Hp} (x : Vw W H) : vw W H H = W := funext fun a => by
  rcases dom_cases H a with h | ⟨o, h⟩
  · rw [vw_new h, h, x.off h]
  · rw [vw_old h]
theorem vw_two {W B H H' : Hp} (hd : ∀ a, H a = none → B a = none) (s : Same H H') : vw (vw W B H) H H' = vw W B H' := funext fun a => by
  rcases dom_cases H a with h | ⟨o, h⟩
  · rw [vw_new h, vw_new (hd a h)]
  · rw [vw_old h]
    rcases dom_cases B a with b | ⟨o', b⟩
    · rw [vw_new b, vw_new b, h, s a o h]
    · rw [vw_old b, vw_old b]
theorem vw_trans {W H H1 H2 : Hp} (s1 : Same H H1) (s2 : Same H1 H2) : vw (vw W H H1) H1 H2 = vw W H H2 := vw_two (fun a h => by
  rcases dom_cases H a with b | ⟨o, b⟩
  · exact b
  · rw [s1 a o b] at h
    cases h) s2
theorem vw_mono {W B H H' : Hp} (s : Same H H') : ∀ a o, vw W B H a = some o → vw W B H' a = some o := fun a o h => by
  rcases dom_cases B a with b | ⟨u, b⟩
  · rw [vw_new b] at h ⊢
    exact s a o h
  · rw [vw_old b] at h ⊢
    exact h
theorem vw_keep {W H H' : Hp} (x : Vw W H) : ∀ a o, W a = some o → vw W H H' a = some o := fun a o h => by
  rw [vw_old (x.sub a o h)]
  exact h
theorem Vw.next {W H H' : Hp} (x : Vw W H) (s : Same H H') : Vw (vw W H H') H' := by
  refine ⟨fun a o h => ?_, fun a o h => ?_, x.good.mv s⟩
  · rcases dom_cases H a with b | ⟨u, b⟩
    · rw [vw_new b] at h
      exact h
    · rw [vw_old b] at h
      exact s a o (x.sub a o h)
  · rcases dom_cases H a with b | ⟨u, b⟩
    · rw [vw_new b]
      exact .inl h
    · rw [vw_old b]
      have e := s a u b
      rw [h] at e
      cases e
      exact x.all a o b
/-- without one list more -/
def rm (W : Hp) (g : Addr) : Hp := fun a => if a = g then none else W a
theorem rm_sub {W : Hp} {g a : Addr} {o : HO} (h : rm W g a = some o) : W a = some o := by
  unfold rm at h
  split at h
  · cases h
  · exact h
theorem rm_ne {W : Hp} {g a : Addr} (h : a ≠ g) : rm W g a = W a := by
  unfold rm
  rw [if_neg h]
theorem Vw.rm {W H : Hp} (x : Vw W H) {g : Addr} {xs : List V} (h : H g = some (.lst xs)) : Vw (rm W g) H := by
  refine ⟨fun a o e => x.sub a o (rm_sub e), fun a o e => ?_, x.good⟩
  by_cases hg : a = g
  · subst hg
    rw [h] at e
    cases e
    exact .inr ⟨xs, rfl⟩
  · rw [rm_ne hg]
    exact x.all a o e
theorem is_nolA {W H : Hp} (all : ∀ a o, H a = some o → W a = some o ∨ ∃ xs, o = .lst xs) : ∀ {n : Nat} {t : Tr} {v : V}, t.nol = true → Is H n t v → Is W n t v := by
  intro n
  induction n with
  | zero =>
    intro t v ht h
    cases t <;> exact h
  | succ n ih =>
    intro t v ht h
    cases t with
    | sq t ts =>
      obtain ⟨a, xs, e, hs, hl, p⟩ := h
      have ht' : (!t && Tr.nolAll ts) = true := ht
      rw [Bool.and_eq_true] at ht'
      cases t with
      | true => exact absurd ht'.1 (by decide)
      | false =>
        refine ⟨a, xs, e, ⟨?_, fun e => nomatch e⟩, hl, paired_mem p fun y z hy r => ih (nol_mem ht'.2 hy) r⟩
        rcases hs.1 with h1 | ⟨o, h1⟩
        · rcases all a _ h1 with h2 | ⟨ys, h2⟩
          · exact .inl h2
          · cases h2
        · rcases all a _ h1 with h2 | ⟨ys, h2⟩
          · exact .inr ⟨o, h2⟩
          · cases h2
    | _ => exact h
theorem It.nolA {W H : Hp} (all : ∀ a o, H a = some o → W a = some o ∨ ∃ xs, o = .lst xs) {t : Tr} {v : V} (ht : t.nol = true) (h : It H t v) : It W t v := by
  obtain ⟨n, h⟩ := h
  exact ⟨n, is_nolA all ht h⟩
theorem It.nol {W H : Hp} (x : Vw W H) {t : Tr} {v : V} (ht : t.nol = true) (h : It H t v) : It W t v := h.nolA x.all ht
/-! ### what the names stand for -/
def Ev (N : Nat) (env : List (Nat × Tr)) (σ : L2.St) (W : Hp) : Prop := σ.length = N ∧ ∀ p ∈ env, ∃ v, σ[p.1]? = some (some v) ∧ It W p.2 v
theorem Ev.mv {N : Nat} {env : List (Nat × Tr)} {σ : L2.St} {W W' : Hp} (e : ∀ a o, W a = some o → W' a = some o) (h : Ev N env σ W) : Ev N env σ W' :=
  ⟨h.1, fun p hp => by
    obtain ⟨v, e1, i⟩ := h.2 p hp
    exact ⟨v, e1, i.mv e⟩⟩
theorem Ev.sub {N : Nat} {env env' : List (Nat × Tr)} {σ : L2.St} {W : Hp} (h : Ev N env σ W) (hs : ∀ p ∈ env', p ∈ env) : Ev N env' σ W := ⟨h.1, fun p hp => h.2 p (hs p hp)⟩
theorem Ev.set {N : Nat} {env : List (Nat × Tr)} {σ : L2.St} {W : Hp} {i : Nat} {T : Tr} {v : V} (h : Ev N env σ W) (hi : i < N) (hne : ∀ p ∈ env, p.1 ≠ i) (x : It W T v) : Ev N ((i, T) :: env) (σ.set i (some v)) W := by
  refine ⟨by rw [List.length_set]; exact h.1, fun p hp => ?_⟩
  rcases List.mem_cons.mp hp with rfl | hp
  · exact ⟨v, by rw [List.getElem?_set_self (by rw [h.1]; exact hi)], x⟩
  · obtain ⟨u, e1, iu⟩ := h.2 p hp
    exact ⟨u, by rw [List.getElem?_set_ne fun e => hne p hp e.symm]; exact e1, iu⟩
/-- a name is set to what is not looked at as a tree -/
theorem Ev.put {N : Nat} {env : List (Nat × Tr)} {σ : L2.St} {W : Hp} {i : Nat} {v : Option V} (h : Ev N env σ W) (hne : ∀ p ∈ env, p.1 ≠ i) : Ev N env (σ.set i v) W := by
  refine ⟨by rw [List.length_set]; exact h.1, fun p hp => ?_⟩
  obtain ⟨u, e1, iu⟩ := h.2 p hp
  exact ⟨u, by rw [List.getElem?_set_ne fun e => hne p hp e.symm]; exact e1, iu⟩
/-! ### expressions that are trees -/
def tLe (N : Nat) (env : List (Nat × Tr)) (T : Tr) : TE := fun σ H Q => ∃ W, Vw W H ∧ Ev N env σ W ∧ ∀ H' v, Same H H' → It (vw W H H') T v → Q v H'
def tLes (N : Nat) (env : List (Nat × Tr)) (Ts : List Tr) : TA := fun σ H Q => ∃ W, Vw W H ∧ Ev N env σ W ∧ ∀ H' vs, Same H H' → Paired (It (vw W H H')) Ts vs → Q vs H'
/-- a new list -/
def tLf (N : Nat) (env : List (Nat × Tr)) (ts : List Tr) : TE := fun σ H Q => ∃ W, Vw W H ∧ Ev N env σ W ∧ ∀ H' g vs, Same H H' → H g = none → H' g = some (.lst vs) → vs.length ≤ 1000000 → Paired (It (rm (vw W H H') g)) ts vs → Q (.ref g) H'
/-- over one of many trees -/
def tFam (N : Nat) (k : Nat) (env : List (Nat × Tr)) (Pr : Tr → Prop) (F : Tr → Tr) : TE := fun σ H Q => ∃ W T, Pr T ∧ Vw W H ∧ Ev N ((k, T) :: env) σ W ∧ ∀ H' v, Same H H' → It (vw W H H') (F T) v → Q v H'
section
variable {X : Cx} {N : Nat} {env : List (Nat × Tr)}
theorem le_lit {e : Expr} {v : V} {T : Tr} (h : PE X e (tC v)) (i : ∀ H, It H T v) : PE X e (tLe N env T) := PE.imp h fun σ H Q ⟨W, x, ev, q⟩ => q H v (Same.refl H) (i _)
theorem le_str {x : Str} {j pos} : PE X (.Constant (.str x) j pos) (tLe N env (.str x)) := le_lit pe_str fun _ => ⟨0, .str⟩
theorem le_int {i : Int} {j pos} : PE X (.Constant (.int i) j pos) (tLe N env (.int i)) := le_lit pe_int fun _ => ⟨0, .int⟩
theorem le_bl {b : Bool} {j pos} : PE X (.Constant (.bool b) j pos) (tLe N env (.bl b)) := le_lit pe_bl fun _ => ⟨0, .bl⟩
theorem le_non {j pos} : PE X (.Constant .none j pos) (tLe N env .non) := le_lit pe_non fun _ => ⟨0, .non⟩
theorem le_var {e : Expr} {i : Nat} {T : Tr} (h : PE X e (tVar i)) (hm : (i, T) ∈ env) : PE X e (tLe N env T) := PE.imp h fun σ H Q ⟨W, x, ev, q⟩ => by
  obtain ⟨v, e1, it⟩ := ev.2 _ hm
  exact ⟨v, e1, q H v (Same.refl H) (by rw [vw_self x]; exact it)⟩
theorem le_eq {e : Expr} {T T' : Tr} (h : PE X e (tLe N env T)) (hT : T = T') : PE X e (tLe N env T') := hT ▸ h
theorem les_nil : PA X [] (tLes N env []) := PA.imp pa_nil fun σ H Q ⟨W, x, ev, q⟩ => q H _ (Same.refl H) .nil
theorem les_cons {e : Expr} {es : List Expr} {T : Tr} {Ts : List Tr} (he : PE X e (tLe N env T)) (hr : PA X es (tLes N env Ts)) (hs : starEach (e :: es) X.env = (false, eval e X.env) :: starEach es X.env := by rfl) : PA X (e :: es) (tLes N env (T :: Ts)) :=
  PA.imp (pa_cons (hs := hs) he hr) fun σ H Q ⟨W, x, ev, q⟩ => ⟨W, x, ev, fun H1 v s1 i1 => ⟨vw W H H1, x.next s1, ev.mv (vw_keep x), fun H2 vs s2 i2 => by
    rw [vw_trans s1 s2] at i2
    exact q H2 _ (s1.trans s2) (.cons (i1.mv (vw_mono s2)) i2)⟩⟩
theorem lek_nil : PK X [] (tLes N env []) := ⟨fun pos pins s σ H Q I ⟨W, x, ev, q⟩ => pk_nil.run pos pins s σ H Q I (q H _ (Same.refl H) .nil)⟩
theorem lek_cons {e : Expr} {kpos : Pos} {kws : List Keyword} {T : Tr} {Ts : List Tr} (he : PE X e (tLe N env T)) (hr : PK X kws (tLes N env Ts)) {nm : Str} : PK X (⟨nm, e, kpos⟩ :: kws) (tLes N env (T :: Ts)) := by
  refine ⟨fun pos pins s σ H Q I ⟨W, x, ev, q⟩ => (pk_cons he hr).run pos pins s σ H Q I ?_⟩
  exact ⟨W, x, ev, fun H1 v s1 i1 => ⟨vw W H H1, x.next s1, ev.mv (vw_keep x), fun H2 vs s2 i2 => by
    rw [vw_trans s1 s2] at i2
    exact q H2 _ (s1.trans s2) (.cons (i1.mv (vw_mono s2)) i2)⟩⟩
theorem le_of {e : Expr} {ts : List Tr} (h : PE X e (tLf N env ts)) : PE X e (tLe N env (.sq true ts)) := PE.imp h fun σ H Q ⟨W, x, ev, q⟩ => ⟨W, x, ev, fun H' g vs s ng eg hl p => by
  have e1 : vw W H H' g = some (.lst vs) := by rw [vw_new ng]; exact eg
  exact q H' _ s (It.sq (.lst e1) hl (paired_imp p fun _ _ r => r.mv fun a o e => rm_sub e))⟩
theorem lf_lst {es : List Expr} {Ts : List Tr} {pos} (h : PA X es (tLes N env Ts)) (hl : Ts.length ≤ 1000000 := by first | decide | exact Nat.le_of_ble_eq_true rfl) : PE X (.List es pos) (tLf N env Ts) :=
  PE.imp (pe_lst h) fun σ H Q ⟨W, x, ev, q⟩ => ⟨W, x, ev, fun H1 vs s1 i1 => by
    have hlen : vs.length ≤ 1000000 := by rw [← Paired.length i1]; exact hl
    refine ⟨Nat.le_trans hlen (by decide), fun p np => ?_⟩
    refine q _ p vs (s1.trans (same_new np)) (s1.free np) upd_same hlen (paired_imp i1 fun _ _ r => r.mv fun a o e => ?_)
    have hap : a ≠ p := by
      rintro rfl
      rw [(x.next s1).sub _ _ e] at np
      cases np
    rw [rm_ne hap]
    exact vw_mono (same_new np) a o e⟩
theorem le_lst {es : List Expr} {Ts : List Tr} {pos} (h : PA X es (tLes N env Ts)) (hl : Ts.length ≤ 1000000 := by first | decide | exact Nat.le_of_ble_eq_true rfl) : PE X (.List es pos) (tLe N env (.sq true Ts)) := le_of (lf_lst h hl)
theorem le_tup {es : List Expr} {Ts : List Tr} {x1 pos} (h : PA X es (tLes N env Ts)) (hl : Ts.length ≤ 1000000 := by first | decide | exact Nat.le_of_ble_eq_true rfl) : PE X (.Tuple es x1 pos) (tLe N env (.sq false Ts)) :=
  PE.imp (pe_tup h) fun σ H Q ⟨W, x, ev, q⟩ => ⟨W, x, ev, fun H1 vs s1 i1 => by
    have hlen : vs.length ≤ 1000000 := by rw [← Paired.length i1]; exact hl
    refine ⟨Nat.le_trans hlen (by decide), fun p np => q _ _ (s1.trans (same_new np)) (It.sq (.tup (.tup ?_)) hlen (paired_imp i1 fun _ _ r => r.mv (vw_mono (same_new np))))⟩
    rw [vw_new (s1.free np)]
    exact upd_same⟩
/-- xs + ys, two lists -/
theorem lf_cat {e1 e2 : Expr} {Ts Us : List Tr} {pos : Pos} (h1 : PE X e1 (tLe N env (.sq true Ts))) (h2 : PE X e2 (tLe N env (.sq true Us))) (hl : Ts.length + Us.length ≤ 1000000 := by first | decide | exact Nat.le_of_ble_eq_true rfl) : PE X (.BinOp e1 .Add e2 pos) (tLf N env (Ts ++ Us)) :=
  PE.imp (pe_op op_cat h1 h2) fun σ H Q ⟨W, x, ev, q⟩ => ⟨W, x, ev, fun H1 v s1 i1 => ⟨vw W H H1, x.next s1, ev.mv (vw_keep x), fun H2 u s2 i2 => by
    rw [vw_trans s1 s2] at i2
    have i1' := i1.mv (vw_mono s2)
    have xn := x.next (s1.trans s2)
    obtain ⟨a, xs, rfl, ha, la, pa⟩ := i1'.sq_inv
    obtain ⟨b, ys, rfl, hb, lb, pb⟩ := i2.sq_inv
    have n1 := paired_len pa
    have n2 := paired_len pb
    refine ⟨a, b, xs, ys, rfl, rfl, xn.sub _ _ (ha.2 rfl), xn.sub _ _ (hb.2 rfl), Nat.le_trans (by omega : xs.length + ys.length ≤ 1000000) (by decide), fun p np => ?_⟩
    refine q _ p (xs ++ ys) ((s1.trans s2).trans (same_new np)) ((s1.trans s2).free np) upd_same (by rw [List.length_append]; omega) (paired_imp (paired_append pa pb) fun _ _ r => r.mv fun c o e => ?_)
    have hap : c ≠ p := by
      rintro rfl
      rw [xn.sub _ _ e] at np
      cases np
    rw [rm_ne hap]
    exact vw_mono (same_new np) c o e⟩⟩
theorem le_cat {e1 e2 : Expr} {Ts Us : List Tr} {pos : Pos} (h1 : PE X e1 (tLe N env (.sq true Ts))) (h2 : PE X e2 (tLe N env (.sq true Us))) (hl : Ts.length + Us.length ≤ 1000000 := by first | decide | exact Nat.le_of_ble_eq_true rfl) : PE X (.BinOp e1 .Add e2 pos) (tLe N env (.sq true (Ts ++ Us))) := le_of (lf_cat h1 h2 hl)
/-- xs * k, a list -/
theorem lf_rep {e1 : Expr} {Ts : List Tr} {k : Int} {j pos pos'} (h1 : PE X e1 (tLe N env (.sq true Ts))) (hk : 0 ≤ k ∧ k ≤ 1000 := by decide) (hl : Ts.length ≤ 1000 := by first | decide | exact Nat.le_of_ble_eq_true rfl) : PE X (.BinOp e1 .Mult (.Constant (.int k) j pos') pos) (tLf N env (List.replicate k.toNat Ts).flatten) :=
  PE.imp (pe_op op_rep h1 pe_int) fun σ H Q ⟨W, x, ev, q⟩ => ⟨W, x, ev, fun H1 v s1 i1 => by
    obtain ⟨a, xs, rfl, ha, la, pa⟩ := i1.sq_inv
    have n1 := paired_len pa
    have hmul : xs.length * k.toNat ≤ 1000000 := Nat.le_trans (Nat.mul_le_mul (by omega : xs.length ≤ 1000) (by omega : k.toNat ≤ 1000)) (by decide)
    refine ⟨a, k, xs, rfl, rfl, (x.next s1).sub _ _ (ha.2 rfl), by omega, by omega, Nat.le_trans hmul (by decide), fun p np => ?_⟩
    have pr : ∀ n : Nat, Paired (It (vw W H H1)) (List.replicate n Ts).flatten (List.replicate n xs).flatten := fun n => by
      induction n with
      | zero => exact .nil
      | succ n ih =>
        rw [List.replicate_succ, List.replicate_succ, List.flatten_cons, List.flatten_cons]
        exact paired_append pa ih
    refine q _ p _ (s1.trans (same_new np)) (s1.free np) upd_same ?_ (paired_imp (pr k.toNat) fun _ _ r => r.mv fun c o e => ?_)
    · rw [List.length_flatten, List.map_replicate, List.sum_replicate_nat, Nat.mul_comm]
      exact hmul
    · have hap : c ≠ p := by
        rintro rfl
        rw [(x.next s1).sub _ _ e] at np
        cases np
      rw [rm_ne hap]
      exact vw_mono (same_new np) c o e⟩
theorem le_rep {e1 : Expr} {Ts : List Tr} {k : Int} {j pos pos'} (h1 : PE X e1 (tLe N env (.sq true Ts))) (hk : 0 ≤ k ∧ k ≤ 1000 := by decide) (hl : Ts.length ≤ 1000 := by first | decide | exact Nat.le_of_ble_eq_true rfl) : PE X (.BinOp e1 .Mult (.Constant (.int k) j pos') pos) (tLe N env (.sq true (List.replicate k.toNat Ts).flatten)) := le_of (lf_rep h1 hk hl)
/-- xs[k] -/
theorem le_ix {e : Expr} {t : Bool} {ts : List Tr} {T : Tr} {k : Nat} {j p pos} (he : PE X e (tLe N env (.sq t ts))) (hk : ts[k]? = some T) (hp : PlainIx (.Constant (.int (k : Nat)) j p)) : PE X (.Subscript e (.Constant (.int (k : Nat)) j p) pos) (tLe N env T) :=
  PE.imp (pe_ix ix_sq he pe_int hp) fun σ H Q ⟨W, x, ev, q⟩ => ⟨W, x, ev, fun H1 v s1 i1 => by
    obtain ⟨a, xs, rfl, ha, la, pa⟩ := i1.sq_inv
    obtain ⟨y, ey, r⟩ := paired_at pa hk
    have hq : Sq t H1 a xs := ha.1.mv fun o e => (x.next s1).sub a o e
    exact ⟨t, a, xs, k, y, rfl, rfl, hq, atI_nat ey, q H1 y s1 r⟩⟩
theorem le_fam {e : Expr} {k : Nat} {Pr : Tr → Prop} {F : Tr → Tr} (h : ∀ T, Pr T → PE X e (tLe N ((k, T) :: env) (F T))) : PE X e (tFam N k env Pr F) :=
  ⟨fun pins s σ H Q I ⟨W, T, p, x, ev, q⟩ => (h T p).run pins s σ H Q I ⟨W, x, ev, q⟩⟩
/-- f(..): what comes is a tree without lists -/
theorem le_c {x : Str} {ps : List Str} {k : Nat} {sp : Sp} {e : Expr} {es : List Expr} {Ts : List Tr} {R : Tr} {p pos : Pos} (O : Ok X.prog X.w X.K X.mg X.base k x ps sp) (hr : Room k X.A) (ha : PA X (e :: es) (tLes N env Ts)) (hR : R.nol = true)
    (hsp : ∀ H vs (Q : VK), Paired (It H) Ts vs → (∀ H' v, Same H H' → It H' R v → Q v H') → sp vs H Q E0) (hg : Gl X x := by rfl)
    (hdb : (x == ("__debug__" : Str)) = false := by decide) (he : starEach (e :: es) X.env = (false, eval e X.env) :: starEach es X.env := by rfl) (hpl : (backTo pos (starEach es X.env)).any (·.1) = false := by rfl) :
    PE X (.Call (.Name x p) (e :: es) [] pos) (tLe N env R) :=
  PE.imp (pe_c O hr ha hg hdb he hpl) fun σ H Q ⟨W, x, ev, q⟩ => ⟨W, x, ev, fun H1 vs s1 i1 => by
    show sp (vs ++ []) H1 Q E0
    rw [List.append_nil]
    have xn := x.next s1
    refine hsp H1 vs Q (paired_imp i1 fun _ _ r => r.mv xn.sub) fun H' v s i => q H' v (s1.trans s) ?_
    rw [← vw_trans s1 s]
    exact i.nol (xn.next s) hR⟩
/-- [.. for x in xs] -/
theorem lf_core {K : PySem.W.Frag} {k : Nat} {t : Bool} {ts : List Tr} {Pr : Tr → Prop} {F : Tr → Tr} (hk : k < N) (hne : ∀ p ∈ env, p.1 ≠ k) (hP : ∀ T ∈ ts, Pr T) {σ : L2.St} {H : Hp} {Q : VK} (h : tLf N env (ts.map F) σ H Q) :
    tLc (iSeq K (tLe N env (.sq t ts))) (gName k) tYes (tFam N k env Pr F) [k] σ H Q := by
  obtain ⟨W, x, ev, q⟩ := h
  refine ⟨W, x, ev, fun H1 v s1 i1 => ?_⟩
  obtain ⟨a, xs, rfl, ha, la, pa⟩ := i1.sq_inv
  have xn := x.next s1
  have evn : Ev N env σ (vw W H H1) := ev.mv (vw_keep x)
  have hq : Sq t H1 a xs := ha.1.mv fun o e => xn.sub a o e
  refine ⟨t, a, rfl, ⟨xs, hq.B⟩, fun D nD => ?_⟩
  have domB : ∀ {H2 : Hp}, Same H1 H2 → (∃ ys, H2 D = some (.lst ys)) → ∀ b, H2 b = none → upd H1 D (.lst []) b = none := fun {H2} sm ⟨ys, eD⟩ b hb => by
    by_cases hbD : b = D
    · subst hbD
      rw [eD] at hb
      cases hb
    · rw [upd_ne hbD]
      exact sm.free hb
  have WD : vw W H H1 D = none := xn.off nD
  refine lc_mf (K := K) ts (fun T => some (F T)) (fun H' z v => It (vw (vw W H H1) (upd H1 D (.lst [])) H') z v) nD hq la (paired_len pa) ?_ ?_ ?_ ?_
  · exact fun Ha Hb z v' s r => r.mv (vw_mono s)
  · intro Ha z v' ys o sm e r
    refine r.mv fun b o' e' => ?_
    rcases dom_cases (upd H1 D (.lst [])) b with hb | ⟨u, hb⟩
    · rw [vw_new hb] at e' ⊢
      rw [upd_ne]
      · exact e'
      · rintro rfl
        rw [upd_same] at hb
        cases hb
    · rw [vw_old hb] at e' ⊢
      exact e'
  · intro i T z H2 C C0 hT hz sm eD yes no
    have iz := paired_both pa hT hz
    refine ⟨?_, ?_⟩
    · show ((wipe σ [k]).set k (some z)).set k none = wipe σ [k]
      show ((σ.set k none).set k (some z)).set k none = σ.set k none
      rw [List.set_set, List.set_set]
    · have hmono : ∀ b o, vw W H H1 b = some o → vw (vw W H H1) (upd H1 D (.lst [])) H2 b = some o := fun b o e => by
        have h1 := xn.sub b o e
        have hbD : b ≠ D := by
          rintro rfl
          rw [nD] at h1
          cases h1
        rw [vw_old (o := o) (by rw [upd_ne hbD]; exact h1)]
        exact e
      have V2 : Vw (vw (vw W H H1) (upd H1 D (.lst [])) H2) H2 := by
        refine ⟨fun b o e => ?_, fun b o e => ?_, xn.good.mv sm⟩
        · rcases dom_cases (upd H1 D (.lst [])) b with hb | ⟨u, hb⟩
          · rw [vw_new hb] at e
            exact e
          · rw [vw_old hb] at e
            exact sm b o (xn.sub b o e)
        · rcases dom_cases (upd H1 D (.lst [])) b with hb | ⟨u, hb⟩
          · rw [vw_new hb]
            exact .inl e
          · by_cases hbD : b = D
            · subst hbD
              obtain ⟨ys, e2⟩ := eD
              rw [e2] at e
              cases e
              exact .inr ⟨ys, rfl⟩
            · rw [vw_old hb]
              rw [upd_ne hbD] at hb
              have e3 := sm b u hb
              rw [e] at e3
              cases e3
              exact xn.all b o hb
      refine ⟨vw (vw W H H1) (upd H1 D (.lst [])) H2, T, hP T (List.mem_of_getElem? hT), V2, ?_, fun H' v' s' i' => ?_⟩
      · show Ev N ((k, T) :: env) ((σ.set k none).set k (some z)) _
        exact ((evn.mv hmono).put hne).set hk hne (iz.mv hmono)
      · rw [vw_two (domB sm eD) s'] at i'
        exact yes v' H' _ s' rfl i'
  · intro H2 ys sm eD p2 hyl
    have nDH : H D = none := s1.free nD
    have em : ts.filterMap (fun T => some (F T)) = ts.map F := by
      rw [show (fun T => some (F T)) = some ∘ F from rfl, List.filterMap_eq_map]
    rw [em] at p2
    refine q H2 D ys (s1.trans sm) nDH eD (by omega) (paired_imp p2 fun _ _ r => r.mv fun b o e => ?_)
    have hbD : b ≠ D := by
      rintro rfl
      rw [vw_old (o := .lst []) upd_same, WD] at e
      cases e
    rw [rm_ne hbD, ← vw_trans s1 sm]
    rcases dom_cases H1 b with hb | ⟨u, hb⟩
    · rw [vw_new (by rw [upd_ne hbD]; exact hb)] at e
      rw [vw_new hb]
      exact e
    · rw [vw_old (o := u) (by rw [upd_ne hbD]; exact hb)] at e
      rw [vw_old hb]
      exact e
theorem lf_lc {elt iter : Expr} {scope : Scope} {pos tp : Pos} {y : Str} {k : Nat} {t : Bool} {ts : List Tr} {Pr : Tr → Prop} {F : Tr → Tr} (hc : X.calm = true) (hN : X.N.Nodup) (hit : PE X iter (tLe N env (.sq t ts))) (ok : BlkOk X.N X.env.scope scope [(y, k)]) (hk : k < N) (hne : ∀ p ∈ env, p.1 ≠ k) (hP : ∀ T ∈ ts, Pr T)
    (hg : ∀ (s : Shared) (H : Hp) (C : Addr) (cl : List (Str × Addr)) (fp : List Addr), PG (X.blk s H scope (compEnvC scope cl C X.env) fp) (.Name y tp) (gName k))
    (he : ∀ (s : Shared) (H : Hp) (C : Addr) (cl : List (Str × Addr)) (fp : List Addr), PE (X.blk s H scope (compEnvC scope cl C X.env) fp) elt (tFam N k env Pr F)) (hs : ∀ x, foldedSetIterable iter X.env x = pure x := by intro _; rfl) :
    PE X (.ListComp elt [⟨.Name y tp, iter, [], 0⟩] scope pos) (tLf N env (ts.map F)) :=
  PE.imp (pe_lc (own := [(y, k)]) (g := gName k) hc hN (pi_seq hit) ok hg (fun _ _ _ _ _ => pts_nil) he hs) fun σ H Q h => lf_core (K := X.K) hk hne hP h
/-- name = [.. for x in xs] -/
theorem pf_setLc {elt iter : Expr} {scope : Scope} {pos spos tp py : Pos} {y z : Str} {i k : Nat} {t : Bool} {ts : List Tr} {Pr : Tr → Prop} {F : Tr → Tr} (hc : X.calm = true) (hN : X.N.Nodup) (hy : X.N[i]? = some z) (hyl : X.env.scope.names.lookup z = some .local)
    (hsw : swapsWith (.ListComp elt [⟨.Name y tp, iter, [], 0⟩] scope pos) (some (.Name z py)) spos.line X.env = pure true) (hit : PE X iter (tLe N env (.sq t ts))) (ok : BlkOk X.N X.env.scope scope [(y, k)]) (hk : k < N) (hne : ∀ p ∈ env, p.1 ≠ k) (hP : ∀ T ∈ ts, Pr T)
    (hg : ∀ (s : Shared) (H : Hp) (C : Addr) (cl : List (Str × Addr)) (fp : List Addr), PG (X.blk s H scope (compEnvC scope cl C X.env) fp) (.Name y tp) (gName k))
    (he : ∀ (s : Shared) (H : Hp) (C : Addr) (cl : List (Str × Addr)) (fp : List Addr), PE (X.blk s H scope (compEnvC scope cl C X.env) fp) elt (tFam N k env Pr F)) (hs : ∀ x, foldedSetIterable iter X.env x = pure x := by intro _; rfl) :
    PS X (.Assign [.Name z py] (.ListComp elt [⟨.Name y tp, iter, [], 0⟩] scope pos) spos) (tAsg (tLf N env (ts.map F)) (gName i)) :=
  PS.imp (ps_setLc (i := i) (own := [(y, k)]) (g := gName k) hc hN hy hyl hsw (pi_seq hit) ok hg (fun _ _ _ _ _ => pts_nil) he hs) fun D σ H h => lf_core (K := X.K) hk hne hP h
end
/-! ### a list that grows -/
theorem Vw.grown {W H : Hp} (x : Vw W H) {g : Addr} {vs ys : List V} (e : H g = some (.lst vs)) (n : W g = none) : Vw W (upd H g (.lst ys)) := by
  refine ⟨fun a o h => ?_, fun a o h => ?_, x.good.put e⟩
  · have hag : a ≠ g := by
      rintro rfl
      rw [n] at h
      cases h
    rw [upd_ne hag]
    exact x.sub a o h
  · by_cases hag : a = g
    · subst hag
      rw [upd_same] at h
      cases h
      exact .inr ⟨ys, rfl⟩
    · rw [upd_ne hag] at h
      exact x.all a o h
/-- the view with the list -/
def add (W H : Hp) (g : Addr) : Hp := fun a => if a = g then H g else W a
theorem Vw.add {W H : Hp} (x : Vw W H) (g : Addr) : Vw (add W H g) H := by
  refine ⟨fun a o h => ?_, fun a o h => ?_, x.good⟩
  · unfold LwB.add at h
    split at h
    · rename_i e
      rw [e]
      exact h
    · exact x.sub a o h
  · unfold LwB.add
    split
    · rename_i e
      rw [← e]
      exact .inl h
    · exact x.all a o h
theorem add_sub {W H : Hp} (x : Vw W H) {g : Addr} : ∀ a o, W a = some o → LwB.add W H g a = some o := fun a o h => by
  unfold LwB.add
  split
  · rename_i e
    rw [← e]
    exact x.sub a o h
  · exact h
theorem add_same {W H : Hp} {g : Addr} : LwB.add W H g g = H g := if_pos rfl
theorem add_it {W H : Hp} (x : Vw W H) {g : Addr} {ts : List Tr} {vs : List V} (e : H g = some (.lst vs)) (hl : vs.length ≤ 1000000) (p : Paired (It W) ts vs) : It (LwB.add W H g) (.sq true ts) (.ref g) :=
  It.sq (.lst (by rw [add_same]; exact e)) hl (paired_imp p fun _ _ r => r.mv (add_sub x))
/-! ### words as trees -/
theorem bas_of_it {H : Hp} {t : Bool} {Ws : List (List Str)} {v : V} (h : It H (trows t Ws) v) : ∃ a, v = .ref a ∧ Bas t H a Ws := by
  obtain ⟨n, h⟩ := h
  obtain ⟨a, xs, e, hs, hl, p⟩ := rows_of (n := n) (h.mono (by omega))
  exact ⟨a, e, xs, hs, hl, p⟩
theorem row_of_it {H : Hp} {w : List Str} {v : V} (h : It H (trs false w) v) : RowAt H w v := by
  obtain ⟨n, h⟩ := h
  exact Is.row_at (n := n) (h.mono (by omega))
theorem trs_nol (w : List Str) : (trs false w).nol = true := by
  show (!false && Tr.nolAll (w.map Tr.str)) = true
  induction w with
  | nil => rfl
  | cons z w ih => exact ih
theorem trows_nol (Ws : List (List Str)) : (trows false Ws).nol = true := by
  show (!false && Tr.nolAll (Ws.map (trs false))) = true
  induction Ws with
  | nil => rfl
  | cons z w ih =>
    show (!false && ((trs false z).nol && Tr.nolAll (w.map (trs false)))) = true
    rw [trs_nol]
    exact ih
theorem headT_nol : ∀ G : List (List Str), (headT G).nol = true
  | [] => rfl
  | z :: _ => trs_nol z
def unstr : Tr → Str
  | .str z => z
  | _ => default
def unrow : Tr → List Str
  | .sq _ ts => ts.map unstr
  | _ => []
def unrows : Tr → List (List Str)
  | .sq _ ts => ts.map unrow
  | _ => []
theorem unrow_trs (t : Bool) (w : List Str) : unrow (trs t w) = w := by
  show (w.map Tr.str).map unstr = w
  rw [List.map_map]
  exact (List.map_congr_left fun _ _ => rfl).trans (List.map_id w)
theorem unrows_trows (t : Bool) (Ws : List (List Str)) : unrows (trows t Ws) = Ws := by
  show (Ws.map (trs false)).map unrow = Ws
  rw [List.map_map]
  exact (List.map_congr_left fun w _ => unrow_trs false w).trans (List.map_id Ws)
section
variable {X : Cx} {N : Nat} {env : List (Nat × Tr)}
/-- f(b=.., a=..) -/
theorem le_kw2 {x : Str} {ps ks : List Str} {k : Nat} {sp : Sp} {st : Stmt} {kws : List Keyword} {T1 T2 R : Tr} {p pos : Pos} (O : Ok X.prog X.w X.K X.mg X.base k x ps sp) (D : Df X.K X.mg x st ps) (kb : Kw2 x st ps ks) (hr : Room k X.A) (hkw : PK X kws (tLes N env [T2, T1])) (hR : R.nol = true)
    (hsp : ∀ H vs (Q : VK), Paired (It H) [T1, T2] vs → (∀ H' v, Same H H' → It H' R v → Q v H') → sp vs H Q E0) (hk2 : ks.length = 2 := by rfl) (hg : Gl X x := by rfl)
    (hall : (backToKw pos (keywordEach kws X.env)).all (·.1.isSome) = true := by rfl) (hks : (backToKw pos (keywordEach kws X.env)).filterMap (·.1) = ks := by rfl) (hdb : (x == ("__debug__" : Str)) = false := by decide)
    (hpl : ((backTo pos (starEach [] X.env)).any (·.1) || (backToKw pos (keywordEach kws X.env)).any (·.1.isNone)) = false := by rfl) :
    PE X (.Call (.Name x p) [] kws pos) (tLe N env R) :=
  PE.imp (pe_kw2 O D kb hr hkw hk2 hg hall hks hdb hpl) fun σ H Q ⟨W, x, ev, q⟩ => ⟨W, x, ev, fun H1 vs s1 i1 => by
    cases i1 with
    | cons r2 i1 =>
      cases i1 with
      | cons r1 i1 =>
        cases i1
        have xn := x.next s1
        refine ⟨_, _, rfl, hsp H1 _ Q (.cons (r1.mv xn.sub) (.cons (r2.mv xn.sub) .nil)) fun H' v s i => q H' v (s1.trans s) ?_⟩
        rw [← vw_trans s1 s]
        exact i.nol (xn.next s) hR⟩
end
theorem Ev.cons {N : Nat} {env : List (Nat × Tr)} {σ : L2.St} {W : Hp} {i : Nat} {T : Tr} {v : V} (h : Ev N env σ W) (e : σ[i]? = some (some v)) (x : It W T v) : Ev N ((i, T) :: env) σ W := by
  refine ⟨h.1, fun p hp => ?_⟩
  rcases List.mem_cons.mp hp with rfl | hp
  · exact ⟨v, e, x⟩
  · exact h.2 p hp
theorem Ev.drop {N : Nat} {p : Nat × Tr} {env : List (Nat × Tr)} {σ : L2.St} {W : Hp} (h : Ev N (p :: env) σ W) : Ev N env σ W := h.sub fun _ hp => .tail _ hp
/-- a new list is left out of the view -/
theorem keep_rm {W H H' : Hp} (x : Vw W H) {g : Addr} (n : H g = none) : ∀ a o, W a = some o → rm (vw W H H') g a = some o := fun a o h => by
  have hag : a ≠ g := by
    rintro rfl
    rw [x.off n] at h
    cases h
  rw [rm_ne hag]
  exact vw_keep x a o h
theorem rm_self {W : Hp} {g : Addr} : rm W g g = none := if_pos rfl
theorem It.bl_eq {H : Hp} {b : Bool} {v : V} (h : It H (.bl b) v) : v = .bl b := by
  obtain ⟨n, h⟩ := h
  exact h.bl_eq
theorem It.row {H : Hp} {n : Nat} {t : Bool} {ts : List Tr} {v : V} (h : It H (.sq t ts) v) : ∃ a xs, v = .ref a ∧ Sq t H a xs ∧ xs.length ≤ 1000000 ∧ Paired (It H) ts xs := by
  obtain ⟨a, xs, e, hs, hl, p⟩ := h.sq_inv
  exact ⟨a, xs, e, hs.1, hl, p⟩
/-! ### written short -/
theorem in0 {α : Type} {a : α} {l : List α} : a ∈ a :: l := .head _
theorem in1 {α : Type} {a b : α} {l : List α} : a ∈ b :: a :: l := .tail _ (.head _)
theorem in2 {α : Type} {a b c : α} {l : List α} : a ∈ b :: c :: a :: l := .tail _ (.tail _ (.head _))
theorem in3 {α : Type} {a b c d : α} {l : List α} : a ∈ b :: c :: d :: a :: l := .tail _ (.tail _ (.tail _ (.head _)))
theorem in4 {α : Type} {a b c d e : α} {l : List α} : a ∈ b :: c :: d :: e :: a :: l := .tail _ (.tail _ (.tail _ (.tail _ (.head _))))
theorem in5 {α : Type} {a b c d e f : α} {l : List α} : a ∈ b :: c :: d :: e :: f :: a :: l := .tail _ (.tail _ (.tail _ (.tail _ (.tail _ (.head _)))))
end LwB
namespace LwB
open PySem PySem.Spec PyProof.Rows L2 IqX RvT EnS TL NsT
variable [LwB.KC]
/-! ### names and logs -/
def isLow (c : Nat) : Bool := decide (97 ≤ c) && decide (c ≤ 122)
def isNm (z : Str) : Bool := (decide (1 ≤ z.length) && decide (z.length ≤ 8)) && (tl z).all isLow
def isNameT : Tr → Bool
  | .str z => isNm z
  | _ => false
def isLogT : Tr → Bool
  | .sq false ts => ts.all isNameT
  | _ => false
def spIsName : Sp := fun vs H Q _ => ∃ (v : V) (n : Nat) (t : Tr), vs = [v] ∧ Is H n t v ∧ (∀ z, t = .str z → z.length ≤ 1000000) ∧ ∀ H', Same H H' → Q (.bl (isNameT t)) H'
def spIsLog : Sp := fun vs H Q _ => ∃ (v : V) (n : Nat) (t : Tr), vs = [v] ∧ Is H n t v ∧ (∀ b ts z, t = .sq b ts → Tr.str z ∈ ts → z.length ≤ 1000000) ∧ ∀ H', Same H H' → Q (.bl (isLogT t)) H'
/-! ### how many ways -/
def cnt : List Str → List Str → Nat
  | [], _ => 1
  | _ :: _, [] => 0
  | w :: ws, e :: es => (if e = w then cnt ws es else 0) + cnt (w :: ws) es
theorem cnt_nil (es : List Str) : cnt [] es = 1 := by cases es <;> simp [cnt]
theorem cnt_end (w : Str) (ws : List Str) : cnt (w :: ws) [] = 0 := rfl
theorem cnt_cons (w e : Str) (ws es : List Str) : cnt (w :: ws) (e :: es) = (if e = w then cnt ws es else 0) + cnt (w :: ws) es := rfl
theorem cnt_snoc (w e : Str) : ∀ (es ws : List Str), cnt (ws ++ [w]) (es ++ [e]) = (if e = w then cnt ws es else 0) + cnt (ws ++ [w]) es
  | [], [] => by
    show (if e = w then cnt [] [] else 0) + cnt [w] [] = _
    rfl
  | [], u :: ws => by
    show (if e = u then cnt (ws ++ [w]) [] else 0) + cnt (u :: (ws ++ [w])) [] = _
    have h : cnt (ws ++ [w]) [] = 0 := by cases ws <;> rfl
    rw [h]
    show (if e = u then 0 else 0) + 0 = (if e = w then 0 else 0) + 0
    split <;> split <;> rfl
  | d :: es, [] => by
    show (if d = w then cnt [] (es ++ [e]) else 0) + cnt [w] (es ++ [e]) = (if e = w then cnt [] (d :: es) else 0) + ((if d = w then cnt [] es else 0) + cnt [w] es)
    have ih := cnt_snoc w e es []
    have ih' : cnt [w] (es ++ [e]) = (if e = w then cnt [] es else 0) + cnt [w] es := ih
    rw [ih', cnt_nil, cnt_nil, cnt_nil]
    omega
  | d :: es, u :: ws => by
    show (if d = u then cnt (ws ++ [w]) (es ++ [e]) else 0) + cnt (u :: ws ++ [w]) (es ++ [e]) = (if e = w then (if d = u then cnt ws es else 0) + cnt (u :: ws) es else 0) + ((if d = u then cnt (ws ++ [w]) es else 0) + cnt (u :: ws ++ [w]) es)
    rw [cnt_snoc w e es ws, cnt_snoc w e es (u :: ws)]
    by_cases h1 : d = u
    · rw [if_pos h1, if_pos h1, if_pos h1]
      by_cases h2 : e = w
      · rw [if_pos h2, if_pos h2, if_pos h2]
        omega
      · rw [if_neg h2, if_neg h2, if_neg h2]
        omega
    · rw [if_neg h1, if_neg h1, if_neg h1]
      by_cases h2 : e = w
      · rw [if_pos h2, if_pos h2]
        omega
      · rw [if_neg h2, if_neg h2]
def spWays : Sp := fun vs H Q _ => ∃ (b1 b2 : Bool) (a c : Addr) (ws es : List Str), vs = [.ref a, .ref c] ∧ Sq b1 H a (ws.map V.str) ∧ Sq b2 H c (es.map V.str) ∧ ws.length ≤ 1000 ∧ ∀ H', Same H H' → Q (.int (cnt ws es : Nat)) H'
/-- the places as a tree, or none -/
def natT (ns : List Nat) : Tr := .sq false (ns.map fun n => Tr.int (n : Nat))
def placesT (ws es : List Str) : Tr := if (early ws es 0).length = ws.length then natT (early ws es 0) else .non
def spPlaces : Sp := fun vs H Q _ => ∃ (b1 b2 : Bool) (a c : Addr) (ws es : List Str), vs = [.ref a, .ref c] ∧ Sq b1 H a (ws.map V.str) ∧ Sq b2 H c (es.map V.str) ∧ ws.length ≤ 1000 ∧ ∀ H' v, Same H H' → Is H' 1 (placesT ws es) v → Q v H'
theorem Is.of_nats {H : Hp} {n : Nat} {t : Bool} {p : Addr} {ns : List Nat} (h : Sx t H p (nats ns)) (hl : ns.length ≤ 1000000) : Is H (n + 1) (.sq t (ns.map fun n => Tr.int (n : Nat))) (.ref p) := by
  refine Is.sq h (by unfold nats; rw [List.length_map]; exact hl) ?_
  unfold nats
  clear h hl
  induction ns with
  | nil => exact .nil
  | cons n ns ih => exact .cons .int ih
/-! ### tables -/
def tab (m : Nat) (f : Nat → Int) : List V := (List.range m).map fun k => V.int (f k)
theorem tab_len (m : Nat) (f : Nat → Int) : (tab m f).length = m := by unfold tab; rw [List.length_map, List.length_range]
theorem tab_get {m k : Nat} (f : Nat → Int) (h : k < m) : (tab m f)[k]? = some (.int (f k)) := by
  unfold tab
  rw [List.getElem?_map, List.getElem?_range h]
  rfl
theorem tab_set (m e : Nat) (f : Nat → Int) (v : Int) : (tab m f).set e (.int v) = tab m fun k => if k = e then v else f k := by
  refine List.ext_getElem? fun i => ?_
  by_cases hi : i < m
  · rw [tab_get _ hi]
    by_cases he : i = e
    · subst he
      rw [List.getElem?_set_self (by rw [tab_len]; exact hi), if_pos rfl]
    · rw [List.getElem?_set_ne fun q => he q.symm, tab_get _ hi, if_neg he]
  · rw [List.getElem?_eq_none (by rw [List.length_set, tab_len]; omega), List.getElem?_eq_none (by rw [tab_len]; omega)]
theorem tab_ext {m : Nat} {f g : Nat → Int} (h : ∀ k, k < m → f k = g k) : tab m f = tab m g := by
  unfold tab
  exact List.map_congr_left fun k hk => by rw [h k (List.mem_range.mp hk)]
theorem tab_first (n : Nat) : [V.int 1] ++ (List.replicate n [V.int 0]).flatten = tab (n + 1) fun k => if k = 0 then 1 else 0 := by
  refine List.ext_getElem? fun i => ?_
  have hl : (List.replicate n [V.int 0]).flatten = List.replicate n (V.int 0) := by
    induction n with
    | zero => rfl
    | succ n ih => rw [List.replicate_succ, List.flatten_cons, ih, List.replicate_succ]; rfl
  rw [hl]
  by_cases hi : i < n + 1
  · rw [tab_get _ hi]
    cases i with
    | zero => rfl
    | succ i =>
      show (List.replicate n (V.int 0))[i]? = _
      rw [List.getElem?_replicate, if_pos (by omega), if_neg (by omega)]
  · rw [List.getElem?_eq_none (by rw [List.length_append, List.length_replicate]; show 1 + n ≤ i; omega), List.getElem?_eq_none (by rw [tab_len]; omega)]
theorem tab_end (n : Nat) : (List.replicate n [V.int 0]).flatten ++ [V.int 1] = tab (n + 1) fun k => if k = n then 1 else 0 := by
  refine List.ext_getElem? fun i => ?_
  have hl : (List.replicate n [V.int 0]).flatten = List.replicate n (V.int 0) := by
    induction n with
    | zero => rfl
    | succ n ih => rw [List.replicate_succ, List.flatten_cons, ih, List.replicate_succ]; rfl
  rw [hl]
  by_cases hi : i < n + 1
  · rw [tab_get _ hi]
    by_cases h2 : i < n
    · rw [List.getElem?_append_left (by rw [List.length_replicate]; exact h2), List.getElem?_replicate, if_pos h2, if_neg (by omega)]
    · have e : i = n := by omega
      subst e
      rw [List.getElem?_append_right (by rw [List.length_replicate]; exact Nat.le_refl _), List.length_replicate, Nat.sub_self, if_pos rfl]
      rfl
  · rw [List.getElem?_eq_none (by rw [List.length_append, List.length_replicate]; show n + 1 ≤ i; omega), List.getElem?_eq_none (by rw [tab_len]; omega)]
theorem atI_last {xs : List V} {v : V} {n : Nat} (hl : xs.length = n + 1) (h : xs[n]? = some v) : atI xs (-1) = some v := by
  have e : ixN xs.length (-1) = some n := by
    unfold ixN
    rw [hl]
    first
      | (simp; omega)
      | simp
      | omega
  unfold atI
  rw [e]
  exact h
section
variable {X : Cx}
def rGetN : V → V → Hp → VK → Prop := fun o i H Q => ∃ (p : Addr) (xs : List V) (k : Nat) (v : V), o = .ref p ∧ i = .int k ∧ H p = some (.lst xs) ∧ xs[k]? = some v ∧ Q v H
theorem get_n : PGet X rGetN := by
  intro pins s σ H o i ov iv Q I ro ri h
  obtain ⟨p, xs, k, v, rfl, rfl, hp, hk, q⟩ := h
  cases ro
  obtain ⟨t, rfl⟩ := ri
  obtain ⟨its, rv, pl, hz⟩ := I.list (SqL.of hp)
  obtain ⟨u, hu, ru⟩ := paired_at rv hk
  have hkl := (List.getElem?_eq_some_iff.mp hk).1
  refine wpAny_getItem_list (k := (k : Int)) pl.isList (by omega) ?_ (by simpa using hu) ⟨v, H, I, ru, q⟩
  have : xs.length ≤ 16777216 := by rw [sizeLine_eq] at hz; exact hz
  omega
end
end LwB
namespace K13
open PySem PySem.Spec PyProof.Rows L2 IqX RvT LwB EnS TL NsT
variable [LwB.KC]
section
variable {P : Program} {w : World} {K : PySem.W.Frag} {mg : Str → Option Value} {base : Heap}
theorem one_lt (a b : Nat) : ([a] : List Nat) < [b] ↔ a < b := by
  constructor
  · intro h
    cases h with
    | rel h => exact h
    | cons h => cases h
  · intro h
    exact List.Lex.rel h
theorem low_cmp (c : Nat) : ((!decide ((Str.mk #[c]).cps.toList < (Str.mk #[97]).cps.toList)) && (!decide ((Str.mk #[122]).cps.toList < (Str.mk #[c]).cps.toList))) = isLow c := by
  unfold isLow
  have h1 : decide ((Str.mk #[c]).cps.toList < (Str.mk #[97]).cps.toList) = decide (c < 97) := by
    refine decide_eq_decide.mpr ?_
    exact one_lt c 97
  have h2 : decide ((Str.mk #[122]).cps.toList < (Str.mk #[c]).cps.toList) = decide (122 < c) := by
    refine decide_eq_decide.mpr ?_
    exact one_lt 122 c
  rw [h1, h2, Bool.eq_iff_iff]
  simp
theorem ok_is_name (D : Df K mg "is_name" s_is_name ["value"]) (B : Bn mg) : Ok P w K mg base 1 "is_name" ["value"] spIsName := by
  refine D.ok sc_is_name (fun vs H Q E h => ?_) (fun f cdv A outer s H vs Q E hr h => ?_)
  · obtain ⟨_, _, _, rfl, _⟩ := h
    rfl
  · obtain ⟨v, n, t, rfl, i1, hsz, q⟩ := h
    have nd := sc_is_name.nd
    refine ⟨_, pss_cons (ps_if (pt_not (pt_val (pe_isQ B.isinstance (pa_cons (pv 0) (pa_cons (pe_ty (n := "str") B.str) pa_nil))))) (pss_one (ps_ret pe_bl)) pss_nil)
      (pss_one (ps_ret (pe_and (pe_chain op_le op_le pe_int (pe_callB call_len_str (by rfl) B.len PySem.boot_len (pa_cons (pv 0) pa_nil)) pe_int) (pe_one (pe_callB (cr_all rfl) (by rfl) B.all (by decide +kernel) (pa_cons
        (pe_lc (own := [("letter", 1)]) (g := gName 1) (by rfl) nd (pi_str (pv 0)) (blkOk_by (N := ["value", "letter"]) (sc := defScope s_is_name) (by decide +kernel))
          (fun _ _ _ _ _ => pg_name (i := 1) nd rfl (.inl rfl)) (fun _ _ _ _ _ => pts_nil) (fun _ _ _ _ _ => pe_chain op_le_str op_le_str pe_str (pv 1) pe_str)) pa_nil)))))), ?_⟩
    cases t with
    | non =>
      have e := i1.non_eq
      subst e
      exact ⟨_, rfl, _, "str", "NoneType", false, rfl, .base .non, (by decide +kernel), _, rfl, iteT (q _ (Same.refl H))⟩
    | bl b =>
      have e := i1.bl_eq
      subst e
      exact ⟨_, rfl, _, "str", "bool", false, rfl, .base (.bl _), (by decide +kernel), _, rfl, iteT (q _ (Same.refl H))⟩
    | int i =>
      have e := i1.int_eq
      subst e
      exact ⟨_, rfl, _, "str", "int", false, rfl, .base (.int _), (by decide +kernel), _, rfl, iteT (q _ (Same.refl H))⟩
    | sq t ts =>
      obtain ⟨m, a1, xs, en, e1, ⟨h1, _⟩, l1, p1⟩ := i1.sq_eq
      subst e1
      have hk : kitB (if t = true then "list" else "tuple") "str" = some false := by cases t <;> decide +kernel
      exact ⟨_, rfl, _, "str", _, false, rfl, h1.ty, hk, _, rfl, iteT (q _ (Same.refl H))⟩
    | str z =>
      have e := i1.str_eq
      subst e
      have hz := hsz z rfl
      refine ⟨_, rfl, _, "str", "str", true, rfl, .base (.str _), (by decide +kernel), _, rfl, iteF ?_⟩
      refine ⟨_, rfl, z, rfl, Nat.le_trans hz (by decide), 1, (z.length : Int), rfl, rfl, _, rfl, ?_⟩
      have key : ∀ (b : Bool) (H1 : Hp), Same H H1 → (b = (tl z).all isLow) → Q (.bl ((decide (1 ≤ z.length) && decide (z.length ≤ 8)) && b)) H1 := fun b H1 s1 hb => by
        have := q H1 s1
        rw [hb]
        exact this
      refine ite2 (fun h1 => ?_) (fun h1 => ?_)
      · refine ⟨_, _, rfl, rfl, _, rfl, ite2 (fun h2 => ?_) (fun h2 => ?_)⟩
        · refine ⟨_, rfl, z, rfl, fun L nL => ?_⟩
          refine lc_it (n := z.cps.size) walk_str (fun i H' => Same H H' ∧ ∃ bs : List Bool, H' L = some (.lst (bs.map V.bl)) ∧ bs = ((tl z).take i).map isLow)
            ⟨same_new nL, [], upd_same, rfl⟩ (fun _ _ _ _ => trivial) ?_ ?_
          · rintro i x H1 H1' hi ⟨sm, bs, eL, eb⟩ ⟨rfl, c, hc, rfl⟩
            have hc' : (tl z)[i]? = some c := by
              show z.cps.toList[i]? = some c
              rw [Array.getElem?_toList]
              exact hc
            have hbl : bs.length ≤ i := by
              rw [eb, List.length_map, List.length_take]
              omega
            have hzz : z.cps.size ≤ 1000000 := hz
            have push : ∀ (r : Bool), r = isLow c → ∃ acc, H1' L = some (.lst acc) ∧ acc.length < sizeLine ∧ (Same H (upd H1' L (.lst (acc ++ [V.bl r]))) ∧ ∃ bs : List Bool, upd H1' L (.lst (acc ++ [V.bl r])) L = some (.lst (bs.map V.bl)) ∧ bs = ((tl z).take (i + 1)).map isLow) := fun r hr' => by
              refine ⟨_, eL, ?_, Same.young sm nL, bs ++ [r], ?_, ?_⟩
              · rw [List.length_map]
                exact Nat.lt_of_lt_of_le (by omega : bs.length < 1000000) (by decide)
              · rw [upd_same, List.map_append]
                rfl
              · rw [eb, hr', take_snoc hc', List.map_append]
                rfl
            refine ⟨rfl, ?_⟩
            have hlow := low_cmp c
            refine ⟨_, rfl, _, _, rfl, rfl, _, rfl, ?_⟩
            refine ite2 (fun h3 => ?_) (fun h3 => ?_)
            · refine ⟨_, _, rfl, rfl, push _ ?_⟩
              rw [← hlow]
              show _ = ((!decide _) && _)
              rw [show (!decide ((Str.mk #[c]).cps.toList < (Str.mk #[97]).cps.toList)) = true from h3]
              rfl
            · refine push _ ?_
              rw [← hlow]
              rw [show (!decide ((Str.mk #[c]).cps.toList < (Str.mk #[97]).cps.toList)) = false from Bool.eq_false_iff.mpr h3]
              rfl
          · rintro H1 ⟨sm, bs, eL, eb⟩
            refine ⟨L, bs, rfl, SqL.of eL, ?_⟩
            have hb : bs.all id = (tl z).all isLow := by
              rw [eb, show z.cps.size = (tl z).length from Array.length_toList.symm, List.take_length, List.all_map]
              rfl
            have := key _ H1 sm hb
            have g1 : decide (1 ≤ z.length) = true := by
              have := of_decide_eq_true h1
              exact decide_eq_true (by omega)
            have g2 : decide (z.length ≤ 8) = true := by
              have := of_decide_eq_true h2
              exact decide_eq_true (by omega)
            rw [g1, g2] at this
            exact this
        · have g2 : decide (z.length ≤ 8) = false := by
            refine decide_eq_false fun g => h2 (decide_eq_true ?_)
            omega
          have e : isNameT (.str z) = false := by
            show (decide (1 ≤ z.length) && decide (z.length ≤ 8) && (tl z).all isLow) = false
            rw [g2, Bool.and_false, Bool.false_and]
          have := q H (Same.refl H)
          rw [e] at this
          exact this
      · have g1 : decide (1 ≤ z.length) = false := by
          refine decide_eq_false fun g => h1 (decide_eq_true ?_)
          omega
        have e : isNameT (.str z) = false := by
          show (decide (1 ≤ z.length) && decide (z.length ≤ 8) && (tl z).all isLow) = false
          rw [g1, Bool.false_and, Bool.false_and]
        have := q H (Same.refl H)
        rw [e] at this
        exact ⟨_, rfl, iteF this⟩
theorem ok_is_log (D : Df K mg "is_log" s_is_log ["thing"]) (B : Bn mg) (ON : Ok P w K mg base 1 "is_name" ["value"] spIsName) : Ok P w K mg base 2 "is_log" ["thing"] spIsLog := by
  refine D.ok sc_is_log (fun vs H Q E h => ?_) (fun f cdv A outer s H vs Q E hr h => ?_)
  · obtain ⟨_, _, _, rfl, _⟩ := h
    rfl
  · obtain ⟨v, n, t, rfl, i1, hsz, q⟩ := h
    have nd := sc_is_log.nd
    refine ⟨_, pss_one (ps_ret (pe_and (pe_isQ B.isinstance (pa_cons (pv 0) (pa_cons (pe_ty (n := "tuple") B.tuple) pa_nil))) (pe_one (pe_callB (cr_all rfl) (by rfl) B.all (by decide +kernel) (pa_cons
        (pe_lc (own := [("event", 1)]) (g := gName 1) (by rfl) nd (pi_seq (pv 0)) (blkOk_by (N := ["thing", "event"]) (sc := defScope s_is_log) (by decide +kernel))
          (fun _ _ _ _ _ => pg_name (i := 1) nd rfl (.inl rfl)) (fun _ _ _ _ _ => pts_nil) (fun _ _ _ _ _ => pe_c ON hr (pa_cons (pv 1) pa_nil))) pa_nil))))), ?_⟩
    cases t with
    | non =>
      have e := i1.non_eq
      subst e
      exact ⟨_, rfl, _, "tuple", "NoneType", false, rfl, .base .non, (by decide +kernel), _, rfl, iteF (q _ (Same.refl H))⟩
    | bl b =>
      have e := i1.bl_eq
      subst e
      exact ⟨_, rfl, _, "tuple", "bool", false, rfl, .base (.bl _), (by decide +kernel), _, rfl, iteF (q _ (Same.refl H))⟩
    | int i =>
      have e := i1.int_eq
      subst e
      exact ⟨_, rfl, _, "tuple", "int", false, rfl, .base (.int _), (by decide +kernel), _, rfl, iteF (q _ (Same.refl H))⟩
    | str z =>
      have e := i1.str_eq
      subst e
      exact ⟨_, rfl, _, "tuple", "str", false, rfl, .base (.str _), (by decide +kernel), _, rfl, iteF (q _ (Same.refl H))⟩
    | sq t ts =>
      obtain ⟨m, a1, xs, en, e1, ⟨h1, _⟩, l1, p1⟩ := i1.sq_eq
      subst e1
      cases t with
      | true => exact ⟨_, rfl, _, "tuple", "list", false, rfl, h1.ty, (by decide +kernel), _, rfl, iteF (q _ (Same.refl H))⟩
      | false =>
        refine ⟨_, rfl, _, "tuple", "tuple", true, rfl, h1.ty, (by decide +kernel), _, rfl, iteT ?_⟩
        refine ⟨_, rfl, false, a1, rfl, ⟨xs, h1.B⟩, fun L nL => ?_⟩
        refine lc_mf (K := K) ts (fun z => some (isNameT z)) (fun _ (b : Bool) v => v = .bl b) nL h1 l1 (paired_len p1) (fun _ _ _ _ _ r => r) (fun _ _ _ _ _ _ _ r => r) ?_ ?_
        · intro i z x H1 C C0 hz hx sm _ yes no
          refine ⟨rfl, _, rfl, x, m, z, rfl, (paired_both p1 hz hx).same sm, fun z' e => hsz _ _ z' rfl (by rw [← e]; exact List.mem_of_getElem? hz), fun H2 s2 => yes _ _ _ s2 rfl rfl⟩
        · intro H1 ys sm eL pr1 hyl
          have em : ts.filterMap (fun z => some (isNameT z)) = ts.map isNameT := by
            rw [show (fun z => some (isNameT z)) = some ∘ isNameT from rfl, List.filterMap_eq_map]
          rw [em] at pr1
          have ey : ys = (ts.map isNameT).map V.bl := by
            clear eL hyl em
            generalize ts.map isNameT = bs at pr1
            induction pr1 with
            | nil => rfl
            | cons r t ih => rw [List.map_cons, r, ih]
          rw [ey] at eL
          refine ⟨L, ts.map isNameT, rfl, SqL.of eL, ?_⟩
          rw [List.all_map]
          exact q _ sm
end
end K13
namespace LwB
open PySem PySem.Spec PyProof.Rows L2 IqX RvT EnS TL NsT
variable [LwB.KC]
/-! ### ways and parts -/
theorem cnt_pos : ∀ (es ws : List Str), 0 < LwB.cnt ws es ↔ isPart ws es = true
  | [], [] => ⟨fun _ => isPart_nil _, fun _ => by rw [LwB.cnt_nil]; decide⟩
  | [], w :: ws => ⟨fun h => absurd h (Nat.lt_irrefl _), fun h => by simp [isPart] at h⟩
  | e :: es, [] => ⟨fun _ => isPart_nil _, fun _ => by rw [LwB.cnt_nil]; decide⟩
  | e :: es, w :: ws => by
    have h1 := cnt_pos es ws
    have h2 := cnt_pos es (w :: ws)
    rw [LwB.cnt_cons]
    by_cases h : e = w
    · rw [if_pos h]
      have hp : isPart (w :: ws) (e :: es) = isPart ws es := by
        show (if e = w then isPart ws es else isPart (w :: ws) es) = _
        rw [if_pos h]
      rw [hp, ← h1]
      constructor
      · intro h3
        rcases Nat.eq_zero_or_pos (LwB.cnt ws es) with z | z
        · have h4 : 0 < LwB.cnt (w :: ws) es := by omega
          have h5 := (isPart_iff es (w :: ws)).mp (h2.mp h4)
          exact h1.mpr ((isPart_iff es ws).mpr ((List.sublist_cons_self w ws).trans h5))
        · exact z
      · intro h3
        omega
    · rw [if_neg h]
      have hp : isPart (w :: ws) (e :: es) = isPart (w :: ws) es := by
        show (if e = w then isPart ws es else isPart (w :: ws) es) = _
        rw [if_neg h]
      rw [hp, ← h2]
      omega
theorem cnt_le : ∀ (es ws : List Str), LwB.cnt ws es ≤ 2 ^ es.length
  | [], [] => by rw [LwB.cnt_nil]; decide
  | [], w :: ws => Nat.zero_le _
  | e :: es, [] => by
    rw [LwB.cnt_nil]
    exact Nat.one_le_two_pow
  | e :: es, w :: ws => by
    have h1 := cnt_le es ws
    have h2 := cnt_le es (w :: ws)
    rw [LwB.cnt_cons, List.length_cons, Nat.pow_succ]
    split <;> omega
theorem early_full (ws es : List Str) : (early ws es 0).length = ws.length ↔ isPart ws es = true := by
  rw [isPart_mt]
  unfold mt
  rw [decide_eq_true_eq]
/-! ### the first place -/
theorem early_at {w : Str} {ws : List Str} : ∀ {es : List Str} {j k : Nat}, es[j]? = some w → (∀ (m : Nat) (z : Str), m < j → es[m]? = some z → z ≠ w) → early (w :: ws) es k = (k + j) :: early ws (es.drop (j + 1)) (k + j + 1)
  | [], _, _, h, _ => by simp at h
  | e :: es, 0, k, h, _ => by
    have : e = w := Option.some.inj h
    rw [early_hit this]
    rfl
  | e :: es, j + 1, k, h, hm => by
    have hne : e ≠ w := hm 0 e (Nat.succ_pos _) rfl
    rw [early_miss hne, early_at (es := es) (j := j) (k := k + 1) h fun m z h1 h2 => hm (m + 1) z (Nat.succ_lt_succ h1) h2]
    rw [show k + 1 + j = k + (j + 1) by omega]
    rfl
theorem early_no {w : Str} {ws : List Str} : ∀ {es : List Str} {k : Nat}, (∀ (m : Nat) (z : Str), es[m]? = some z → z ≠ w) → early (w :: ws) es k = []
  | [], k, _ => by rw [early_end]
  | e :: es, k, hm => by
    have hne : e ≠ w := hm 0 e rfl
    rw [early_miss hne]
    exact early_no fun m z h => hm (m + 1) z h
/-! ### all choices of places -/
/-- the places of w from f on -/
def hits (es : List Str) (w : Str) (f : Nat) : List Nat := (List.range' f (es.length - f)).filter fun k => decide (es[k]? = some w)
def ext (es : List Str) (w : Str) (q : List Nat × Nat) : List (List Nat × Nat) := (hits es w q.2).map fun k => (q.1 ++ [k], k + 1)
def stepL (es : List Str) (F : List (List Nat × Nat)) (w : Str) : List (List Nat × Nat) := (F.map (ext es w)).flatten
def ch (es ws : List Str) : List (List Nat × Nat) := ws.foldl (stepL es) [([], 0)]
theorem hits_mem {es : List Str} {w : Str} {f k : Nat} : k ∈ hits es w f ↔ f ≤ k ∧ es[k]? = some w := by
  unfold hits
  rw [List.mem_filter, List.mem_range'_1, decide_eq_true_eq]
  constructor
  · rintro ⟨⟨h1, h2⟩, h3⟩
    exact ⟨h1, h3⟩
  · rintro ⟨h1, h3⟩
    have := (List.getElem?_eq_some_iff.mp h3).1
    exact ⟨⟨h1, by omega⟩, h3⟩
theorem hits_step {es : List Str} {w e : Str} {f : Nat} (h : es[f]? = some e) : hits es w f = if e = w then f :: hits es w (f + 1) else hits es w (f + 1) := by
  have hl := (List.getElem?_eq_some_iff.mp h).1
  unfold hits
  rw [show es.length - f = (es.length - (f + 1)) + 1 by omega, List.range'_succ]
  by_cases he : e = w
  · rw [if_pos he, List.filter_cons_of_pos (by rw [h, he]; exact decide_eq_true rfl)]
  · rw [if_neg he, List.filter_cons_of_neg (by
      rw [h]
      intro q
      exact he (Option.some.inj (of_decide_eq_true q)))]
theorem hits_end {es : List Str} {w : Str} {f : Nat} (h : es.length ≤ f) : hits es w f = [] := by
  unfold hits
  rw [show es.length - f = 0 by omega]
  rfl
/-- how many there will be -/
def tot (es : List Str) (F : List (List Nat × Nat)) (ws : List Str) : Nat := (F.map fun q => LwB.cnt ws (es.drop q.2)).sum
theorem hits_cnt {es : List Str} {w : Str} {ws : List Str} : ∀ (d f : Nat), es.length - f = d → ((hits es w f).map fun k => LwB.cnt ws (es.drop (k + 1))).sum = LwB.cnt (w :: ws) (es.drop f)
  | 0, f, h => by
    rw [hits_end (by omega), List.drop_eq_nil_of_le (by omega)]
    rfl
  | d + 1, f, h => by
    have hl : f < es.length := by omega
    have hf : es[f]? = some es[f] := List.getElem?_eq_getElem hl
    have ih := hits_cnt (es := es) (w := w) (ws := ws) d (f + 1) (by omega)
    rw [hits_step hf, drop_at hf, LwB.cnt_cons]
    by_cases he : es[f] = w
    · rw [if_pos he, if_pos he, List.map_cons, List.sum_cons, ih]
    · rw [if_neg he, if_neg he, ih, Nat.zero_add]
theorem tot_step (es : List Str) (w : Str) (ws : List Str) : ∀ F : List (List Nat × Nat), tot es (stepL es F w) ws = tot es F (w :: ws)
  | [] => rfl
  | q :: F => by
    have ih := tot_step es w ws F
    unfold tot stepL at ih ⊢
    rw [List.map_cons, List.flatten_cons, List.map_append, List.sum_append, ih, List.map_cons, List.sum_cons]
    congr 1
    unfold ext
    rw [List.map_map]
    exact hits_cnt _ q.2 rfl
theorem tot_fold (es : List Str) : ∀ (ws : List Str) (F : List (List Nat × Nat)), tot es (ws.foldl (stepL es) F) [] = tot es F ws
  | [], F => rfl
  | w :: ws, F => by
    rw [List.foldl_cons, tot_fold es ws, tot_step]
theorem ch_len (es ws : List Str) : (ch es ws).length = LwB.cnt ws es := by
  have h := tot_fold es ws [([], 0)]
  have h1 : ∀ F : List (List Nat × Nat), tot es F [] = F.length := fun F => by
    unfold tot
    induction F with
    | nil => rfl
    | cons q F ih => rw [List.map_cons, List.sum_cons, ih, LwB.cnt_nil, List.length_cons]; omega
  rw [h1] at h
  unfold ch
  rw [h]
  unfold tot
  show LwB.cnt ws (es.drop 0) + 0 = _
  rw [List.drop_zero]
  rfl
/-- the first choice is the one taken as early as can be -/
def Hd (es ws : List Str) (done : Nat) (F : List (List Nat × Nat)) : Prop :=
  (F = [] ∧ (early ws es 0).length < ws.length) ∨ ∃ acc f rest, F = (acc, f) :: rest ∧ acc.length = done ∧ early ws es 0 = acc ++ early (ws.drop done) (es.drop f) f ∧ ∀ q ∈ rest, f ≤ q.2 ∧ Paired (fun a b : Nat => a ≤ b) acc q.1
theorem hits_head {es : List Str} {w : Str} {f : Nat} : (hits es w f = [] ∧ ∀ (m : Nat) (z : Str), (es.drop f)[m]? = some z → z ≠ w) ∨ ∃ k r, hits es w f = k :: r ∧ f ≤ k ∧ (es.drop f)[k - f]? = some w ∧ (∀ (m : Nat) (z : Str), m < k - f → (es.drop f)[m]? = some z → z ≠ w) ∧ (∀ x ∈ r, k ≤ x) ∧ ∀ x, f ≤ x → es[x]? = some w → k ≤ x := by
  have key : ∀ (d f : Nat), es.length - f = d → (hits es w f = [] ∧ ∀ x, f ≤ x → es[x]? ≠ some w) ∨ ∃ k r, hits es w f = k :: r ∧ f ≤ k ∧ es[k]? = some w ∧ (∀ x ∈ r, k ≤ x) ∧ ∀ x, f ≤ x → es[x]? = some w → k ≤ x := by
    intro d
    induction d with
    | zero =>
      intro f h
      refine .inl ⟨hits_end (by omega), fun x hx e => ?_⟩
      have := (List.getElem?_eq_some_iff.mp e).1
      omega
    | succ d ih =>
      intro f h
      have hl : f < es.length := by omega
      have hf : es[f]? = some es[f] := List.getElem?_eq_getElem hl
      rw [hits_step hf]
      by_cases he : es[f] = w
      · rw [if_pos he]
        refine .inr ⟨f, _, rfl, Nat.le_refl _, by rw [hf, he], fun x hx => ?_, fun x hx _ => hx⟩
        have := (hits_mem.mp hx).1
        omega
      · rw [if_neg he]
        have skip : ∀ x, f ≤ x → es[x]? = some w → f + 1 ≤ x := fun x hx e => by
          rcases Nat.lt_or_ge f x with z | z
          · exact z
          · have : x = f := by omega
            subst this
            rw [hf] at e
            exact absurd (Option.some.inj e) he
        rcases ih (f + 1) (by omega) with ⟨h1, h2⟩ | ⟨k, r, h1, h2, h3, h4, h5⟩
        · exact .inl ⟨h1, fun x hx e => h2 x (skip x hx e) e⟩
        · exact .inr ⟨k, r, h1, by omega, h3, h4, fun x hx e => h5 x (skip x hx e) e⟩
  rcases key _ f rfl with ⟨h1, h2⟩ | ⟨k, r, h1, h2, h3, h4, h5⟩
  · refine .inl ⟨h1, fun m z hz e => ?_⟩
    rw [List.getElem?_drop] at hz
    exact h2 (f + m) (by omega) (by rw [hz, e])
  · refine .inr ⟨k, r, h1, h2, ?_, fun m z hm hz e => ?_, h4, h5⟩
    · rw [List.getElem?_drop, show f + (k - f) = k by omega]
      exact h3
    · rw [List.getElem?_drop] at hz
      have := h5 (f + m) (by omega) (by rw [hz, e])
      omega
theorem Hd.step {es ws : List Str} {done : Nat} {w : Str} {F : List (List Nat × Nat)} (h : Hd es ws done F) (hw : ws[done]? = some w) : Hd es ws (done + 1) (stepL es F w) := by
  rcases h with ⟨rfl, h⟩ | ⟨acc, f, rest, rfl, h1, h2, h3⟩
  · exact .inl ⟨rfl, h⟩
  · have hlt := (List.getElem?_eq_some_iff.mp hw).1
    rw [drop_at hw] at h2
    rcases hits_head (es := es) (w := w) (f := f) with ⟨g1, g2⟩ | ⟨k, r, g1, g2, g3, g4, g5, g6⟩
    · left
      constructor
      · unfold stepL
        rw [List.flatten_eq_nil_iff]
        intro l hl
        obtain ⟨q, hq, rfl⟩ := List.mem_map.mp hl
        have hqf : f ≤ q.2 := by
          rcases List.mem_cons.mp hq with rfl | hq
          · exact Nat.le_refl _
          · exact (h3 q hq).1
        unfold ext
        have : hits es w q.2 = [] := by
          cases e : hits es w q.2 with
          | nil => rfl
          | cons x l =>
            have hx : x ∈ hits es w q.2 := by rw [e]; exact .head _
            obtain ⟨a1, a2⟩ := hits_mem.mp hx
            exact absurd rfl (g2 (x - f) w (by rw [List.getElem?_drop, show f + (x - f) = x by omega]; exact a2))
        rw [this]
        rfl
      · rw [h2, early_no g2, List.append_nil, h1]
        exact hlt
    · right
      refine ⟨acc ++ [k], k + 1, r.map (fun k => (acc ++ [k], k + 1)) ++ (rest.map (ext es w)).flatten, ?_, by rw [List.length_append, h1]; rfl, ?_, ?_⟩
      · unfold stepL
        rw [List.map_cons, List.flatten_cons]
        unfold ext
        dsimp only
        rw [g1]
        rfl
      · rw [h2, early_at g3 g4, show f + (k - f) = k by omega, List.drop_drop, show f + (k - f + 1) = k + 1 by omega, List.append_assoc]
        rfl
      · intro q hq
        have same : ∀ (l : List Nat), Paired (fun a b : Nat => a ≤ b) l l := fun l => by
          induction l with
          | nil => exact .nil
          | cons x l ih => exact .cons (Nat.le_refl _) ih
        rcases List.mem_append.mp hq with hq | hq
        · obtain ⟨x, hx, rfl⟩ := List.mem_map.mp hq
          have := g5 x hx
          exact ⟨by show k + 1 ≤ x + 1; omega, paired_append (same acc) (.cons this .nil)⟩
        · obtain ⟨l, hl, hq⟩ := List.mem_flatten.mp hq
          obtain ⟨p, hp, rfl⟩ := List.mem_map.mp hl
          unfold ext at hq
          obtain ⟨x, hx, rfl⟩ := List.mem_map.mp hq
          obtain ⟨a1, a2⟩ := hits_mem.mp hx
          obtain ⟨b1, b2⟩ := h3 p hp
          have := g6 x (by omega) a2
          exact ⟨by show k + 1 ≤ x + 1; omega, paired_append b2 (.cons this .nil)⟩
theorem ch_head (es ws : List Str) : Hd es ws ws.length (ch es ws) := by
  have key : ∀ (d i : Nat) (F : List (List Nat × Nat)), ws.length - i = d → i ≤ ws.length → Hd es ws i F → Hd es ws ws.length ((ws.drop i).foldl (stepL es) F) := by
    intro d
    induction d with
    | zero =>
      intro i F h hi hF
      have : i = ws.length := by omega
      subst this
      rw [List.drop_length]
      exact hF
    | succ d ih =>
      intro i F h hi hF
      have hl : i < ws.length := by omega
      have hw : ws[i]? = some ws[i] := List.getElem?_eq_getElem hl
      rw [drop_at hw, List.foldl_cons]
      exact ih (i + 1) _ (by omega) hl (hF.step hw)
  have := key _ 0 [([], 0)] rfl (Nat.zero_le _) (.inr ⟨[], 0, [], rfl, rfl, by rw [List.drop_zero, List.drop_zero]; rfl, fun q h => nomatch h⟩)
  rw [List.drop_zero] at this
  exact this
/-! ### the least of tuples of numbers -/
def natD (ns : List Nat) : PyData := .tuple ((ns.map fun n : Nat => (n : Int)).map .int)
theorem not_less : ∀ {a b : List Nat}, Paired (fun x y : Nat => x ≤ y) a b → ¬ ((b.map fun n : Nat => (n : Int)) < (a.map fun n : Nat => (n : Int)))
  | _, _, .nil, h => by cases h
  | x :: a, y :: b, .cons r t, h => by
    cases h with
    | rel h =>
      have h' : (y : Int) < (x : Int) := h
      omega
    | cons h => exact not_less t h
theorem natD_lt {a b : List Nat} (p : Paired (fun x y : Nat => x ≤ y) a b) : PySem.W.dataLt (natD b) (natD a) = false := by
  unfold natD
  rw [PySem.W.dataLt_tuple]
  show PySem.W.rowLt _ _ = false
  rw [PySem.W.dataLt_ints]
  exact decide_eq_false (not_less p)
theorem alike_nat (a b : List Nat) : PySem.W.alike (natD a) (natD b) = true := by
  unfold natD
  simp only [PySem.W.alike]
  generalize (a.map fun n : Nat => (n : Int)) = as
  generalize (b.map fun n : Nat => (n : Int)) = bs
  induction as generalizing bs with
  | nil => cases bs <;> simp [PySem.W.alikeAll]
  | cons x as ih =>
    cases bs with
    | nil => simp [PySem.W.alikeAll]
    | cons y bs => simp [PySem.W.alikeAll, PySem.W.alike, ih bs]
theorem minD_head {x : List Nat} : ∀ {xs : List (List Nat)}, (∀ y ∈ xs, Paired (fun a b : Nat => a ≤ b) x y) → PySem.W.minD (natD x) (xs.map natD) = natD x
  | [], _ => rfl
  | y :: xs, h => by
    unfold PySem.W.minD
    rw [List.map_cons, List.foldl_cons, natD_lt (h y List.mem_cons_self)]
    simp only [Bool.false_eq_true, if_false]
    exact minD_head fun z hz => h z (List.mem_cons_of_mem _ hz)
theorem natD_inj {a b : List Nat} (h : natD a = natD b) : a = b := by
  injection h with h
  have h2 : (a.map fun n : Nat => (n : Int)) = b.map fun n : Nat => (n : Int) := by
    generalize (a.map fun n : Nat => (n : Int)) = as at h
    generalize (b.map fun n : Nat => (n : Int)) = bs at h
    induction as generalizing bs with
    | nil => cases bs with
      | nil => rfl
      | cons y bs => cases h
    | cons x as ih => cases bs with
      | nil => cases h
      | cons y bs =>
        rw [List.map_cons, List.map_cons] at h
        injection h with h1 h3
        injection h1 with h1
        rw [h1, ih bs h3]
  clear h
  induction a generalizing b with
  | nil => cases b with
    | nil => rfl
    | cons y b => cases h2
  | cons x a ih => cases b with
    | nil => cases h2
    | cons y b =>
      rw [List.map_cons, List.map_cons] at h2
      injection h2 with h1 h3
      have h1' : (x : Int) = (y : Int) := h1
      rw [ih h3, show x = y by omega]
theorem depth_nat (a : List Nat) : (natD a).depth ≤ 1 := by
  unfold natD
  simp only [PyData.depth]
  generalize (a.map fun n : Nat => (n : Int)) = as
  have : PyData.depthAll (as.map PyData.int) = 0 := by
    induction as with
    | nil => simp [PyData.depthAll]
    | cons x as ih => simp [PyData.depthAll, PyData.depth, ih]
  omega
def NatAt (H : Hp) (ns : List Nat) (v : V) : Prop := ∃ p, v = .ref p ∧ Sq false H p (nats ns) ∧ ns.length ≤ 1000000
theorem NatAt.same {H H' : Hp} {w : List Nat} {v : V} (s : Same H H') (h : NatAt H w v) : NatAt H' w v := by
  obtain ⟨p, e, hp, l⟩ := h
  exact ⟨p, e, s.sq hp, l⟩
theorem NatAt.put {H : Hp} {D : Addr} {w : List Nat} {v : V} {ys : List V} {o : HO} (h : NatAt H w v) (e : H D = some (.lst ys)) : NatAt (L2.upd H D o) w v := by
  obtain ⟨p, e', hp, l⟩ := h
  exact ⟨p, e', Sq.put_list hp e, l⟩
theorem NatAt.is {H : Hp} {n : Nat} {w : List Nat} {v : V} (h : NatAt H w v) : Is H (n + 1) (natT w) v := by
  obtain ⟨p, rfl, hp, l⟩ := h
  exact Is.of_nats (.tup hp) l
section
variable {X : Cx} {pins : List (Addr × Obj)} {σ : L2.St} {H : Hp} {s : Shared}
theorem NatAt.raw (I : Inv X pins σ H s) {ns : List Nat} {v : V} {u : Value} (h : NatAt H ns v) (r : RelV v u) : Reads s.heap u (natD ns) [] := by
  obtain ⟨p, rfl, hp, _⟩ := h
  cases r
  obtain ⟨its, rv, ⟨o, ho, hc, n, hd⟩, _⟩ := I.tuple hp.T
  refine .tuple ho hc hd ?_
  have key : ∀ {ns : List Nat} {us : List Value}, Vals (nats ns) us → ReadsAll s.heap us ((ns.map fun n : Nat => (n : Int)).map .int) [] := by
    intro ns
    induction ns with
    | nil => intro us r; cases r; exact .nil
    | cons n ns ih =>
      intro us r
      cases r with
      | cons r1 r2 =>
        obtain ⟨tk, rfl⟩ := r1
        exact .cons (.int _ _) (ih r2)
  simpa using key rv
/-- min(xs): the first is the least -/
def rMinT : List V → Hp → VK → Prop := fun vs H Q => ∃ (a : Addr) (xs : List V) (n : List Nat) (ns : List (List Nat)), vs = [.ref a] ∧ Sq true H a xs ∧ Paired (NatAt H) (n :: ns) xs ∧ (∀ m ∈ ns, Paired (fun a b : Nat => a ≤ b) n m) ∧ ∀ v, NatAt H n v → Q v H
theorem cr_minT (hc : X.calm = true) (hu : X.A.units + 64 < cLine) : CallR X (.builtin "min") rMinT := by
  intro pins s σ H vs us Q I r h
  obtain ⟨a, xs, n, ns, rfl, hs, hp, hle, q⟩ := h
  rw [Vals.ref1 r]
  obtain ⟨its, rv, pl, hz⟩ := I.list hs.L
  have reads : ∀ {ms : List (List Nat)} {ys : List V} {us : List Value}, Paired (NatAt H) ms ys → Vals ys us → ReadsAll s.heap us (ms.map natD) [] := by
    intro ms ys us p
    induction p generalizing us with
    | nil => intro r; cases r; exact .nil
    | cons h _ ih =>
      intro r
      cases r with
      | cons r1 r2 => exact .cons (h.raw I r1) (ih r2)
  have hr := reads hp rv
  have hd : ∀ ms : List (List Nat), PyData.depthAll (ms.map natD) ≤ 1 := fun ms => by
    induction ms with
    | nil => simp [PyData.depthAll]
    | cons m ms ih =>
      have := depth_nat m
      simp only [List.map_cons, PyData.depthAll]
      omega
  have hdn := hd (n :: ns)
  refine PySem.W.min_list_data (I.ok.hd hc) pl.isList (x := natD n) (xs := ns.map natD) (as := []) (by simpa using hr) ⟨?_, ?_⟩ ?_ fun i v h' tk bs hv rd kp => ?_
  · intro x hx y hy
    obtain ⟨a1, _, rfl⟩ := List.mem_map.mp (show x ∈ (n :: ns).map natD from hx)
    obtain ⟨a2, _, rfl⟩ := List.mem_map.mp (show y ∈ (n :: ns).map natD from hy)
    exact alike_nat a1 a2
  · intro x hx e
    obtain ⟨a1, _, rfl⟩ := List.mem_map.mp (show x ∈ (n :: ns).map natD from hx)
    cases e
  · rw [show natD n :: ns.map natD = (n :: ns).map natD from rfl]
    omega
  · rw [minD_head hle] at rd
    have hv' : its[i]? = some v := by simpa using hv
    have hil := (List.getElem?_eq_some_iff.mp hv').1
    have hxl : i < xs.length := by rw [rv.length]; exact hil
    have hx : xs[i]? = some xs[i] := List.getElem?_eq_getElem hxl
    obtain ⟨m, hm, rm⟩ := paired_get hp hx
    obtain ⟨v', hv2, rel⟩ := paired_at rv hx
    rw [hv'] at hv2
    cases hv2
    have rm2 := PyProof.Rows.Reads.keeps kp (rm.raw I rel)
    have e : natD m = natD n := SeqAt.Reads.unique _ _ _ _ _ (by
      unfold natD
      simp only [PyData.canLay0]
      generalize (m.map fun n : Nat => (n : Int)) = as
      induction as with
      | nil => simp [PyData.canLayAll0]
      | cons x as ih => simp [PyData.canLayAll0, PyData.canLay0, ih]) rm2 rd
    have em := natD_inj e
    subst em
    exact ⟨xs[i], H, I.kept (t' := tk) kp, rel, q _ rm⟩
end
def spCounted : Sp := fun vs H Q _ => ∃ (a c : Addr) (ws es : List Str), vs = [.ref a, .ref c] ∧ Sq false H a (ws.map V.str) ∧ Sq false H c (es.map V.str) ∧ ws.length ≤ 1000 ∧ ∀ H', Same H H' → Q (.int (LwB.cnt ws es : Nat)) H'
def spLeastS : Sp := fun vs H Q _ => ∃ (a c : Addr) (ws es : List Str), vs = [.ref a, .ref c] ∧ Sq false H a (ws.map V.str) ∧ Sq false H c (es.map V.str) ∧ ws.length ≤ 1000 ∧ es.length ≤ 1000 ∧ ∀ H' v, Same H H' → Is H' 1 (placesT ws es) v → Q v H'
def spChoices : Sp := fun vs H Q _ => ∃ (a c : Addr) (ws es : List Str), vs = [.ref a, .ref c] ∧ Sq false H a (ws.map V.str) ∧ Sq false H c (es.map V.str) ∧ ws.length ≤ 1000 ∧ es.length ≤ 8 ∧ ∀ H' p ys, Same H H' → H p = none → H' p = some (.lst ys) → Paired (NatAt H') ((ch es ws).map (·.1)) ys → Q (.ref p) H'
def PairN (H : Hp) (q : List Nat × Nat) (v : V) : Prop := ∃ p x, v = .ref p ∧ Sq false H p [x, .int q.2] ∧ NatAt H q.1 x
theorem PairN.same {H H' : Hp} {w : List Nat × Nat} {v : V} (s : Same H H') (h : PairN H w v) : PairN H' w v := by
  obtain ⟨p, x, e, hp, r⟩ := h
  exact ⟨p, x, e, s.sq hp, r.same s⟩
theorem PairN.put {H : Hp} {D : Addr} {w : List Nat × Nat} {v : V} {ys : List V} {o : HO} (h : PairN H w v) (e : H D = some (.lst ys)) : PairN (L2.upd H D o) w v := by
  obtain ⟨p, x, e', hp, r⟩ := h
  exact ⟨p, x, e', Sq.put_list hp e, r.put e⟩
theorem ch_snoc (es l : List Str) (u : Str) : ch es (l ++ [u]) = stepL es (ch es l) u := by
  unfold ch
  rw [List.foldl_append]
  rfl
theorem ch_small {es ws : List Str} (h : es.length ≤ 8) : (ch es ws).length ≤ 256 := by
  rw [ch_len]
  refine Nat.le_trans (cnt_le es ws) ?_
  exact Nat.pow_le_pow_right (by decide) h
def Fine (es : List Str) (i : Nat) (q : List Nat × Nat) : Prop := q.2 ≤ es.length ∧ q.1.length = i
theorem fine_step {es : List Str} {i : Nat} {u : Str} {F : List (List Nat × Nat)} (h : ∀ q ∈ F, Fine es i q) : ∀ q ∈ stepL es F u, Fine es (i + 1) q := by
  intro q hq
  unfold stepL at hq
  obtain ⟨l, hl, hq⟩ := List.mem_flatten.mp hq
  obtain ⟨p, hp, rfl⟩ := List.mem_map.mp hl
  unfold ext at hq
  obtain ⟨x, hx, rfl⟩ := List.mem_map.mp hq
  obtain ⟨a1, a2⟩ := hits_mem.mp hx
  have := (List.getElem?_eq_some_iff.mp a2).1
  refine ⟨by show x + 1 ≤ es.length; omega, ?_⟩
  show (p.1 ++ [x]).length = i + 1
  rw [List.length_append, (h p hp).2]
  rfl
theorem flat_take {es : List Str} {u : Str} (F : List (List Nat × Nat)) (j : Nat) : (((F.take j).map (ext es u)).flatten).length ≤ (stepL es F u).length := by
  have e : F = F.take j ++ F.drop j := (List.take_append_drop j F).symm
  unfold stepL
  conv => rhs; rw [e]
  rw [List.map_append, List.flatten_append, List.length_append]
  omega
end LwB
namespace LwB
open PySem PySem.Spec PyProof.Rows L2 IqX RvT EnS TL NsT
variable [LwB.KC]
/-! ### defs that go straight, every value known -/
/-- a test whose answer is known -/
def tKn (N : Nat) (env : List (Nat × Tr)) (b : Bool) : TT := fun σ H Q => ∃ W, Vw W H ∧ Ev N env σ W ∧ ∀ H', Same H H' → Q b H'
/-- what is left of the def ends with True -/
def tSt (N : Nat) (env : List (Nat × Tr)) : TS := fun D σ H => ∃ W, Vw W H ∧ Ev N env σ W ∧ ∀ H', Same H H' → D.rt (.bl true) H'
/-- the same beside a list of its own that is to grow -/
def tSo (N : Nat) (env : List (Nat × Tr)) (i : Nat) (ts : List Tr) : TS := fun D σ H => ∃ W H0 g vs, Vw W H ∧ Ev N env σ W ∧ σ[i]? = some (some (.ref g)) ∧ W g = none ∧ H g = some (.lst vs) ∧ vs.length ≤ 1000000 ∧ Paired (It W) ts vs ∧ Same H0 H ∧ H0 g = none ∧ ∀ H', Same H0 H' → D.rt (.bl true) H'
theorem It.non_eq {H : Hp} {v : V} (h : It H .non v) : v = .non := by
  obtain ⟨n, h⟩ := h
  exact h.non_eq
theorem It.int_eq {H : Hp} {i : Int} {v : V} (h : It H (.int i) v) : v = .int i := by
  obtain ⟨n, h⟩ := h
  exact h.int_eq
theorem It.str_eq {H : Hp} {z : Str} {v : V} (h : It H (.str z) v) : v = .str z := by
  obtain ⟨n, h⟩ := h
  exact h.str_eq
def isNonT : Tr → Bool
  | .non => true
  | _ => false
theorem dec_non {H : Hp} {T : Tr} {v : V} (h : It H T v) : decide (v = V.non) = isNonT T := by
  cases T with
  | non => rw [h.non_eq]; rfl
  | bl b => rw [h.bl_eq]; rfl
  | int i => rw [h.int_eq]; rfl
  | str z => rw [h.str_eq]; rfl
  | sq t ts =>
    obtain ⟨a, xs, e, _⟩ := h.sq_inv
    rw [e]
    rfl
section
variable {X : Cx} {N : Nat} {env : List (Nat × Tr)}
theorem le_cmp {op : CmpOp} {r : R2} {a b : Expr} {T1 T2 : Tr} {c : Bool} {pos : Pos} (ho : OpR X (compareOp op) r) (h1 : PE X a (tLe N env T1)) (h2 : PE X b (tLe N env T2)) (hr : ∀ H x y (Q : VK), It H T1 x → It H T2 y → Q (.bl c) H → r x y H Q) (hm : behindInMarks op b = false) :
    PE X (.Compare a [op] [b] pos) (tLe N env (.bl c)) :=
  PE.imp (pe_cmpR ho h1 h2 hm) fun σ H Q ⟨W, x, ev, q⟩ => ⟨W, x, ev, fun H1 v s1 i1 => ⟨vw W H H1, x.next s1, ev.mv (vw_keep x), fun H2 u s2 i2 => by
    rw [vw_trans s1 s2] at i2
    have xn := x.next (s1.trans s2)
    exact hr H2 v u Q ((i1.mv (vw_mono s2)).mv xn.sub) (i2.mv xn.sub) (q H2 _ (s1.trans s2) ⟨0, .bl⟩)⟩⟩
theorem kn_cmp {op : CmpOp} {r : R2} {a b : Expr} {T1 T2 : Tr} {c : Bool} {pos : Pos} (ho : OpR X (compareOp op) r) (h1 : PE X a (tLe N env T1)) (h2 : PE X b (tLe N env T2)) (hr : ∀ H x y (Q : VK), It H T1 x → It H T2 y → Q (.bl c) H → r x y H Q) (hm : behindInMarks op b = false) :
    PT X (.Compare a [op] [b] pos) (tKn N env c) := by
  refine ⟨fun pins s σ H Q I ⟨W, x, ev, q⟩ => (pt_cmpR ho h1 h2 hm).run pins s σ H Q I ?_⟩
  exact ⟨W, x, ev, fun H1 v s1 i1 => ⟨vw W H H1, x.next s1, ev.mv (vw_keep x), fun H2 u s2 i2 => by
    rw [vw_trans s1 s2] at i2
    have xn := x.next (s1.trans s2)
    exact hr H2 v u _ ((i1.mv (vw_mono s2)).mv xn.sub) (i2.mv xn.sub) ⟨c, rfl, q H2 (s1.trans s2)⟩⟩⟩
theorem kn_val {e : Expr} {b : Bool} (h : PE X e (tLe N env (.bl b))) (he : ∀ whole, isTrue e X.env whole = (do let v ← whole; standAt e.pos; holding [v] (truthy v)) := by intro _; rfl) : PT X e (tKn N env b) := by
  refine ⟨fun pins s σ H Q I ⟨W, x, ev, q⟩ => (pt_val h he).run pins s σ H Q I ⟨W, x, ev, fun H1 v s1 i1 => ⟨b, i1.bl_eq, q H1 s1⟩⟩⟩
theorem kn_eq {e : Expr} {a b : Bool} (h : PT X e (tKn N env a)) (q : a = b) : PT X e (tKn N env b) := q ▸ h
theorem kn_not {e : Expr} {b : Bool} {pos : Pos} (h : PT X e (tKn N env b)) : PT X (.UnaryOp .Not e pos) (tKn N env (!b)) :=
  ⟨fun pins s σ H Q I ⟨W, x, ev, q⟩ => (pt_not h).run pins s σ H Q I ⟨W, x, ev, fun H1 s1 => q H1 s1⟩⟩
theorem pt_when {p : Prop} {e : Expr} {t : TT} (h : p → PT X e t) : PT X e (fun σ H K => p ∧ t σ H K) := ⟨fun pins s σ H Q I ⟨hp, ht⟩ => (h hp).run pins s σ H Q I ht⟩
theorem pe_when {p : Prop} {e : Expr} {t : TE} (h : p → PE X e t) : PE X e (fun σ H K => p ∧ t σ H K) := ⟨fun pins s σ H Q I ⟨hp, ht⟩ => (h hp).run pins s σ H Q I ht⟩
theorem kn_and {a b : Expr} {p q : Bool} {pos : Pos} (ha : PT X a (tKn N env p)) (hb : p = true → PT X b (tKn N env q)) : PT X (.BoolOp .And [a, b] pos) (tKn N env (p && q)) :=
  ⟨fun pins s σ H Q I ⟨W, x, ev, k⟩ => (PW.pt (pw_and ha (pw_and1 (pt_when hb)))).run pins s σ H Q I ⟨W, x, ev, fun H1 s1 => by
    cases p with
    | true => exact iteT ⟨rfl, vw W H H1, x.next s1, ev.mv (vw_keep x), fun H2 s2 => k H2 (s1.trans s2)⟩
    | false => exact iteF (k H1 s1)⟩⟩
theorem kn_or {a b : Expr} {p q : Bool} {pos : Pos} (ha : PT X a (tKn N env p)) (hb : p = false → PT X b (tKn N env q)) : PT X (.BoolOp .Or [a, b] pos) (tKn N env (p || q)) :=
  ⟨fun pins s σ H Q I ⟨W, x, ev, k⟩ => (PW.pt (pw_or ha (pw_or1 (pt_when hb)))).run pins s σ H Q I ⟨W, x, ev, fun H1 s1 => by
    cases p with
    | true => exact iteT (k H1 s1)
    | false => exact iteF ⟨rfl, vw W H H1, x.next s1, ev.mv (vw_keep x), fun H2 s2 => k H2 (s1.trans s2)⟩⟩⟩
theorem le_if {c a b : Expr} {p : Bool} {T1 T2 : Tr} {pos : Pos} (hc : PT X c (tKn N env p)) (ha : p = true → PE X a (tLe N env T1)) (hb : p = false → PE X b (tLe N env T2)) : PE X (.IfExp c a b pos) (tLe N env (if p = true then T1 else T2)) :=
  PE.imp (pe_ifExp hc (pe_when ha) (pe_when hb)) fun σ H Q ⟨W, x, ev, k⟩ => ⟨W, x, ev, fun H1 s1 => by
    cases p with
    | true => exact iteT ⟨rfl, vw W H H1, x.next s1, ev.mv (vw_keep x), fun H2 v s2 i2 => k H2 v (s1.trans s2) (by rw [vw_trans s1 s2] at i2; exact i2)⟩
    | false => exact iteF ⟨rfl, vw W H H1, x.next s1, ev.mv (vw_keep x), fun H2 v s2 i2 => k H2 v (s1.trans s2) (by rw [vw_trans s1 s2] at i2; exact i2)⟩⟩
theorem le_and {a b : Expr} {p q : Bool} {pos : Pos} (ha : PE X a (tLe N env (.bl p))) (hb : p = true → PE X b (tLe N env (.bl q))) : PE X (.BoolOp .And [a, b] pos) (tLe N env (.bl (p && q))) :=
  PE.imp (pe_and ha (pe_one (pe_when hb))) fun σ H Q ⟨W, x, ev, k⟩ => ⟨W, x, ev, fun H1 v s1 i1 => ⟨p, i1.bl_eq, by
    cases p with
    | true => exact iteT ⟨rfl, vw W H H1, x.next s1, ev.mv (vw_keep x), fun H2 u s2 i2 => k H2 u (s1.trans s2) (by rw [vw_trans s1 s2] at i2; exact i2)⟩
    | false => exact iteF (k H1 _ s1 ⟨0, .bl⟩)⟩⟩
/-! ### the tests themselves -/
theorem r_isN {T : Tr} : ∀ H x y (Q : VK), It H T x → It H .non y → Q (.bl (isNonT T)) H → (y = .non ∧ Q (.bl (decide (x = .non))) H) := fun H x y Q h1 h2 q => ⟨h2.non_eq, by rw [dec_non h1]; exact q⟩
theorem r_eqI {i j : Int} : ∀ H x y (Q : VK), It H (.int i) x → It H (.int j) y → Q (.bl (decide (i = j))) H → rEq x y H Q := fun H x y Q h1 h2 q => by
  rw [h1.int_eq, h2.int_eq]
  refine ⟨rfl, ?_⟩
  have e : decide (V.int i = V.int j) = decide (i = j) := decide_eq_decide.mpr ⟨fun h => V.int.inj h, fun h => by rw [h]⟩
  rw [e]
  exact q
theorem r_neI {i j : Int} : ∀ H x y (Q : VK), It H (.int i) x → It H (.int j) y → Q (.bl (!decide (i = j))) H → rNe x y H Q := fun H x y Q h1 h2 q => by
  rw [h1.int_eq, h2.int_eq]
  refine ⟨rfl, ?_⟩
  have e : decide (V.int i = V.int j) = decide (i = j) := decide_eq_decide.mpr ⟨fun h => V.int.inj h, fun h => by rw [h]⟩
  rw [e]
  exact q
theorem r_neB {a b : Bool} : ∀ H x y (Q : VK), It H (.bl a) x → It H (.bl b) y → Q (.bl (!decide (a = b))) H → rNe x y H Q := fun H x y Q h1 h2 q => by
  rw [h1.bl_eq, h2.bl_eq]
  refine ⟨rfl, ?_⟩
  have e : decide (V.bl a = V.bl b) = decide (a = b) := decide_eq_decide.mpr ⟨fun h => V.bl.inj h, fun h => by rw [h]⟩
  rw [e]
  exact q
theorem r_gt {i j : Int} : ∀ H x y (Q : VK), It H (.int i) x → It H (.int j) y → Q (.bl (decide (j < i))) H → (rI0 fun i j => .bl (decide (j < i))) x y H Q := fun H x y Q h1 h2 q => ⟨i, j, h1.int_eq, h2.int_eq, q⟩
theorem r_lt {i j : Int} : ∀ H x y (Q : VK), It H (.int i) x → It H (.int j) y → Q (.bl (decide (i < j))) H → (rI0 fun i j => .bl (decide (i < j))) x y H Q := fun H x y Q h1 h2 q => ⟨i, j, h1.int_eq, h2.int_eq, q⟩
theorem r_neE {K : PySem.W.Frag} {t : Bool} {ts : List Tr} : ∀ H x y (Q : VK), It H (.sq t ts) x → It H (.sq t []) y → Q (.bl (!ts.isEmpty)) H → rNeE K x y H Q := fun H x y Q h1 h2 q => by
  obtain ⟨a, xs, rfl, h3, _, p1⟩ := h1.sq_inv
  obtain ⟨b, ys, rfl, h4, _, p2⟩ := h2.sq_inv
  cases p2
  exact ⟨t, a, b, xs, rfl, rfl, h3.1.B, h4.1.B, by rw [paired_empty p1]; exact q⟩
theorem r_eqE {K : PySem.W.Frag} {t : Bool} {ts : List Tr} : ∀ H x y (Q : VK), It H (.sq t ts) x → It H (.sq t []) y → Q (.bl ts.isEmpty) H → rEqE K x y H Q := fun H x y Q h1 h2 q => by
  obtain ⟨a, xs, rfl, h3, _, p1⟩ := h1.sq_inv
  obtain ⟨b, ys, rfl, h4, _, p2⟩ := h2.sq_inv
  cases p2
  exact ⟨t, a, b, xs, rfl, rfl, h3.1.B, h4.1.B, by rw [paired_empty p1]; exact q⟩
theorem kall_nats {H : Hp} : ∀ w : List Nat, KAll H (w.map fun n : Nat => NestedKey.num (n : Int)) (nats w)
  | [] => .nil
  | z :: w => .cons (.num _) (kall_nats w)
theorem nat_row {H : Hp} : ∀ {ns : List Nat} {xs : List V}, Paired (It H) (ns.map fun n : Nat => Tr.int (n : Int)) xs → xs = nats ns
  | [], _, .nil => rfl
  | n :: ns, _, .cons r t => by rw [r.int_eq, nat_row t]; rfl
theorem nat_of_it {H : Hp} {ns : List Nat} {v : V} (h : It H (natT ns) v) : NatAt H ns v := by
  obtain ⟨a, xs, rfl, hs, hl, p⟩ := It.sq_inv (show It H (.sq false (ns.map fun n : Nat => Tr.int (n : Int))) v from h)
  have e := nat_row p
  subst e
  refine ⟨a, rfl, hs.1, ?_⟩
  unfold nats at hl
  rw [List.length_map] at hl
  exact hl
theorem beq_nums : ∀ u w : List Nat, NestedKey.beqAll (u.map fun n : Nat => NestedKey.num (n : Int)) (w.map fun n : Nat => NestedKey.num (n : Int)) = decide (u = w)
  | [], [] => rfl
  | [], _ :: _ => rfl
  | _ :: _, [] => rfl
  | a :: u, b :: w => by
    show (decide ((a : Int) = (b : Int)) && NestedKey.beqAll (u.map fun n : Nat => NestedKey.num (n : Int)) (w.map fun n : Nat => NestedKey.num (n : Int))) = _
    rw [beq_nums u w, Bool.eq_iff_iff]
    simp
    omega
theorem depth_nums : ∀ w : List Nat, NestedKey.depthAll (w.map fun n : Nat => NestedKey.num (n : Int)) = 0
  | [] => rfl
  | z :: w => by
    show max 0 (NestedKey.depthAll (w.map fun n : Nat => NestedKey.num (n : Int))) = 0
    rw [depth_nums w]
    rfl
theorem r_neN {m n : List Nat} : ∀ H x y (Q : VK), It H (natT m) x → It H (natT n) y → Q (.bl (!decide (m = n))) H → rNeK x y H Q := fun H x y Q h1 h2 q => by
  obtain ⟨a, rfl, ha, _⟩ := nat_of_it h1
  obtain ⟨b, rfl, hb, _⟩ := nat_of_it h2
  exact ⟨_, _, a, b, rfl, rfl, .tup ha (kall_nats m), .tup hb (kall_nats n), by rw [depth_nums]; decide, by rw [beq_nums]; exact q⟩
/-- len(xs) -/
theorem le_len {e : Expr} {t : Bool} {ts : List Tr} {p pos : Pos} (hm : X.mg "len" = none) (he : PE X e (tLe N env (.sq t ts))) (hg : Gl X "len" := by rfl) (hs : starEach [e] X.env = (false, eval e X.env) :: starEach [] X.env := by rfl) (hs0 : starEach (e :: []) X.env = (false, eval e X.env) :: starEach [] X.env := by rfl) :
    PE X (.Call (.Name "len" p) [e] [] pos) (tLe N env (.int (ts.length : Nat))) :=
  PE.imp (pe_len hm (pa_cons (hs := hs0) he pa_nil) hg hs) fun σ H Q ⟨W, x, ev, q⟩ => ⟨W, x, ev, fun H1 v s1 i1 => by
    obtain ⟨a, xs, rfl, ha, la, pa⟩ := i1.sq_inv
    have hq : Sq t H1 a xs := ha.1.mv fun o e => (x.next s1).sub a o e
    exact ⟨t, a, xs, rfl, hq, q H1 _ s1 (by rw [paired_len pa]; exact ⟨0, .int⟩)⟩⟩
/-- list(xs) -/
theorem lf_list {e : Expr} {t : Bool} {ts : List Tr} {p pos : Pos} (hm : X.mg "list" = none) (he : PE X e (tLe N env (.sq t ts))) (hg : Gl X "list" := by rfl) (hs : starEach [e] X.env = (false, eval e X.env) :: starEach [] X.env := by rfl) :
    PE X (.Call (.Name "list" p) [e] [] pos) (tLf N env ts) :=
  PE.imp (pe_listQ hm (pa_cons (hs := hs) he pa_nil) hg hs) fun σ H Q ⟨W, x, ev, q⟩ => ⟨W, x, ev, fun H1 v s1 i1 => by
    obtain ⟨a, xs, rfl, ha, la, pa⟩ := i1.sq_inv
    have hq : Sq t H1 a xs := ha.1.mv fun o e => (x.next s1).sub a o e
    refine ⟨t, a, xs, rfl, hq, fun H2 g no => q H2 g xs (s1.trans no.1) (s1.free no.2.1) no.2.2 la (paired_imp pa fun _ _ r => r.mv fun b o e => ?_)⟩
    have hbg : b ≠ g := by
      rintro rfl
      have h1 := no.2.1
      rw [(x.next s1).sub _ _ e] at h1
      cases h1
    rw [rm_ne hbg]
    exact vw_mono no.1 b o e⟩
/-- f(..): what comes is a new list of trees without lists -/
theorem le_cL {x : Str} {ps : List Str} {k : Nat} {sp : Sp} {e : Expr} {es : List Expr} {Ts ts : List Tr} {p pos : Pos} (O : Ok X.prog X.w X.K X.mg X.base k x ps sp) (hr : Room k X.A) (ha : PA X (e :: es) (tLes N env Ts)) (hR : Tr.nolAll ts = true)
    (hsp : ∀ H vs (Q : VK), Paired (It H) Ts vs → (∀ H' g ys, Same H H' → H g = none → H' g = some (.lst ys) → ys.length ≤ 1000000 → Paired (It H') ts ys → Q (.ref g) H') → sp vs H Q E0) (hg : Gl X x := by rfl)
    (hdb : (x == ("__debug__" : Str)) = false := by decide) (he : starEach (e :: es) X.env = (false, eval e X.env) :: starEach es X.env := by rfl) (hpl : (backTo pos (starEach es X.env)).any (·.1) = false := by rfl) :
    PE X (.Call (.Name x p) (e :: es) [] pos) (tLe N env (.sq true ts)) :=
  PE.imp (pe_c O hr ha hg hdb he hpl) fun σ H Q ⟨W, x, ev, q⟩ => ⟨W, x, ev, fun H1 vs s1 i1 => by
    show sp (vs ++ []) H1 Q E0
    rw [List.append_nil]
    have xn := x.next s1
    refine hsp H1 vs Q (paired_imp i1 fun _ _ r => r.mv xn.sub) fun H' g ys s ng eg hl pr => q H' _ (s1.trans s) ?_
    rw [← vw_trans s1 s]
    exact It.sq (.lst (by rw [vw_new ng]; exact eg)) hl (paired_mem pr fun a b ha r => r.nol (xn.next s) (nol_mem hR ha))⟩
/-- min(xs): the first is the least -/
theorem le_min {e : Expr} {n : List Nat} {ns : List (List Nat)} {p pos : Pos} (hc : X.calm = true) (hu : X.A.units + 64 < cLine) (hm : X.mg "min" = none) (he : PE X e (tLe N env (.sq true ((n :: ns).map natT)))) (hle : ∀ m ∈ ns, Paired (fun a b : Nat => a ≤ b) n m) (hn : (natT n).nol = true)
    (hg : Gl X "min" := by rfl) (hs : starEach [e] X.env = (false, eval e X.env) :: starEach [] X.env := by rfl) : PE X (.Call (.Name "min" p) [e] [] pos) (tLe N env (natT n)) :=
  PE.imp (pe_callB (he := hs) (cr_minT hc hu) hg hm (by decide +kernel) (pa_cons (hs := hs) he pa_nil)) fun σ H Q ⟨W, x, ev, q⟩ => ⟨W, x, ev, fun H1 v s1 i1 => by
    obtain ⟨a, xs, rfl, ha, la, pa⟩ := i1.sq_inv
    have xn := x.next s1
    have hq : Sq true H1 a xs := ha.1.mv fun o e => xn.sub a o e
    exact ⟨a, xs, n, ns, rfl, hq, paired_unmap (paired_imp pa fun _ _ r => r.mv xn.sub) |> fun p => paired_imp p fun _ _ r => nat_of_it r, hle, fun v r => q H1 v s1 (It.nol xn hn ⟨1, r.is⟩)⟩⟩
/-! ### statements -/
theorem st_set {i : Nat} {x : Str} {e : Expr} {T : Tr} {rest : List Stmt} {pos' pos : Pos} {env' : List (Nat × Tr)} (hN : X.N.Nodup) (hi : X.N[i]? = some x) (hx : Loc X.env.scope x) (he : PE X e (tLe N env T)) (hrest : PSs X rest (tSt N ((i, T) :: env'))) (hiN : i < N) (hsub : ∀ p ∈ env', p ∈ env) (hne : ∀ p ∈ env', p.1 ≠ i)
    (hs : swapsWith e (some (.Name x pos')) pos.line X.env = pure false := by rfl) (hf : X.fn x = true ∨ X.env.scope.names.lookup x = some .local := by first | exact .inl rfl | exact .inr rfl | assumption) : PSs X (.Assign [.Name x pos'] e pos :: rest) (tSt N env) :=
  PSs.imp (pss_cons (ps_set (i := i) hN hi hx he hs hf) hrest) fun D σ H ⟨W, x, ev, q⟩ => ⟨W, x, ev, fun H1 v s1 i1 => ⟨vw W H H1, x.next s1, ((ev.sub hsub).mv (vw_keep x)).set hiN hne i1, fun H' s => q H' (s1.trans s)⟩⟩
theorem st_par {i j : Nat} {x y : Str} {a b : Expr} {T1 T2 : Tr} {rest : List Stmt} {px py pt pos : Pos} {kt k2 pt2} {env' : List (Nat × Tr)} (hc : X.calm = true) (hN : X.N.Nodup) (hi : X.N[i]? = some x) (hj : X.N[j]? = some y) (hij : i ≠ j) (hx : X.env.scope.names.lookup x = some .local) (hy : X.env.scope.names.lookup y = some .local)
    (ha : PA X [a, b] (tLes N env [T1, T2])) (hw : swappedStores [.Tuple [.Name x px, .Name y py] kt pt] (.Tuple [a, b] k2 pt2) X.env = pure (some [x, y])) (hrest : PSs X rest (tSt N ((j, T2) :: (i, T1) :: env'))) (hiN : i < N) (hjN : j < N) (hsub : ∀ p ∈ env', p ∈ env) (hni : ∀ p ∈ env', p.1 ≠ i) (hnj : ∀ p ∈ env', p.1 ≠ j)
    (hs : swapsWithSole [.Tuple [.Name x px, .Name y py] kt pt] (.Tuple [a, b] k2 pt2) pos.line X.env = pure false := by rfl) : PSs X (.Assign [.Tuple [.Name x px, .Name y py] kt pt] (.Tuple [a, b] k2 pt2) pos :: rest) (tSt N env) :=
  PSs.imp (pss_cons (ps_par (i := i) (j := j) hc hN hi hj hij hx hy ha hw hs) hrest) fun D σ H ⟨W, x, ev, q⟩ => ⟨W, x, ev, fun H1 vs s1 i1 => by
    cases i1 with
    | cons r1 i1 => cases i1 with
      | cons r2 i1 =>
        cases i1
        refine ⟨_, _, rfl, vw W H H1, x.next s1, ((((ev.sub hsub).mv (vw_keep x)).set hiN hni r1).set hjN ?_ r2), fun H' s => q H' (s1.trans s)⟩
        intro p hp
        rcases List.mem_cons.mp hp with rfl | hp
        · exact hij
        · exact hnj p hp⟩
theorem st_if {c : Expr} {body rest : List Stmt} {tb : TS} {pos : Pos} (hc : PT X c (tKn N env false)) (hb : PSs X body tb) (hrest : PSs X rest (tSt N env)) : PSs X (.If c body [] pos :: rest) (tSt N env) :=
  PSs.imp (pss_cons (ps_if hc hb pss_nil) hrest) fun D σ H ⟨W, x, ev, q⟩ => ⟨W, x, ev, fun H1 s1 => iteF ⟨vw W H H1, x.next s1, ev.mv (vw_keep x), fun H' s => q H' (s1.trans s)⟩⟩
theorem st_ret {e : Expr} {pos : Pos} (he : PE X e (tLe N env (.bl true))) : PSs X [.Return (some e) pos] (tSt N env) :=
  PSs.imp (pss_one (ps_ret he)) fun D σ H ⟨W, x, ev, q⟩ => ⟨W, x, ev, fun H1 v s1 i1 => by
    rw [i1.bl_eq]
    exact q H1 s1⟩
/-- x = a new list that is to grow -/
theorem so_set {i : Nat} {x : Str} {e : Expr} {ts : List Tr} {rest : List Stmt} {pos' pos : Pos} {env' : List (Nat × Tr)} (hN : X.N.Nodup) (hi : X.N[i]? = some x) (hx : Loc X.env.scope x) (he : PE X e (tLf N env ts)) (hrest : PSs X rest (tSo N env' i ts)) (hiN : i < N) (hsub : ∀ p ∈ env', p ∈ env) (hne : ∀ p ∈ env', p.1 ≠ i)
    (hs : swapsWith e (some (.Name x pos')) pos.line X.env = pure false := by rfl) (hf : X.fn x = true ∨ X.env.scope.names.lookup x = some .local := by first | exact .inl rfl | exact .inr rfl | assumption) : PSs X (.Assign [.Name x pos'] e pos :: rest) (tSt N env) :=
  PSs.imp (pss_cons (ps_set (i := i) hN hi hx he hs hf) hrest) fun D σ H ⟨W, x, ev, q⟩ => ⟨W, x, ev, fun H1 g vs s1 ng eg hl p => ⟨rm (vw W H H1) g, H, g, vs, (x.next s1).rm eg, ((ev.sub hsub).mv (keep_rm x ng)).put hne, by
    show (σ.set i (some (.ref g)))[i]? = _
    rw [List.getElem?_set_self (by rw [ev.1]; exact hiN)], rm_self, eg, hl, p, s1, ng, q⟩⟩
/-- another name is set -/
theorem so_step {i j : Nat} {x : Str} {e : Expr} {T : Tr} {ts : List Tr} {rest : List Stmt} {pos' pos : Pos} {env' : List (Nat × Tr)} (hN : X.N.Nodup) (hi : X.N[j]? = some x) (hx : Loc X.env.scope x) (he : PE X e (tLe N env T)) (hrest : PSs X rest (tSo N ((j, T) :: env') i ts)) (hjN : j < N) (hsub : ∀ p ∈ env', p ∈ env) (hne : ∀ p ∈ env', p.1 ≠ j) (hij : i ≠ j)
    (hs : swapsWith e (some (.Name x pos')) pos.line X.env = pure false := by rfl) (hf : X.fn x = true ∨ X.env.scope.names.lookup x = some .local := by first | exact .inl rfl | exact .inr rfl | assumption) : PSs X (.Assign [.Name x pos'] e pos :: rest) (tSo N env i ts) :=
  PSs.imp (pss_cons (ps_set (i := j) hN hi hx he hs hf) hrest) fun D σ H ⟨W, H0, g, vs, x, ev, eg, n, hg, hl, p, sm, n0, q⟩ => ⟨W, x, ev, fun H1 v s1 i1 => ⟨vw W H H1, H0, g, vs, x.next s1, ((ev.sub hsub).mv (vw_keep x)).set hjN hne i1, by
    show (σ.set j (some v))[i]? = _
    rw [List.getElem?_set_ne fun q => hij q.symm]
    exact eg, by rw [vw_old hg]; exact n, s1 _ _ hg, hl, paired_imp p fun _ _ r => r.mv (vw_keep x), sm.trans s1, n0, q⟩⟩
/-- xs.append(e) -/
theorem so_app {i : Nat} {o e : Expr} {T : Tr} {ts : List Tr} {rest : List Stmt} {apos cpos pos : Pos} (ho : PE X o (tVar i)) (he : PE X e (tLe N env T)) (hlt : ts.length ≤ 900000) (hrest : PSs X rest (tSo N env i (ts ++ [T])))
    (hse : starEach [e] X.env = (false, eval e X.env) :: starEach [] X.env := by rfl) (hst : PS X (.Expr (.Call (.Attribute o "append" apos) [e] [] cpos) pos) (tDrop (tBM X.K "list" rAppend (tVar i) (tCons (tLe N env T) tNil)))) : PSs X (.Expr (.Call (.Attribute o "append" apos) [e] [] cpos) pos :: rest) (tSo N env i ts) :=
  PSs.imp (pss_cons hst hrest) fun D σ H ⟨W, H0, g, vs, x, ev, eg, n, hg, hl, p, sm, n0, q⟩ => ⟨_, eg, .inl ⟨rfl, _, SqL.of hg⟩, W, x, ev, fun H1 v s1 i1 => by
    have hg1 := s1 _ _ hg
    have nv : vw W H H1 g = none := by rw [vw_old hg]; exact n
    have hvl := paired_len p
    refine ⟨g, vs, v, rfl, rfl, hg1, Nat.lt_of_lt_of_le (by omega : vs.length < 1000000) (by decide), ?_⟩
    exact ⟨vw W H H1, H0, g, vs ++ [v], (x.next s1).grown hg1 nv, ev.mv (vw_keep x), eg, nv, upd_same, by rw [List.length_append, List.length_singleton]; omega, paired_snoc (paired_imp p fun _ _ r => r.mv (vw_keep x)) i1, Same.young (sm.trans s1) n0, n0, q⟩⟩
/-- it grows no more -/
theorem so_end {i : Nat} {ts : List Tr} {rest : List Stmt} (hrest : PSs X rest (tSt N ((i, .sq true ts) :: env))) : PSs X rest (tSo N env i ts) :=
  PSs.imp hrest fun D σ H ⟨W, H0, g, vs, x, ev, eg, n, hg, hl, p, sm, n0, q⟩ => ⟨add W H g, x.add g, (ev.mv (add_sub x (g := g))).cons eg (add_it x hg hl p), fun H' s => q H' (sm.trans s)⟩
end
theorem natT_nol (ns : List Nat) : (natT ns).nol = true := by
  show (!false && Tr.nolAll (ns.map fun n : Nat => Tr.int (n : Int))) = true
  induction ns with
  | nil => rfl
  | cons z w ih => exact ih
theorem placesT_nol (ws es : List Str) : (placesT ws es).nol = true := by
  unfold placesT
  split
  · exact natT_nol _
  · rfl
theorem nats_nolAll : ∀ l : List (List Nat), Tr.nolAll (l.map natT) = true
  | [] => rfl
  | z :: l => by
    show ((natT z).nol && Tr.nolAll (l.map natT)) = true
    rw [natT_nol, nats_nolAll l]
    rfl
theorem sx_of_it {H : Hp} {t : Bool} {w : List Str} {v : V} (h : It H (trs t w) v) : ∃ p, v = .ref p ∧ Sq t H p (w.map V.str) ∧ w.length ≤ 1000000 := by
  obtain ⟨a, xs, e, hs, hl, p⟩ := It.sq_inv (show It H (.sq t (w.map Tr.str)) v from h)
  have key : ∀ {w : List Str} {xs : List V}, Paired (It H) (w.map Tr.str) xs → xs = w.map V.str := by
    intro w
    induction w with
    | nil => intro xs p; cases p; rfl
    | cons z w ih =>
      intro xs p
      cases p with
      | cons r t => rw [r.str_eq, ih t]; rfl
  have q := key p
  subst q
  rw [List.length_map] at hl
  exact ⟨a, e, hs.1, hl⟩
/-! ### the words' functions on known trees -/
section
variable {t u : Bool} {ws es : List Str}
theorem two_its {H : Hp} {T U : Tr} {vs : List V} (p : Paired (It H) [T, U] vs) : ∃ a b, vs = [a, b] ∧ It H T a ∧ It H U b := by
  cases p with
  | cons r1 p => cases p with
    | cons r2 p =>
      cases p
      exact ⟨_, _, rfl, r1, r2⟩
theorem kp_part : ∀ H vs (Q : VK), Paired (It H) [trs t ws, trs u es] vs → (∀ H' v, Same H H' → It H' (.bl (isPart ws es)) v → Q v H') → spPart vs H Q E0 := by
  intro H vs Q p q
  obtain ⟨x, y, rfl, i1, i2⟩ := two_its p
  obtain ⟨a, rfl, h1, _⟩ := sx_of_it i1
  obtain ⟨b, rfl, h2, _⟩ := sx_of_it i2
  exact ⟨t, u, a, b, ws, es, rfl, h1, h2, fun H' s => q H' _ s ⟨0, .bl⟩⟩
theorem kp_places (hw : ws.length ≤ 1000) : ∀ H vs (Q : VK), Paired (It H) [trs t ws, trs u es] vs → (∀ H' v, Same H H' → It H' (placesT ws es) v → Q v H') → spPlaces vs H Q E0 := by
  intro H vs Q p q
  obtain ⟨x, y, rfl, i1, i2⟩ := two_its p
  obtain ⟨a, rfl, h1, _⟩ := sx_of_it i1
  obtain ⟨b, rfl, h2, _⟩ := sx_of_it i2
  exact ⟨t, u, a, b, ws, es, rfl, h1, h2, hw, fun H' v s i => q H' _ s ⟨1, i⟩⟩
theorem kp_ways (hw : ws.length ≤ 1000) : ∀ H vs (Q : VK), Paired (It H) [trs t ws, trs u es] vs → (∀ H' v, Same H H' → It H' (.int (LwB.cnt ws es : Nat)) v → Q v H') → spWays vs H Q E0 := by
  intro H vs Q p q
  obtain ⟨x, y, rfl, i1, i2⟩ := two_its p
  obtain ⟨a, rfl, h1, _⟩ := sx_of_it i1
  obtain ⟨b, rfl, h2, _⟩ := sx_of_it i2
  exact ⟨t, u, a, b, ws, es, rfl, h1, h2, hw, fun H' s => q H' _ s ⟨0, .int⟩⟩
theorem kp_counted (hw : ws.length ≤ 1000) : ∀ H vs (Q : VK), Paired (It H) [trs false ws, trs false es] vs → (∀ H' v, Same H H' → It H' (.int (LwB.cnt ws es : Nat)) v → Q v H') → spCounted vs H Q E0 := by
  intro H vs Q p q
  obtain ⟨x, y, rfl, i1, i2⟩ := two_its p
  obtain ⟨a, rfl, h1, _⟩ := sx_of_it i1
  obtain ⟨b, rfl, h2, _⟩ := sx_of_it i2
  exact ⟨a, b, ws, es, rfl, h1, h2, hw, fun H' s => q H' _ s ⟨0, .int⟩⟩
theorem kp_leastS (hw : ws.length ≤ 1000) (he : es.length ≤ 1000) : ∀ H vs (Q : VK), Paired (It H) [trs false ws, trs false es] vs → (∀ H' v, Same H H' → It H' (placesT ws es) v → Q v H') → spLeastS vs H Q E0 := by
  intro H vs Q p q
  obtain ⟨x, y, rfl, i1, i2⟩ := two_its p
  obtain ⟨a, rfl, h1, _⟩ := sx_of_it i1
  obtain ⟨b, rfl, h2, _⟩ := sx_of_it i2
  exact ⟨a, b, ws, es, rfl, h1, h2, hw, he, fun H' v s i => q H' _ s ⟨1, i⟩⟩
theorem kp_choices (hw : ws.length ≤ 1000) (he : es.length ≤ 8) : ∀ H vs (Q : VK), Paired (It H) [trs false ws, trs false es] vs → (∀ H' g ys, Same H H' → H g = none → H' g = some (.lst ys) → ys.length ≤ 1000000 → Paired (It H') (((ch es ws).map (·.1)).map natT) ys → Q (.ref g) H') → spChoices vs H Q E0 := by
  intro H vs Q p q
  obtain ⟨x, y, rfl, i1, i2⟩ := two_its p
  obtain ⟨a, rfl, h1, _⟩ := sx_of_it i1
  obtain ⟨b, rfl, h2, _⟩ := sx_of_it i2
  refine ⟨a, b, ws, es, rfl, h1, h2, hw, he, fun H' g ys s ng eg pr => q H' g ys s ng eg ?_ (paired_map (paired_imp pr fun _ _ r => ⟨1, r.is⟩))⟩
  have h5 := paired_len pr
  have h6 := ch_small (ws := ws) he
  rw [List.length_map] at h5
  omega
/-- both are the same trees -/
theorem kp_same {n : Nat} {T U : Tr} (h : T = U) (hd : T.dep ≤ n) : ∀ H vs (Q : VK), Paired (It H) [T, U] vs → (∀ H' v, Same H H' → It H' (.bl true) v → Q v H') → spSame (n + 1) vs H Q E0 := by
  subst h
  intro H vs Q p q
  obtain ⟨x, y, rfl, i1, i2⟩ := two_its p
  exact ⟨_, _, T, rfl, i1.to hd, i2.to hd, fun H' s => q H' _ s ⟨0, .bl⟩⟩
end
def spWordR : Sp := fun vs H Q _ => ∃ (a c : Addr) (ws es : List Str), vs = [.ref a, .ref c] ∧ Sq false H a (ws.map V.str) ∧ Sq false H c (es.map V.str) ∧ ws.length ≤ 1000 ∧ es.length ≤ 1000 ∧ ∀ H', Same H H' → Q (.bl true) H'
theorem dep_strs : ∀ w : List Str, Tr.depAll (w.map Tr.str) = 0
  | [] => rfl
  | z :: w => by
    show max 0 (Tr.depAll (w.map Tr.str)) = 0
    rw [dep_strs w]
    rfl
theorem trs_dep (t : Bool) (w : List Str) : (trs t w).dep = 1 := by
  show Tr.depAll (w.map Tr.str) + 1 = 1
  rw [dep_strs]
theorem natT_dep (w : List Nat) : (natT w).dep = 1 := by
  show Tr.depAll (w.map fun n : Nat => Tr.int (n : Int)) + 1 = 1
  have : Tr.depAll (w.map fun n : Nat => Tr.int (n : Int)) = 0 := by
    induction w with
    | nil => rfl
    | cons z w ih =>
      show max 0 (Tr.depAll (w.map fun n : Nat => Tr.int (n : Int))) = 0
      rw [ih]
      rfl
  rw [this]
theorem placesT_dep (ws es : List Str) : (placesT ws es).dep ≤ 1 := by
  unfold placesT
  split
  · rw [natT_dep]
    exact Nat.le_refl _
  · exact Nat.zero_le _
end LwB
namespace LwB
open PySem PySem.Spec PyProof.Rows L2 IqX RvT EnS TL NsT
variable [LwB.KC]
/-! ### ways, counted from the end -/
def stepV (e : Str) : List Str → List Nat → List Nat
  | w :: ws, x :: vs => (x + (if e = w then vs.headD 0 else 0)) :: stepV e ws vs
  | _, vs => vs
def iniV : List Str → List Nat
  | [] => [1]
  | _ :: ws => 0 :: iniV ws
def cntV (ws : List Str) : List Str → List Nat
  | [] => iniV ws
  | e :: es => stepV e ws (cntV ws es)
def sufV : List Str → List Str → List Nat
  | [], _ => [1]
  | w :: ws, es => LwB.cnt (w :: ws) es :: sufV ws es
theorem sufV_head (ws es : List Str) : (sufV ws es).headD 0 = LwB.cnt ws es := by
  cases ws with
  | nil => rw [LwB.cnt_nil]; rfl
  | cons w ws => rfl
theorem sufV_end : ∀ ws : List Str, sufV ws [] = iniV ws
  | [] => rfl
  | w :: ws => by
    show 0 :: sufV ws [] = _
    rw [sufV_end ws]
    rfl
theorem sufV_step (e : Str) (es : List Str) : ∀ ws : List Str, stepV e ws (sufV ws es) = sufV ws (e :: es)
  | [] => rfl
  | w :: ws => by
    show (LwB.cnt (w :: ws) es + (if e = w then (sufV ws es).headD 0 else 0)) :: stepV e ws (sufV ws es) = ((if e = w then LwB.cnt ws es else 0) + LwB.cnt (w :: ws) es) :: sufV ws (e :: es)
    rw [sufV_step e es ws, sufV_head, Nat.add_comm]
theorem cntV_eq (ws : List Str) : ∀ es : List Str, cntV ws es = sufV ws es
  | [] => (sufV_end ws).symm
  | e :: es => by
    show stepV e ws (cntV ws es) = _
    rw [cntV_eq ws es, sufV_step]
theorem cnt_cntV (ws es : List Str) : LwB.cnt ws es = (cntV ws es).headD 0 := by rw [cntV_eq, sufV_head]
/-! ### f(a=..): one parameter, by its name -/
def swap1 {α : Type} : List α → List α → List α
  | [], [x] => [x]
  | _, _ => []
def Kw1 (x : Str) (st : Stmt) (ps : List Str) : Prop := ∀ (kV doc pm : Value) (an : Option Addr) (cdv ct u : Value), bindArgs (PySem.W.fnOf x x (defArgs st) (defBody st) (defScope st) .none kV doc pm an cdv ct) ⟨[], ps.zip [u]⟩ = pure (ps.zip [u])
section
variable {X : Cx} {k : Nat} {x : Str} {ps : List Str} {sp : Sp} {kws : List Keyword} {tk : TA} {p pos : Pos} {st : Stmt} {N : Nat} {env : List (Nat × Tr)}
theorem pe_kw1 (O : Ok X.prog X.w X.K X.mg X.base k x ps sp) (D : Df X.K X.mg x st ps) (kb : Kw1 x st ps) (hr : Room k X.A) (hkw : PK X kws tk) (hk2 : ps.length = 1 := by rfl) (hg : Gl X x := by rfl)
    (hall : (backToKw pos (keywordEach kws X.env)).all (·.1.isSome) = true := by rfl) (hks : (backToKw pos (keywordEach kws X.env)).filterMap (·.1) = ps := by rfl) (hdb : (x == ("__debug__" : Str)) = false := by decide)
    (hpl : ((backTo pos (starEach [] X.env)).any (·.1) || (backToKw pos (keywordEach kws X.env)).any (·.1.isNone)) = false := by rfl) :
    PE X (.Call (.Name x p) [] kws pos) (fun σ H Q => tk σ H fun zs H1 => ∃ u : V, zs = [u] ∧ sp [u] H1 Q E0) := by
  obtain ⟨f, fd, F, g, kp, b, oc, od, osl, lk⟩ := O.ex
  obtain ⟨f', fd', F', g', b'⟩ := D.ex
  rw [g] at g'
  cases g'
  obtain ⟨oc2, od2, kV, doc, pm, an, cdv, ct, osl2, efd, lk2, _⟩ := F'.ex
  rw [lk] at lk2
  cases lk2
  have K1 : KBn X.K fd ps 0 ps swap1 swap1 := by
    refine ⟨fun s us ws _ l1 l2 => ?_, fun {vs us zs ws} r1 r2 => ?_⟩
    · match us, ws, l1, l2.trans hk2 with
      | [], [u], _, _ =>
        rw [efd]
        exact .of_eq (kb kV doc pm an cdv ct u)
    · cases r1 with
      | nil =>
        cases r2 with
        | nil => exact .nil
        | cons a r2 =>
          cases r2 with
          | nil => exact .cons a .nil
          | cons b r2 => exact .nil
      | cons a r1 => cases r2 <;> exact .nil
  refine ⟨fun pins s σ H Q I h => ?_⟩
  refine wpAny_Call_Name_kw (ld_glob I hg g ?_ hdb)
  refine PySem.W.callWith_KW0 (h₀ := X.base) I.ok.mod.kin kp hall ?_ hpl
  refine thn (hkw.run pos pins s σ H _ I h) fun ws s2 ⟨zs, H2, I2, rz, u, ez, q2⟩ => ⟨I2.kIn, ?_⟩
  subst ez
  rw [hks]
  exact run_fnN (us := []) (vs := []) F hr K1 pass0 I2 .nil rz rfl hk2.symm q2
theorem le_kw1 {T R : Tr} (O : Ok X.prog X.w X.K X.mg X.base k x ps sp) (D : Df X.K X.mg x st ps) (kb : Kw1 x st ps) (hr : Room k X.A) (hkw : PK X kws (tLes N env [T])) (hR : R.nol = true)
    (hsp : ∀ H vs (Q : VK), Paired (It H) [T] vs → (∀ H' v, Same H H' → It H' R v → Q v H') → sp vs H Q E0) (hk2 : ps.length = 1 := by rfl) (hg : Gl X x := by rfl)
    (hall : (backToKw pos (keywordEach kws X.env)).all (·.1.isSome) = true := by rfl) (hks : (backToKw pos (keywordEach kws X.env)).filterMap (·.1) = ps := by rfl) (hdb : (x == ("__debug__" : Str)) = false := by decide)
    (hpl : ((backTo pos (starEach [] X.env)).any (·.1) || (backToKw pos (keywordEach kws X.env)).any (·.1.isNone)) = false := by rfl) :
    PE X (.Call (.Name x p) [] kws pos) (tLe N env R) :=
  PE.imp (pe_kw1 O D kb hr hkw hk2 hg hall hks hdb hpl) fun σ H Q ⟨W, x, ev, q⟩ => ⟨W, x, ev, fun H1 vs s1 i1 => by
    cases i1 with
    | cons r1 i1 =>
      cases i1
      have xn := x.next s1
      refine ⟨_, rfl, hsp H1 _ Q (.cons (r1.mv xn.sub) .nil) fun H' v s i => q H' v (s1.trans s) ?_⟩
      rw [← vw_trans s1 s]
      exact i.nol (xn.next s) hR⟩
theorem its_bls {H : Hp} : ∀ (bs : List Bool) {xs : List V}, Paired (It H) (bs.map Tr.bl) xs → xs = bs.map V.bl
  | [], _, .nil => rfl
  | b :: bs, _, .cons r t => by
    rw [r.bl_eq, its_bls bs t]
    rfl
/-- all(xs) of known answers -/
theorem le_all {e : Expr} {bs : List Bool} (hc : X.calm = true) (hm : X.mg "all" = none) (he : PE X e (tLe N env (.sq true (bs.map Tr.bl)))) (hg : Gl X "all" := by rfl) (hs : starEach [e] X.env = (false, eval e X.env) :: starEach [] X.env := by rfl) :
    PE X (.Call (.Name "all" p) [e] [] pos) (tLe N env (.bl (bs.all id))) :=
  PE.imp (pe_callB (he := hs) (cr_all hc) hg hm (by decide +kernel) (pa_cons (hs := hs) he pa_nil)) fun σ H Q ⟨W, x, ev, q⟩ => ⟨W, x, ev, fun H1 v s1 i1 => by
    obtain ⟨a, xs, rfl, ha, la, pa⟩ := i1.sq_inv
    have hq : Sq true H1 a xs := ha.1.mv fun o e => (x.next s1).sub a o e
    have ex : xs = bs.map V.bl := its_bls bs pa
    subst ex
    exact ⟨a, bs, rfl, hq.L, q H1 _ s1 ⟨0, .bl⟩⟩⟩
/-- t + u, two tuples -/
theorem le_catT {e1 e2 : Expr} {Ts Us : List Tr} (h1 : PE X e1 (tLe N env (.sq false Ts))) (h2 : PE X e2 (tLe N env (.sq false Us))) (hn : (Tr.sq false (Ts ++ Us)).nol = true) (hl : Ts.length + Us.length ≤ 1000000 := by first | decide | exact Nat.le_of_ble_eq_true rfl) : PE X (.BinOp e1 .Add e2 pos) (tLe N env (.sq false (Ts ++ Us))) :=
  PE.imp (pe_op op_catQ h1 h2) fun σ H Q ⟨W, x, ev, q⟩ => ⟨W, x, ev, fun H1 v s1 i1 => ⟨vw W H H1, x.next s1, ev.mv (vw_keep x), fun H2 u s2 i2 => by
    rw [vw_trans s1 s2] at i2
    have xn := x.next (s1.trans s2)
    obtain ⟨a, xs, rfl, ha, la, pa⟩ := ((i1.mv (vw_mono s2)).mv xn.sub).sq_inv
    obtain ⟨b, ys, rfl, hb, lb, pb⟩ := (i2.mv xn.sub).sq_inv
    have n1 := paired_len pa
    have n2 := paired_len pb
    refine ⟨a, b, xs, ys, rfl, rfl, ha.1, hb.1, by omega, fun H3 p3 s3 h3 => q H3 _ ((s1.trans s2).trans s3) ?_⟩
    rw [← vw_trans (s1.trans s2) s3]
    exact It.nol (xn.next s3) hn (It.sq (.tup h3) (by rw [List.length_append]; omega) (paired_append (paired_imp pa fun _ _ r => r.same s3) (paired_imp pb fun _ _ r => r.same s3)))⟩⟩
/-- t * k, a tuple -/
theorem le_repT {K : PySem.W.Frag} {e1 : Expr} {Ts : List Tr} {k : Int} {j pos' : _} (h1 : PE X e1 (tLe N env (.sq false Ts))) (hn : (Tr.sq false (List.replicate k.toNat Ts).flatten).nol = true) (hne : Ts ≠ [] := by decide) (hk : 2 ≤ k ∧ k ≤ 1000 := by decide) (hl : Ts.length ≤ 1000 := by first | decide | exact Nat.le_of_ble_eq_true rfl) :
    PE X (.BinOp e1 .Mult (.Constant (.int k) j pos') pos) (tLe N env (.sq false (List.replicate k.toNat Ts).flatten)) :=
  PE.imp (pe_op op_repT h1 pe_int) fun σ H Q ⟨W, x, ev, q⟩ => ⟨W, x, ev, fun H1 v s1 i1 => by
    have xn := x.next s1
    obtain ⟨a, xs, rfl, ha, la, pa⟩ := (i1.mv xn.sub).sq_inv
    have n1 := paired_len pa
    refine ⟨a, k, xs, rfl, rfl, ha.1.T, ?_, hk.1, hk.2, by omega, fun p np => ?_⟩
    · rintro rfl
      cases pa
      exact hne rfl
    have s2 := same_new (o := HO.tup (List.replicate k.toNat xs).flatten) np
    have pr : ∀ n : Nat, Paired (It H1) (List.replicate n Ts).flatten (List.replicate n xs).flatten := fun n => by
      induction n with
      | zero => exact .nil
      | succ n ih =>
        rw [List.replicate_succ, List.replicate_succ, List.flatten_cons, List.flatten_cons]
        exact paired_append pa ih
    have hmul : k.toNat * xs.length ≤ 1000000 := Nat.le_trans (Nat.mul_le_mul (by omega : k.toNat ≤ 1000) (by omega : xs.length ≤ 1000)) (by decide)
    refine q _ _ (s1.trans s2) ?_
    rw [← vw_trans s1 s2]
    refine It.nol (xn.next s2) hn (It.sq (.tup (.tup upd_same)) ?_ (paired_imp (pr k.toNat) fun _ _ r => r.same s2))
    rw [List.length_flatten, List.map_replicate, List.sum_replicate_nat]
    exact hmul⟩
end
/-! ### names and logs -/
def bndT : Tr → Bool
  | .sq _ ts => ts.all fun t => match t with
    | .str z => decide (z.length ≤ 1000000)
    | _ => true
  | _ => true
theorem kp_log {T : Tr} (hb : bndT T = true) : ∀ H vs (Q : VK), Paired (It H) [T] vs → (∀ H' v, Same H H' → It H' (.bl (isLogT T)) v → Q v H') → spIsLog vs H Q E0 := by
  intro H vs Q p q
  cases p with
  | cons r p =>
    cases p
    obtain ⟨n, r⟩ := r
    refine ⟨_, n, T, rfl, r, fun b ts z e hz => ?_, fun H' s => q H' _ s ⟨0, .bl⟩⟩
    subst e
    have := List.all_eq_true.mp (show ts.all _ = true from hb) _ hz
    exact of_decide_eq_true this
end LwB
namespace LwB
open PySem PySem.Spec PyProof.Rows L2 IqX RvT EnS TL NsT
variable [LwB.KC]
section
variable {X : Cx} {N : Nat} {env : List (Nat × Tr)} {pos : Pos}
/-- z * k, a text -/
theorem op_mulS : OpR X (binaryOp .Mult) (fun x y H Q => ∃ (i : Str) (n : Int), x = .str i ∧ y = .int n ∧ MulOk i n ∧ Q (.str (Txt.mul i n)) H) := by
  intro pins s σ H x y v u Q I rx ry h
  obtain ⟨i, n, rfl, rfl, hk, q⟩ := h
  obtain ⟨t, rfl⟩ := rx
  obtain ⟨t', rfl⟩ := ry
  exact SB.mul hk fun t' k => ⟨.str (Txt.mul i n), H, I.tok _, ⟨_, rfl⟩, q⟩
/-- xs.append(e) -/
theorem so_grow {i : Nat} {c : Expr} {T : Tr} {ts : List Tr} {rest : List Stmt} (hst : PS X (.Expr c pos) (tDrop (tBM X.K "list" rAppend (tVar i) (tCons (tLe N env T) tNil)))) (hlt : ts.length ≤ 900000) (hrest : PSs X rest (tSo N env i (ts ++ [T]))) : PSs X (.Expr c pos :: rest) (tSo N env i ts) :=
  PSs.imp (pss_cons hst hrest) fun D σ H ⟨W, H0, g, vs, x, ev, eg, n, hg, hl, p, sm, n0, q⟩ => ⟨_, eg, .inl ⟨rfl, _, SqL.of hg⟩, W, x, ev, fun H1 v s1 i1 => by
    have hg1 := s1 _ _ hg
    have nv : vw W H H1 g = none := by rw [vw_old hg]; exact n
    have hvl := paired_len p
    refine ⟨g, vs, v, rfl, rfl, hg1, Nat.lt_of_lt_of_le (by omega : vs.length < 1000000) (by decide), ?_⟩
    exact ⟨vw W H H1, H0, g, vs ++ [v], (x.next s1).grown hg1 nv, ev.mv (vw_keep x), eg, nv, upd_same, by rw [List.length_append, List.length_singleton]; omega, paired_snoc (paired_imp p fun _ _ r => r.mv (vw_keep x)) i1, Same.young (sm.trans s1) n0, n0, q⟩⟩
theorem le_mulS {e : Expr} {z : Str} {k : Int} {j pos' : _} (h1 : PE X e (tLe N env (.str z))) (hk : MulOk z k) : PE X (.BinOp e .Mult (.Constant (.int k) j pos') pos) (tLe N env (.str (Txt.mul z k))) :=
  PE.imp (pe_op op_mulS h1 pe_int) fun σ H Q ⟨W, x, ev, q⟩ => ⟨W, x, ev, fun H1 v s1 i1 => ⟨z, k, i1.str_eq, rfl, hk, q H1 _ s1 ⟨0, .str⟩⟩⟩
end
theorem kp_wordR {ws es : List Str} (lw : ws.length ≤ 1000) (le : es.length ≤ 1000) : ∀ H vs (Q : VK), Paired (It H) [trs false ws, trs false es] vs → (∀ H' v, Same H H' → It H' (.bl true) v → Q v H') → spWordR vs H Q E0 := by
  intro H vs Q p q
  obtain ⟨x, y, rfl, i1, i2⟩ := two_its p
  obtain ⟨a, rfl, h1, _⟩ := sx_of_it i1
  obtain ⟨b, rfl, h2, _⟩ := sx_of_it i2
  exact ⟨a, b, ws, es, rfl, h1, h2, lw, le, fun H' s => q H' _ s ⟨0, .bl⟩⟩
end LwB
namespace NsT
open PySem PySem.Spec PyProof.Rows PySem.W PySem.SeqAt
section
variable {P : Program} {w : World} {A : Around} {E : Value → Shared → Prop} {s : Shared}
theorem call_tuple_lt {Q : Value → Shared → Prop} {l b : Addr} {o1 o2 : Obj} {items items2 : Array Value} {n n2 : Nat} {e r : Nat → Bool} (h1 : s.heap.get? l = some o1) (c1 : o1.cls = .type "tuple") (d1 : o1.data = .seq items n) (h2 : s.heap.get? b = some o2) (c2 : o2.cls = .type "tuple") (d2 : o2.data = .seq items2 n2)
    (he : ∀ j (h1 : j < items.size) (h2 : j < items2.size), EqAt A.in1 s items[j] items2[j] (e j)) (hr : ∀ j (h1 : j < items.size) (h2 : j < items2.size), e j = false → RcLt A.in1 s items[j] items2[j] (r j))
    (h : Q (.bool (firstLt e r (decide (items.size < items2.size)) (List.range (min items.size items2.size)))) s) : wpAny (model P w) A (call (.builtin "tuple.__lt__") [.ref l, .ref b]) Q E s := by
  obtain ⟨cls, dd, data, sl⟩ := o1
  obtain ⟨cls2, dd2, data2, sl2⟩ := o2
  simp only at c1 d1 c2 d2
  subst c1 d1 c2 d2
  exact call_meets F.slot_tuple_lt ⟨_, h1, rfl⟩ F.entry_tuple_lt (F.args_tuple_lt_2 _ _) (tuple_ltAt l b items items2 n n2 dd dd2 sl sl2 e r) ⟨h1, h2, he, hr, h⟩
theorem oneLt_tuple {xs ys : List PyData} {a b : Value} {as bs : List Addr} {Q : Bool → Shared → Prop} (ra : Reads s.heap a (.tuple xs) as) (rb : Reads s.heap b (.tuple ys) bs) (hal : alikeAll xs ys = true)
    (hu : A.units + min (PyData.tuple xs).depth (PyData.tuple ys).depth < cLine) (hq : Q (dataLt (.tuple xs) (.tuple ys)) s) : wpAny (model P w) A (oneLt' true a b) Q E s := by
  cases ra with
  | @tuple l o vs n _ as₁ h1 h2 h3 h4 =>
    cases rb with
    | @tuple l' o' vs' n' _ bs₁ k1 k2 k3 k4 =>
      have n1 : vs.size = xs.length := by simpa using SeqAt.ReadsAll.length _ _ _ h4
      have n2 : vs'.size = ys.length := by simpa using SeqAt.ReadsAll.length _ _ _ k4
      rw [dataLt_tuple, ← firstLt_toks xs ys hal, ← n1, ← n2] at hq
      rw [oneLt'_eq]
      simp only [if_true]
      refine wpAny_bind (wpAny_cRoomFor (SeqAt.room_here hu) ?_)
      refine wpAny_bind (wpAny_callSpecialIfBound?_slot (T := "tuple") ⟨_, h1, h2⟩ F.slot_tuple_lt (call_tuple_lt (e := pairEq xs ys) (r := fun j => dataLt (xs.getD j .none) (ys.getD j .none)) h1 h2 h3 k1 k2 k3 (fun j j1 j2 => ?_) (fun j j1 j2 hj => ?_) ?_))
      · have := eqAt_alikeAll xs ys A.in1 s vs.toList vs'.toList _ _ h4 k4 hal (SeqAt.room_in hu) j (by simpa using j1) (by simpa using j2)
        simpa using this
      · have := rcLt_alikeAll xs ys A.in1 s vs.toList vs'.toList _ _ h4 k4 hal (SeqAt.room_in hu) j (by simpa using j1) (by simpa using j2) hj
        simpa using this
      · exact wpAny_truthy_bool hq

def emptyT : PyData → Bool
  | .tuple [] => true
  | _ => false
theorem mix_firsts {M : Model} : ∀ (vs : List Value) (ds : List PyData) {Q : List (Option Value) → Shared → Prop}, EachIs (fun v d => ∃ xs as, d = PyData.tuple xs ∧ Reads s.heap v d as) vs ds → (∀ fs, EachIs (fun (f : Option Value) d => f.isSome = !(emptyT d)) fs ds → Q fs s) → wpAny M A (vs.mapM firstOfTuple') Q E s
  | _, _, _, .nil, h => by rw [List.mapM_nil]; exact wpAny_pure (h [] .nil)
  | v :: vs, d :: ds, Q, .cons ⟨xs, as, hd, r⟩ t, h => by
    subst hd
    rw [List.mapM_cons]
    refine wpAny_bind ?_
    cases r with
    | @tuple a o its n _ _ ho hc hdt hr =>
      rw [kas_first_eq]
      refine wpAny_bind (Looks.here (show Looks M s.heap (typeOf (.ref a)) o.cls from (Looks.ld ho).andThen .now) ?_)
      rw [hc, if_neg (by first | decide | simp)]
      refine wpAny_bind (listItems_at ho hdt (wpAny_pure ?_))
      refine wpAny_bind (mix_firsts vs ds (Q := fun bs s' => wpAny M A (pure (its[0]? :: bs)) Q E s') t fun fs hfs => wpAny_pure (h _ (.cons ?_ hfs)))
      cases q : its.toList with
      | nil =>
        rw [q] at hr
        cases hr
        rw [← Array.getElem?_toList, q]
        rfl
      | cons f fr =>
        rw [q] at hr
        cases hr with
        | cons r1 r2 =>
          rw [← Array.getElem?_toList, q]
          rfl
theorem each_get_none {fs : List (Option Value)} {ds : List PyData} (h : EachIs (fun (f : Option Value) d => f.isSome = !(emptyT d)) fs ds) (he : ∃ d ∈ ds, emptyT d = true) : ∃ f ∈ fs, f.isSome = false := by
  induction h with
  | nil =>
    obtain ⟨d, hd, _⟩ := he
    cases hd
  | @cons f d fs ds h1 t ih =>
    obtain ⟨d', hd, e⟩ := he
    rcases List.mem_cons.mp hd with rfl | hd
    · exact ⟨f, .head _, by rw [h1, e]; rfl⟩
    · obtain ⟨g, hg, e2⟩ := ih ⟨d', hd, e⟩
      exact ⟨g, .tail _ hg, e2⟩
theorem mix_kind {M : Model} {v₀ : Value} {d₀ : PyData} {vs : List Value} {ds : List PyData} {Q : SortKind → Shared → Prop} (e : EachIs (fun v d => ∃ xs as, d = PyData.tuple xs ∧ Reads s.heap v d as) (v₀ :: vs) (d₀ :: ds)) (he : ∃ d ∈ d₀ :: ds, emptyT d = true)
    (h : Q (if emptyT d₀ = true then oneType' else general') s) : wpAny M A (keyKind' (v₀ :: vs).toArray) Q E s := by
  rw [kat_kind_eq, List.mapM_toArray, map_eq_pure_bind]
  refine wpAny_bind (wpAny_bind (mix_firsts _ _ e fun fs hfs => wpAny_pure ?_))
  obtain ⟨g, hg, hgn⟩ := each_get_none hfs he
  cases hfs with
  | @cons f0 _ fr _ h0 ht =>
    have hall : ¬ (((f0 :: fr).toArray.all fun x => x.isSome) = true) := fun q => by
      rw [List.all_toArray, List.all_eq_true] at q
      have := q g hg
      rw [hgn] at this
      cases this
    rw [if_neg hall]
    cases hd : emptyT d₀ with
    | false =>
      rw [hd] at h h0
      have : ((f0 :: fr).toArray[0]?.bind id).isSome = true := by
        simp only [List.getElem?_toArray, List.getElem?_cons_zero, Option.bind_some, id]
        exact h0
      rw [if_pos this]
      exact wpAny_pure h
    | true =>
      rw [hd] at h h0
      have h0n : ¬ ((f0 :: fr).toArray[0]?.bind id).isSome = true := by
        simp only [List.getElem?_toArray, List.getElem?_cons_zero, Option.bind_some, id]
        rw [h0]
        decide
      rw [if_neg h0n]
      rw [oneTypeOnly'_eq, List.mapM_toArray, map_eq_pure_bind]
      refine wpAny_bind (wpAny_bind (wpAny_bind (kas_mapM (r := Value.type "tuple") _ (fun v hv Q' hq => ?_) (wpAny_pure ?_))))
      · obtain ⟨d, _, xs, as, rfl, r⟩ := e.left v hv
        exact (looks_reads r).here hq
      · have hall2 : ((List.map (fun _ => Value.type "tuple") (v₀ :: vs)).toArray.all fun x => x == Value.type "tuple") = true := by
          simp only [List.all_toArray, List.all_map, List.all_eq_true]
          intro _ _
          exact beq_self_eq_true _
        have h00 : (List.map (fun _ => Value.type "tuple") (v₀ :: vs)).toArray[0]? = some (Value.type "tuple") := by simp
        rw [h00]
        simp only [hall2, if_true]
        exact wpAny_pure (wpAny_pure h)
/-- tuples that read as alike data can be sorted, with () among them too -/
theorem sortsAt_tuples {vs : List Value} {ds : List PyData} (e : EachIs (fun v d => ∃ as, Reads s.heap v d as) vs ds) (hal : AllAlike ds) (ht : ∀ d ∈ ds, ∃ xs, d = .tuple xs) (hu : ∀ d, d ∈ ds → A.units + d.depth < cLine) : SortsAt P w A s (dataKind s.heap ds) vs := by
  have room : ∀ {d d' : PyData}, d ∈ ds → A.units + min d.depth d'.depth < cLine := fun {d d'} hd => Nat.lt_of_le_of_lt (Nat.add_le_add_left (Nat.min_le_left _ _) _) (hu d hd)
  by_cases hne : ∃ d ∈ ds, emptyT d = true
  · have e2 : EachIs (fun v d => ∃ xs as, d = PyData.tuple xs ∧ Reads s.heap v d as) vs ds := (each_mem e).mono fun v d ⟨⟨as, r⟩, hd⟩ => by
      obtain ⟨xs, rfl⟩ := ht d hd
      exact ⟨xs, as, rfl, r⟩
    refine ⟨fun v hv => ?_, ?_⟩
    · obtain ⟨d, hd, as, r⟩ := e.left v hv
      exact ⟨_, dataKind_some hal hd r⟩
    · cases e2 with
      | nil =>
        obtain ⟨d, hd, _⟩ := hne
        cases hd
      | @cons v₀ d₀ vs ds a t =>
        refine ⟨if emptyT d₀ = true then oneType' else general', ?_, fun h2 E Q hq => mix_kind (.cons a t) hne hq⟩
        intro E x y a b Q ha hb hq
        obtain ⟨d, as, hd, ra, rfl⟩ := dataKind_inv ha
        obtain ⟨d', as', hd', rb, rfl⟩ := dataKind_inv hb
        obtain ⟨xs, rfl⟩ := ht d hd
        obtain ⟨ys, rfl⟩ := ht d' hd'
        split
        · rw [keyLt'_oneType]
          exact oneLt_tuple ra rb (by simpa [alike] using hal _ hd _ hd') (room hd) hq
        · show wpAny (model P w) A (oneLt' false x y) Q E s
          exact oneLt_alike (fun q => nomatch q) ra rb (hal _ hd _ hd') (fun q => nomatch q) (room hd) hq
  · refine SortsAt.data e hal (.inl fun d hd => ?_) hu
    obtain ⟨xs, rfl⟩ := ht d hd
    cases xs with
    | nil => exact absurd ⟨_, hd, rfl⟩ hne
    | cons x r => exact ⟨x, r, rfl⟩
end
end NsT
namespace NsT
open PySem PySem.Spec PyProof.Rows PySem.W PySem.SeqAt L2
section
variable {P : Program} {w : World} {A : Around} {E : Value → Shared → Prop} {s : Shared}
/-- xs.sort(), tuples, () among them too -/
theorem list_sort_tup {β : Type} {a : Addr} {n : Nat} {R : Value → β → Prop} {vs : List Value} {bs : List β} {enc : β → PyData} {Q : Value → Shared → Prop} (ho : s.heap.get? a = some (seqObj "list" vs.toArray n)) (e : EachIs R vs bs)
    (er : EachIs (fun v b => ∃ as, Reads s.heap v (enc b) as ∧ a ∉ as) vs bs) (hal : AllAlike (bs.map enc)) (ht : ∀ d ∈ bs.map enc, ∃ xs, d = .tuple xs) (hL : bs.length ≤ sizeLine)
    (hu : ∀ b, b ∈ bs → A.units + 1 + (enc b).depth < cLine) (h : ∀ out, out.length = bs.length → EachIs R out (bs.mergeSort (dataLe false enc)) → Q .none { s with heap := sortedHeap s.heap a vs (List.toArray out) }) :
    wpAny (model P w) A (call (.builtin "list.sort") [.ref a]) Q E s := by
  have er' : EachIs (fun v b => ∃ as, Reads (sortingHeap s.heap a vs) v (enc b) as) vs bs := each_keepBut (h' := sortingHeap s.heap a vs) (fun _ _ hb q => sortingHeap_old hb q) (fun o q => by rw [ho] at q; rw [← Option.some.inj q]) hal er
  refine wpAny_call_entry slot_list_sort ⟨_, ho, rfl⟩ entry_list_sort (list_sort_vals (κ := dataKind (sortingHeap s.heap a vs) (bs.map enc)) ho (sortsAt_tuples (s := { s with heap := sortingHeap s.heap a vs }) (each_map (R := fun v d => ∃ as, Reads (sortingHeap s.heap a vs) v d as) enc er') hal ht (bound_map hu)) (by rw [e.length]; exact hL) ⟨.none, rfl, ?_⟩) (args_list_sort _)
  exact h _ (by rw [sortVals_length false rfl]; exact e.length) (sortVals_data false e er' hal)
/-- sorted(S), S such a set -/
theorem sorted_setT {a : Addr} {L : List (Addr × NestedKey)} {es : Array (Int × Value)} {ep : Nat} {t : SetTable} {Q : Value → Shared → Prop} (R : SetN P w s.heap a L es ep t) (hh : A.handled = none) (hu : A.units + 12 < cLine)
    (rd : ∀ q ∈ L, Reads s.heap (.ref q.1) q.2.data []) (hal : ∀ M : List (Addr × NestedKey), (∀ q ∈ M, q ∈ L) → AllAlike (M.map fun q => q.2.data)) (hso : ∀ q ∈ L, ∃ xs, q.2.data = .tuple xs)
    (hQ : ∀ s' p (out : Array Value) (c : Nat) (L' : List (Addr × NestedKey)), (∀ b o, s.heap.get? b = some o → s'.heap.get? b = some o) → s'.gens = s.gens → s'.os = s.os → s.heap.objs.size ≤ p →
      s'.heap.get? p = some (seqObj "list" out c) → out.toList = L'.map (fun q => Value.ref q.1) → L'.Perm L → L'.Pairwise (fun q r => dataLe false (fun q : Addr × NestedKey => q.2.data) q r = true) → Q (.ref p) s') :
    wpAny (model P w) A (call (.builtin "sorted") [.ref a]) Q E s := by
  obtain ⟨o, ho, hex, hd⟩ := R.ob
  have hsz := R.size
  have hfew := R.few
  refine Calls.call_function_entry kind_sorted plain_sorted entry_sorted (args_sorted1 _) ?_
  unfold Builtin.«sorted»
  refine wpAny_bind (m := checkCount "sorted" 1 1 _) (wpAny_pure ?_)
  refine wpAny_bind (collect_set (A := A.in1) hh ⟨o, ho, hex.1, hd⟩ R.fits (by unfold scanBound; omega) R.tab.ris R.led fun s1 vs k1 hz g1 o1 pm => ?_)
  have hes : es.toList.map (·.2) = L.map fun q => Value.ref q.1 := by
    rw [R.rows]
    unfold rowsN
    rw [List.map_map] <;> rfl
  rw [hes] at pm
  have one : ∀ q ∈ L, ∀ r ∈ L, q.1 = r.1 → q = r := fun q hq r hr e => by
    have a1 := R.tup q hq
    have a2 := R.tup r hr
    rw [e] at a1
    exact Prod.ext e (a1.inj a2)
  have nref : (L.map fun q => Value.ref q.1).Nodup := by
    have nL : L.Nodup := nodup_of_map R.nd
    refine List.pairwise_map.mpr (List.Pairwise.imp_of_mem (fun {q r} hq hr hne e => ?_) nL)
    injection e with e
    exact hne (one q hq r hr e)
  obtain ⟨M, eM, pM⟩ : ∃ M : List (Addr × NestedKey), vs = M.map (fun q => Value.ref q.1) ∧ M.Perm L := by
    have ord : ∀ vs : List Value, (∀ v ∈ vs, ∃ q ∈ L, v = Value.ref q.1) → ∃ M : List (Addr × NestedKey), vs = M.map (fun q => Value.ref q.1) ∧ ∀ q ∈ M, q ∈ L := by
      intro vs
      induction vs with
      | nil => intro _; exact ⟨[], rfl, fun q hq => (by cases hq)⟩
      | cons v vs ih =>
        intro hv
        obtain ⟨q, hq, e⟩ := hv v List.mem_cons_self
        obtain ⟨M, e1, hs⟩ := ih fun u hu => hv u (List.mem_cons_of_mem _ hu)
        exact ⟨q :: M, by rw [List.map_cons, e, e1], fun r hr => (List.mem_cons.mp hr).elim (fun z => z ▸ hq) (hs r)⟩
    obtain ⟨M, eM, sM⟩ := ord vs fun v hv => by
      obtain ⟨q, hq, e⟩ := List.mem_map.mp (pm.mem_iff.mp hv)
      exact ⟨q, hq, e.symm⟩
    refine ⟨M, eM, ?_⟩
    rw [eM] at pm
    have n1 : M.Nodup := nodup_of_map (pm.nodup_iff.mpr nref)
    refine (List.perm_ext_iff_of_nodup n1 (nodup_of_map R.nd)).mpr fun q => ⟨sM q, fun hq => ?_⟩
    obtain ⟨r, hr, e⟩ := List.mem_map.mp (pm.mem_iff.mpr (List.mem_map.mpr ⟨q, hq, rfl⟩))
    injection e with e
    rw [← one r (sM r hr) q hq e]
    exact hr
  subst eM
  have hvl : (M.map fun q => Value.ref q.1).length < 77 := by rw [List.length_map, pM.length_eq]; exact hfew
  refine wpAny_bind (wpAny_newList ?_ (by rw [sizeLine_eq]; omega))
  have hoL : (s1.heap.push (seqObj "list" (M.map fun q => Value.ref q.1).toArray 0)).get? s1.heap.objs.size = some (seqObj "list" (M.map fun q => Value.ref q.1).toArray 0) := Heap.get?_push_size _ rfl
  have rM : ∀ q ∈ M, Reads (s1.heap.push (seqObj "list" (M.map fun q => Value.ref q.1).toArray 0)) (.ref q.1) q.2.data [] := fun q hq => PyProof.Rows.Reads.keeps (fun b u e => Heap.get?_push_of_some _ (k1 b u e)) (rd q (pM.mem_iff.mp hq))
  refine wpAny_bind (wpAny_holding (list_sort_tup (s := { s1 with heap := s1.heap.push (seqObj "list" (M.map fun q => Value.ref q.1).toArray 0) }) (R := fun v (q : Addr × NestedKey) => v = Value.ref q.1) (enc := fun q : Addr × NestedKey => q.2.data) hoL (refs_each M) (each_reads M rM) (hal M fun q hq => pM.mem_iff.mp hq) (fun d hd => by
    obtain ⟨q, hq, rfl⟩ := List.mem_map.mp hd
    exact hso q (pM.mem_iff.mp hq)) ?_ ?_ fun out hlen hout => ?_))
  · rw [List.length_map] at hvl
    rw [sizeLine_eq]
    omega
  · intro q hq
    have h1 := (R.tup q (pM.mem_iff.mp hq)).2
    have h2 := depth_data q.2
    show A.units + 1 + 1 + q.2.data.depth < cLine
    omega
  have eo := each_refs hout
  obtain ⟨c, hc⟩ := sortedHeap_at (vs := M.map fun q => Value.ref q.1) (out := out.toArray) hoL
  refine wpAny_pure ⟨_, rfl, hQ _ s1.heap.objs.size out.toArray c (M.mergeSort (dataLe false fun q => q.2.data)) (fun b u e => ?_) g1 o1 hz hc (by simpa using eo) ((List.mergeSort_perm M _).trans pM) (sort_pairwise (dataLe_tot _) M)⟩
  have q := k1 b u e
  have hlt := Heap.lt_size q
  show (sortedHeap (s1.heap.push (seqObj "list" (M.map fun q => Value.ref q.1).toArray 0)) s1.heap.objs.size (M.map fun q => Value.ref q.1) out.toArray).get? b = some u
  rw [sortedHeap_old (Nat.ne_of_lt hlt) (by rw [size_push']; exact Nat.lt_succ_of_lt hlt)]
  exact Heap.get?_push_of_some _ q
end
section
variable {X : Cx}
def klen : NestedKey → Nat
  | .tup ks => ks.length
  | _ => 0
abbrev ARow := Addr × NestedKey
def lenLe (a b : ARow) : Bool := decide (((klen a.2 : Nat) : Int) ≤ ((klen b.2 : Nat) : Int))
/-- sorted(xs, key=len), xs a list of tuples -/
def rSortLen : List V → Hp → VK → Prop := fun vs H Q => ∃ (a : Addr) (rs : List ARow), vs = [V.ref a] ∧ LwB.Sq true H a (rs.map fun p => V.ref p.1) ∧ (∀ p ∈ rs, ∃ xs, LwB.Sq false H p.1 xs ∧ xs.length = klen p.2) ∧
  ∀ p, H p = none → Q (.ref p) (upd H p (.lst ((rs.mergeSort lenLe).map fun q => V.ref q.1)))
def tSortLen (te : TA) : TE := fun σ H Q => te σ H fun vs H1 => rSortLen vs H1 Q
/-- sorted(S) -/
def rSortT (P : Program) (w : World) : List V → Hp → VK → Prop := fun vs H Q => ∃ (a : Addr) (L : List (Addr × NestedKey)), vs = [V.ref a] ∧ H a = some (SetNO P w a L) ∧ (∀ p ∈ L, KIs H p.2 (.ref p.1) ∧ p.2.depth ≤ 7) ∧
  (∀ M : List (Addr × NestedKey), (∀ q ∈ M, q ∈ L) → AllAlike (M.map fun q => q.2.data)) ∧ (∀ q ∈ L, ∃ xs, q.2.data = .tuple xs) ∧
  ∀ (L' : List (Addr × NestedKey)) (p : Addr), L'.Perm L → (L'.map (·.2)).Nodup → L'.length < 77 → L'.Pairwise (fun q r => dataLe false (fun q : Addr × NestedKey => q.2.data) q r = true) → H p = none → Q (.ref p) (upd H p (.lst (L'.map fun q => V.ref q.1)))
theorem cr_sortT (hc : X.calm = true) (hu : X.A.units + 64 < cLine) : CallR X (.builtin "sorted") (rSortT X.prog X.w) := by
  intro pins s σ H vs us Q I r h
  obtain ⟨a, L, rfl, ha, kk, hal, hso, q⟩ := h
  have R0 : SetN0 X.prog X.w s.heap a L := (I.hok a _ ha).1
  obtain ⟨es, ep, t, R⟩ := R0.full fun p hp => ⟨((kk p hp).1.raw I rfl).1, (kk p hp).2⟩
  rw [Vals.ref1 r]
  refine sorted_setT R (I.ok.hd hc) (by omega) (fun p hp => ((kk p hp).1.raw I rfl).2) hal hso fun s' p out c L' k g o hp hg hout pm pw => ?_
  have hfew : L'.length < 77 := by rw [pm.length_eq]; exact R.few
  have hlen : (L'.map fun q => V.ref q.1).length ≤ sizeLine := by rw [List.length_map, sizeLine_eq]; omega
  have hn : H p = none := I.hok.fresh hp
  have hv : Vals (L'.map fun q => V.ref q.1) out.toList := by rw [hout]; exact of_refsN L'
  have J : Inv X pins σ (upd H p (.lst (L'.map fun q => V.ref q.1))) { s with heap := s'.heap, gens := s'.gens, drawn := s'.drawn, toks := s'.toks } :=
    I.call (ch := []) (Un.laid k hp hn) (I.hok.laid k hp ⟨hlen, out.toList, c, hv, hg⟩) (by rw [g]; exact I.bare) (fun _ z => nomatch z)
  have e : s' = { s with heap := s'.heap, gens := s'.gens, drawn := s'.drawn, toks := s'.toks } := by
    cases s'
    cases s
    cases o
    rfl
  rw [e]
  exact ⟨.ref p, _, J, rfl, q L' p pm ((pm.map (·.2)).nodup_iff.mpr R.nd) hfew pw hn⟩
theorem each_rows : ∀ (rs : List ARow), EachIs (fun v (q : ARow) => v = Value.ref q.1) (rs.map fun q => Value.ref q.1) rs
  | [] => .nil
  | _ :: rs => .cons rfl (each_rows rs)
theorem rows_each : ∀ {out : List Value} {rs : List ARow}, EachIs (fun v (q : ARow) => v = Value.ref q.1) out rs → out = rs.map fun q => Value.ref q.1
  | _, _, .nil => rfl
  | _, _, .cons e t => by rw [e, rows_each t] <;> rfl
theorem refs_of : ∀ {rs : List ARow} {us : List Value}, Vals (rs.map fun p => V.ref p.1) us → us = rs.map fun p => Value.ref p.1
  | [], _, .nil => rfl
  | p :: ks, _, .cons r t => by
    cases r
    rw [refs_of t] <;> rfl
theorem of_refs : ∀ rs : List ARow, Vals (rs.map fun p => V.ref p.1) (rs.map fun p => Value.ref p.1)
  | [] => .nil
  | p :: ks => .cons rfl (of_refs ks)
theorem cr_sortLen (hu : X.A.units + 64 < cLine) {pins : List (Addr × Obj)} {s : Shared} {σ : L2.St} {H : Hp} {vs : List V} {us : List Value} {Q : VK} (I : Inv X pins σ H s) (r : Vals vs us) (h : rSortLen vs H Q) :
    wpAny (model X.prog X.w) X.A (call (.builtin "sorted") us [(Str.ofString "key", .builtin "len")]) (EP X pins σ Q) X.xe s := by
  obtain ⟨a, rs, rfl, hl, hr, q⟩ := h
  obtain ⟨its, rv, pl, hz⟩ := I.list hl.L
  have ei := refs_of rv
  subst ei
  rw [Vals.ref1 r]
  refine sorted_key_data (b := false) (R := fun v (q : ARow) => v = Value.ref q.1) (fun q : ARow => .int ((klen q.2 : Nat) : Int)) (bs := rs) pl.isList (each_rows rs) (AllAlike.of fun _ _ => by simp [alike]) (Sortable.others fun _ => ⟨(fun z => nomatch z), fun _ z => nomatch z⟩)
    (by rw [List.length_map] at hz; exact hz) (fun x hx => ?_) (ksk_s1 _ _) (fun _ => ksk_l1 _ _) (fun _ => ksk_t4 _ _) (fun v x hv hx hp tk kp => ?_) (fun out c h' tk kp fresh hD hlen eo => ?_)
  · show X.A.units + 2 + 0 < cLine
    omega
  · subst hv
    obtain ⟨xs, hxs, hxl⟩ := hr x hx
    obtain ⟨its, rv, ⟨o, ho, hc, n, hd⟩, hz2⟩ := I.tuple hxs.T
    have hlen := rv.length
    refine len_tuple (items := its.toArray) ⟨o, kp _ _ ho, hc, n, hd⟩ ?_ ⟨_, _, rfl, fun b o e => e, ?_⟩
    · have hn := line63
      simp only [List.size_toArray] <;> omega
    · rw [List.size_toArray, ← hlen, hxl]
      exact .int _ _
  · rw [dataLe_int (fun q : ARow => ((klen q.2 : Nat) : Int))] at eo
    have eo' := rows_each eo
    subst eo'
    have hn : H (s.heap.objs.size + 1) = none := I.hok.fresh (Nat.le_succ _)
    refine ⟨.ref _, upd H (s.heap.objs.size + 1) (.lst ((rs.mergeSort lenLe).map fun q => V.ref q.1)), I.laid (t' := tk) kp (Nat.le_succ _) ⟨?_, _, c, of_refs _, hD⟩, rfl, q _ hn⟩
    rw [List.length_map, List.length_mergeSort]
    rw [List.length_map] at hz
    exact hz
theorem pe_sortLen {e : Expr} {te : TA} {p pos lp : Pos} {kp : Pos} (hu : X.A.units + 64 < cLine) (hm : X.mg "sorted" = none) (hml : X.mg "len" = none) (ha : PA X [e] te) (hg : Gl X "sorted" := by rfl) (hgl : Gl X "len" := by rfl)
    (he : backTo pos (starEach [e] X.env) = (false, eval e X.env) :: backTo pos (starEach [] X.env) := by rfl) (hpl : (backTo pos (starEach [e] X.env)).any (·.1) = false := by rfl) :
    PE X (.Call (.Name "sorted" p) [e] [⟨some "key", .Name "len" lp, kp⟩] pos) (tSortLen te) := by
  refine ⟨fun pins s σ H Q I h => ?_⟩
  refine wpAny_Call_Name_kw (ld_blt (u := .builtin "sorted") I hg hm (by decide +kernel) ?_)
  refine PyProof.Rows.callWith_kw (thn (ha.run pos pins s σ H _ I h) fun us s1 ⟨vs, H1, I1, r1, q1⟩ => ?_) he hpl rfl rfl
  show wpAny _ _ (evalAll [do let v ← eval (.Name "len" lp) X.env; standAt pos; pure v]) _ _ s1
  refine wpAny_evalAll_cons (wpAny_bind (ld_blt (u := .builtin "len") I1 hgl hml (by decide +kernel) (wpAny_bind (wpAny_standAt (wpAny_pure (wpAny_evalAll_nil ?_))))))
  exact cr_sortLen hu I1 r1 q1
end
end NsT
namespace LwB
open PySem PySem.Spec PyProof.Rows L2 IqX RvT EnS TL NsT
variable [LwB.KC]
/-! ### the order of words -/
def strLt (a b : Str) : Bool := decide (a.cps.toList < b.cps.toList)
def lexS : List Str → List Str → Bool
  | _, [] => false
  | [], _ :: _ => true
  | a :: u, b :: w => if a = b then lexS u w else strLt a b
def wLt (u w : List Str) : Bool := if u.length = w.length then lexS u w else decide (u.length < w.length)
theorem str_ext {a b : Str} (h : a.cps.toList = b.cps.toList) : a = b := by
  obtain ⟨⟨x⟩⟩ := a
  obtain ⟨⟨y⟩⟩ := b
  have h' : x = y := h
  rw [h']
theorem strLt_irr (a : Str) : strLt a a = false := decide_eq_false (List.lt_irrefl _)
theorem strLt_trans {a b c : Str} (h : strLt a b = true) (h' : strLt b c = true) : strLt a c = true := decide_eq_true (List.lt_trans (of_decide_eq_true h) (of_decide_eq_true h'))
theorem strLt_tri {a b : Str} (h : strLt a b = false) (h' : strLt b a = false) : a = b := by
  have h1 := List.not_lt.mp (of_decide_eq_false h)
  have h2 := List.not_lt.mp (of_decide_eq_false h')
  exact str_ext (List.le_antisymm h2 h1)
theorem lexS_irr : ∀ u : List Str, lexS u u = false
  | [] => rfl
  | a :: u => by
    show (if a = a then lexS u u else strLt a a) = false
    rw [if_pos rfl, lexS_irr u]
theorem lexS_cons (a b : Str) (u w : List Str) : lexS (a :: u) (b :: w) = if a = b then lexS u w else strLt a b := rfl
theorem lexS_trans : ∀ {u v w : List Str}, lexS u v = true → lexS v w = true → lexS u w = true
  | [], [], _, h, _ => by cases h
  | _ :: _, [], _, h, _ => by cases h
  | _, _ :: _, [], _, h => by cases h
  | [], _ :: _, _ :: _, _, _ => rfl
  | a :: u, b :: v, c :: w, h, h' => by
    rw [lexS_cons] at h h' ⊢
    by_cases e1 : a = b
    · subst e1
      rw [if_pos rfl] at h
      by_cases e2 : a = c
      · subst e2
        rw [if_pos rfl] at h' ⊢
        exact lexS_trans h h'
      · rw [if_neg e2] at h' ⊢
        exact h'
    · rw [if_neg e1] at h
      by_cases e2 : b = c
      · subst e2
        rw [if_neg e1]
        exact h
      · rw [if_neg e2] at h'
        have := strLt_trans h h'
        by_cases e3 : a = c
        · subst e3
          rw [strLt_irr] at this
          cases this
        · rw [if_neg e3]
          exact this
theorem lexS_tri : ∀ {u w : List Str}, lexS u w = false → lexS w u = false → u = w
  | [], [], _, _ => rfl
  | [], _ :: _, h, _ => by cases h
  | _ :: _, [], _, h => by cases h
  | a :: u, b :: w, h, h' => by
    rw [lexS_cons] at h h'
    by_cases e : a = b
    · subst e
      rw [if_pos rfl] at h h'
      rw [lexS_tri h h']
    · rw [if_neg e] at h
      rw [if_neg fun q => e q.symm] at h'
      exact absurd (strLt_tri h h') e
theorem wLt_irr (u : List Str) : wLt u u = false := by
  unfold wLt
  rw [if_pos rfl, lexS_irr]
theorem wLt_trans {u v w : List Str} (h : wLt u v = true) (h' : wLt v w = true) : wLt u w = true := by
  unfold wLt at h h' ⊢
  split at h
  · split at h'
    · rename_i e1 e2
      rw [if_pos (e1.trans e2)]
      exact lexS_trans h h'
    · rename_i e1 e2
      rw [if_neg (by omega)]
      have := of_decide_eq_true h'
      exact decide_eq_true (by omega)
  · split at h'
    · rename_i e1 e2
      have := of_decide_eq_true h
      rw [if_neg (by omega)]
      exact decide_eq_true (by omega)
    · rename_i e1 e2
      have h1 := of_decide_eq_true h
      have h2 := of_decide_eq_true h'
      rw [if_neg (by omega)]
      exact decide_eq_true (by omega)
theorem wLt_tri {u w : List Str} (h : wLt u w = false) (h' : wLt w u = false) : u = w := by
  unfold wLt at h h'
  by_cases e : u.length = w.length
  · rw [if_pos e] at h
    rw [if_pos e.symm] at h'
    exact lexS_tri h h'
  · rw [if_neg e] at h
    rw [if_neg fun q => e q.symm] at h'
    have h1 := of_decide_eq_false h
    have h2 := of_decide_eq_false h'
    omega
theorem wLt_asym {u w : List Str} (h : wLt u w = true) : wLt w u = false := by
  cases e : wLt w u with
  | false => rfl
  | true =>
    have := wLt_trans h e
    rw [wLt_irr] at this
    cases this
/-! ### each once, in order -/
def insW (w : List Str) : List (List Str) → List (List Str)
  | [] => [w]
  | v :: vs => if w = v then v :: vs else if wLt w v = true then w :: v :: vs else v :: insW w vs
def canon : List (List Str) → List (List Str)
  | [] => []
  | w :: Ws => insW w (canon Ws)
def Srt (l : List (List Str)) : Prop := l.Pairwise fun u w => wLt u w = true
theorem ins_mem {w x : List Str} : ∀ {l : List (List Str)}, x ∈ insW w l ↔ x = w ∨ x ∈ l
  | [] => by
    show x ∈ [w] ↔ _
    simp
  | v :: vs => by
    unfold insW
    split
    · rename_i e
      subst e
      simp
    · split
      · simp
      · rw [List.mem_cons, ins_mem, List.mem_cons]
        constructor
        · rintro (h | h | h)
          · exact .inr (.inl h)
          · exact .inl h
          · exact .inr (.inr h)
        · rintro (h | h | h)
          · exact .inr (.inl h)
          · exact .inl h
          · exact .inr (.inr h)
theorem ins_srt {w : List Str} : ∀ {l : List (List Str)}, Srt l → Srt (insW w l)
  | [], _ => List.pairwise_singleton _ _
  | v :: vs, h => by
    have h1 := List.pairwise_cons.mp h
    unfold insW
    split
    · exact h
    · rename_i ne
      split
      · rename_i lt
        refine List.pairwise_cons.mpr ⟨fun x hx => ?_, h⟩
        rcases List.mem_cons.mp hx with rfl | hx
        · exact lt
        · exact wLt_trans lt (h1.1 x hx)
      · rename_i nl
        refine List.pairwise_cons.mpr ⟨fun x hx => ?_, ins_srt h1.2⟩
        rcases ins_mem.mp hx with rfl | hx
        · cases e : wLt v x with
          | true => rfl
          | false => exact absurd (wLt_tri (Bool.eq_false_iff.mpr nl) e) ne
        · exact h1.1 x hx
theorem canon_mem {x : List Str} : ∀ {Ws : List (List Str)}, x ∈ canon Ws ↔ x ∈ Ws
  | [] => Iff.rfl
  | w :: Ws => by
    show x ∈ insW w (canon Ws) ↔ _
    rw [ins_mem, canon_mem, List.mem_cons]
theorem canon_srt : ∀ Ws : List (List Str), Srt (canon Ws)
  | [] => List.Pairwise.nil
  | w :: Ws => ins_srt (canon_srt Ws)
theorem srt_unique : ∀ {l m : List (List Str)}, Srt l → Srt m → (∀ x, x ∈ l ↔ x ∈ m) → l = m
  | [], [], _, _, _ => rfl
  | [], y :: m, _, _, h => by
    have := (h y).mpr (.head _)
    cases this
  | x :: l, [], _, _, h => by
    have := (h x).mp (.head _)
    cases this
  | x :: l, y :: m, hl, hm, h => by
    have h1 := List.pairwise_cons.mp hl
    have h2 := List.pairwise_cons.mp hm
    have e : x = y := by
      rcases List.mem_cons.mp ((h x).mp (.head _)) with e | hx
      · exact e
      · rcases List.mem_cons.mp ((h y).mpr (.head _)) with e | hy
        · exact e.symm
        · have a := wLt_asym (h2.1 x hx)
          rw [h1.1 y hy] at a
          cases a
    subst e
    refine congrArg (x :: ·) (srt_unique h1.2 h2.2 fun z => ⟨fun hz => ?_, fun hz => ?_⟩)
    · rcases List.mem_cons.mp ((h z).mp (.tail _ hz)) with e | q
      · have := h1.1 z hz
        rw [e, wLt_irr] at this
        cases this
      · exact q
    · rcases List.mem_cons.mp ((h z).mpr (.tail _ hz)) with e | q
      · have := h2.1 z hz
        rw [e, wLt_irr] at this
        cases this
      · exact q
theorem canon_unique {Ws Us : List (List Str)} (hs : Srt Us) (h : ∀ x, x ∈ Us ↔ x ∈ Ws) : Us = canon Ws := srt_unique hs (canon_srt Ws) fun x => (h x).trans canon_mem.symm
theorem canon_self {Us : List (List Str)} (hs : Srt Us) : canon Us = Us := (canon_unique hs fun _ => Iff.rfl).symm
theorem canon_congr {Ws Us : List (List Str)} (h : ∀ x, x ∈ Ws ↔ x ∈ Us) : canon Ws = canon Us := canon_unique (canon_srt Ws) fun x => canon_mem.trans (h x)
theorem canon_nodup (Ws : List (List Str)) : (canon Ws).Nodup := (canon_srt Ws).imp fun {u w} h e => by
  rw [e, wLt_irr] at h
  cases h
theorem canon_len (Ws : List (List Str)) : (canon Ws).length ≤ Ws.length := nodup_sub_len (canon_nodup Ws) fun _ h => canon_mem.mp h
/-! ### what the built-ins' order says -/
theorem eqv_str (a b : Str) : PySem.PyData.eqv (.str a) (.str b) = decide (a = b) := by
  simp [PyData.eqv]
  rfl
theorem row_lt : ∀ u w : List Str, PyProof.Rows.lexLt PyProof.Rows.itemOrd (PySem.W.keyToksAll (NestedKey.datas (u.map NestedKey.text))) (PySem.W.keyToksAll (NestedKey.datas (w.map NestedKey.text))) = lexS u w
  | [], [] => by simp [NestedKey.datas, PySem.W.keyToksAll, PyProof.Rows.lexLt, lexS, PyProof.Rows.itemOrd, PyProof.Rows.itemLt]
  | [], b :: w => by simp [NestedKey.datas, NestedKey.data, PySem.W.keyToksAll, PySem.W.keyToks, PyProof.Rows.lexLt, lexS, PyProof.Rows.itemOrd, PyProof.Rows.itemLt]
  | a :: u, [] => by simp [NestedKey.datas, NestedKey.data, PySem.W.keyToksAll, PySem.W.keyToks, PyProof.Rows.lexLt, lexS, PyProof.Rows.itemOrd, PyProof.Rows.itemLt]
  | a :: u, b :: w => by
    have h : PySem.W.alike (PyData.str a) (PyData.str b) = true := by simp [PySem.W.alike]
    have e1 : NestedKey.datas ((a :: u).map NestedKey.text) = .str a :: NestedKey.datas (u.map NestedKey.text) := by simp [NestedKey.datas, NestedKey.data]
    have e2 : NestedKey.datas ((b :: w).map NestedKey.text) = .str b :: NestedKey.datas (w.map NestedKey.text) := by simp [NestedKey.datas, NestedKey.data]
    rw [e1, e2, PySem.W.dataLt_cons h, row_lt u w, eqv_str, PySem.W.dataLt_str, lexS_cons]
    by_cases e : a = b
    · rw [if_pos e, if_pos (decide_eq_true e)]
    · rw [if_neg e, if_neg (by simp [e])]
      rfl
theorem rowK_lt (u w : List Str) : PySem.W.dataLt (rowK u).data (rowK w).data = lexS u w := by
  have e : ∀ u : List Str, (rowK u).data = .tuple (NestedKey.datas (u.map NestedKey.text)) := fun u => by simp [rowK, NestedKey.data]
  rw [e, e, PySem.W.dataLt_tuple, row_lt]
theorem pairK_lt (u w : List Str) : PySem.W.dataLt (pairK u).data (pairK w).data = wLt u w := by
  have e : ∀ u : List Str, (pairK u).data = .tuple [.int ((u.length : Nat) : Int), (rowK u).data] := fun u => by simp [pairK, NestedKey.data, NestedKey.datas]
  have a1 : PySem.W.alike (PyData.int ((u.length : Nat) : Int)) (PyData.int ((w.length : Nat) : Int)) = true := by simp [PySem.W.alike]
  rw [e, e, PySem.W.dataLt_tuple, PySem.W.dataLt_cons a1, PySem.W.dataLt_cons (alike_row u w), rowK_lt]
  have e2 : PySem.PyData.eqv (.int ((u.length : Nat) : Int)) (.int ((w.length : Nat) : Int)) = decide (u.length = w.length) := by
    have : (((u.length : Nat) : Int) == ((w.length : Nat) : Int)) = decide (u.length = w.length) := by
      rw [Bool.eq_iff_iff]
      simp
      omega
    simpa [PyData.eqv] using this
  rw [e2]
  unfold wLt
  by_cases hl : u.length = w.length
  · rw [if_pos (decide_eq_true hl), if_pos hl]
    cases q : PySem.PyData.eqv (rowK u).data (rowK w).data with
    | false => rw [if_neg (by simp)]
    | true =>
      rw [if_pos rfl]
      have h1 := (PySem.W.toks_eqv _ _ (alike_row u w)).1 q
      have h2 : lexS u w = PyProof.Rows.lexLt PyProof.Rows.itemOrd (PySem.W.keyToks (rowK u).data) (PySem.W.keyToks (rowK w).data) := (rowK_lt u w).symm
      have h3 : lexS u w = false := by rw [h2, h1, PyProof.Rows.lex_irrefl]
      rw [h3]
      simp [PySem.W.keyToksAll, PyProof.Rows.lexLt, PyProof.Rows.itemOrd, PyProof.Rows.itemLt]
  · rw [if_neg (by simp [hl]), if_neg hl, PySem.W.dataLt_int]
    rw [Bool.eq_iff_iff]
    simp
theorem wLe_eq (u w : List Str) : wLe u w = !wLt w u := by
  unfold wLe
  rw [PySem.W.dataLe_eq]
  show (!PySem.W.dataLt (pairK w).data (pairK u).data) = _
  rw [pairK_lt]
theorem SortedOf.canon {Ws Us : List (List Str)} (h : SortedOf Ws Us) : Us = LwB.canon Ws := by
  refine canon_unique ?_ h.1
  have h1 := h.2.2.and h.2.1
  refine h1.imp fun {u w} ⟨a, ne⟩ => ?_
  rw [wLe_eq] at a
  cases e : wLt u w with
  | true => rfl
  | false =>
    cases e2 : wLt w u with
    | true =>
      rw [e2] at a
      cases a
    | false => exact absurd (wLt_tri e e2) ne
/-! ### sorted, then by length: the places stay -/
theorem pair_or {α : Type} {a b : α} (ne : a ≠ b) : ∀ {l : List α}, a ∈ l → b ∈ l → [a, b].Sublist l ∨ [b, a].Sublist l
  | [], h, _ => by cases h
  | c :: l, ha, hb => by
    rcases List.mem_cons.mp ha with rfl | ha'
    · rcases List.mem_cons.mp hb with e | hb'
      · exact absurd e.symm ne
      · exact .inl (.cons₂ _ (List.singleton_sublist.mpr hb'))
    · rcases List.mem_cons.mp hb with rfl | hb'
      · exact .inr (.cons₂ _ (List.singleton_sublist.mpr ha'))
      · rcases pair_or ne ha' hb' with h | h
        · exact .inl (.cons _ h)
        · exact .inr (.cons _ h)
theorem pair_no {α : Type} {a b : α} : ∀ {l : List α}, l.Nodup → [a, b].Sublist l → [b, a].Sublist l → False
  | [], _, h, _ => by cases h
  | c :: l, nd, h, h' => by
    obtain ⟨n1, n2⟩ := List.nodup_cons.mp nd
    cases h with
    | cons _ h =>
      cases h' with
      | cons _ h' => exact pair_no n2 h h'
      | cons_cons _ h' => exact n1 (h.subset (.tail _ (.head _)))
    | cons_cons _ h =>
      cases h' with
      | cons _ h' => exact n1 (h'.subset (.tail _ (.head _)))
      | cons_cons _ h' => exact n1 (h'.subset (.head _))
theorem lenLe_tr (a b c : ARow) (h : lenLe a b = true) (h' : lenLe b c = true) : lenLe a c = true := by
  have h1 := of_decide_eq_true h
  have h2 := of_decide_eq_true h'
  exact decide_eq_true (by omega)
theorem lenLe_tot (a b : ARow) : (lenLe a b || lenLe b a) = true := by
  unfold lenLe
  by_cases h : ((klen a.2 : Nat) : Int) ≤ ((klen b.2 : Nat) : Int)
  · rw [decide_eq_true h]
    rfl
  · have : ((klen b.2 : Nat) : Int) ≤ ((klen a.2 : Nat) : Int) := by omega
    rw [decide_eq_true this, Bool.or_true]
theorem klen_row (w : List Str) : klen (rowK w) = w.length := by
  show (w.map NestedKey.text).length = _
  rw [List.length_map]
/-- rows that stand in lexical order, each once, sorted by length -/
theorem by_len {L M : List ARow} {Us : List (List Str)} (hk : ∀ q ∈ L, ∃ w, q.2 = rowK w) (nd : (L.map (·.2)).Nodup) (pw : L.Pairwise fun q r => PySem.W.dataLe false (fun q : ARow => q.2.data) q r = true) (hM : M = L.mergeSort lenLe) (hu : M.map (·.2) = Us.map rowK) : Srt Us := by
  have pm : M.Perm L := by rw [hM]; exact List.mergeSort_perm _ _
  have ndL : L.Nodup := nodup_of_map nd
  have ndM : M.Nodup := pm.nodup_iff.mpr ndL
  have key : M.Pairwise fun q r => ∀ u w, q.2 = rowK u → r.2 = rowK w → wLt u w = true := by
    refine List.pairwise_iff_forall_sublist.mpr fun {q r} hs u w eu ew => ?_
    have hq := pm.mem_iff.mp (hs.subset (.head _))
    have hr := pm.mem_iff.mp (hs.subset (.tail _ (.head _)))
    have hle : lenLe q r = true := by
      have := List.pairwise_mergeSort lenLe_tr lenLe_tot L
      rw [← hM] at this
      exact List.pairwise_iff_forall_sublist.mp this hs
    have hl := of_decide_eq_true hle
    rw [eu, ew, klen_row, klen_row] at hl
    unfold wLt
    by_cases e : u.length = w.length
    · rw [if_pos e]
      have ne : q ≠ r := by
        rintro rfl
        have := List.pairwise_iff_forall_sublist.mp ndM hs
        exact this rfl
      have fwd : [q, r].Sublist L := by
        rcases pair_or ne hq hr with h | h
        · exact h
        · have hle2 : lenLe r q = true := by
            unfold lenLe
            rw [eu, ew, klen_row, klen_row]
            exact decide_eq_true (by omega)
          have := List.pair_sublist_mergeSort lenLe_tr lenLe_tot hle2 h
          rw [← hM] at this
          exact (pair_no ndM hs this).elim
      have h1 := List.pairwise_iff_forall_sublist.mp pw fwd
      rw [PySem.W.dataLe_eq] at h1
      have h2 : (!PySem.W.dataLt r.2.data q.2.data) = true := h1
      rw [eu, ew, rowK_lt] at h2
      cases e3 : lexS u w with
      | true => rfl
      | false =>
        cases e4 : lexS w u with
        | true =>
          rw [e4] at h2
          cases h2
        | false =>
          have euw := lexS_tri e3 e4
          have hne : q.2 ≠ r.2 := List.pairwise_iff_forall_sublist.mp (List.pairwise_map.mp nd) fwd
          exact absurd (by rw [eu, ew, euw]) hne
    · rw [if_neg e]
      exact decide_eq_true (by omega)
  have h2 : (M.map (·.2)).Pairwise fun k l => ∀ u w, k = rowK u → l = rowK w → wLt u w = true := List.pairwise_map.mpr key
  rw [hu, List.pairwise_map] at h2
  exact h2.imp fun {u w} h => h u w rfl rfl
end LwB
namespace LwB
open PySem PySem.Spec PyProof.Rows L2 IqX RvT EnS TL NsT
variable [LwB.KC]
abbrev Words := List (List Str)
theorem wLt_len {u w : List Str} (h : wLt u w = true) : u.length ≤ w.length := by
  unfold wLt at h
  split at h
  · omega
  · have := of_decide_eq_true h
    omega
/-! ### those that are a part of no other one -/
def grStep (kept : Words) (w : List Str) : Words := if (kept.any fun u => isPart w u) = true then kept else kept ++ [w]
def grF (l kept : Words) : Words := l.foldl grStep kept
def gr (Ws : Words) : Words := (grF (canon Ws).reverse []).reverse
theorem grF_cons (w : List Str) (l kept : Words) : grF (w :: l) kept = grF l (grStep kept w) := rfl
theorem gr_inv : ∀ (l kept : Words), (∀ x ∈ kept, x ∈ grF l kept) ∧ (∀ z ∈ l, ∃ x ∈ grF l kept, z.Sublist x) ∧ (grF l kept).Sublist (kept ++ l)
  | [], kept => ⟨fun _ h => h, (fun _ h => by cases h), by rw [List.append_nil]; exact List.Sublist.refl _⟩
  | w :: l, kept => by
    obtain ⟨h1, h2, h3⟩ := gr_inv l (grStep kept w)
    rw [grF_cons]
    by_cases q : (kept.any fun u => isPart w u) = true
    · have e : grStep kept w = kept := if_pos q
      rw [e] at h1 h2 h3 ⊢
      refine ⟨h1, fun z hz => ?_, h3.trans (List.Sublist.append (List.Sublist.refl _) (.cons _ (List.Sublist.refl _)))⟩
      rcases List.mem_cons.mp hz with rfl | hz
      · obtain ⟨x, hx, p⟩ := List.any_eq_true.mp q
        exact ⟨x, h1 x hx, (isPart_iff _ _).mp p⟩
      · exact h2 z hz
    · have e : grStep kept w = kept ++ [w] := if_neg q
      rw [e] at h1 h2 h3 ⊢
      refine ⟨fun x hx => h1 x (List.mem_append_left _ hx), fun z hz => ?_, by rw [List.append_assoc] at h3; exact h3⟩
      rcases List.mem_cons.mp hz with rfl | hz
      · exact ⟨z, h1 z (List.mem_append_right _ (.head _)), List.Sublist.refl _⟩
      · exact h2 z hz
/-- an antichain, whatever comes later in a descending row -/
theorem gr_anti : ∀ (l kept : Words), l.Pairwise (fun u w => wLt w u = true) → (∀ x ∈ kept, ∀ w ∈ l, wLt w x = true) → (∀ x ∈ kept, ∀ y ∈ kept, x.Sublist y → x = y) → ∀ x ∈ grF l kept, ∀ y ∈ grF l kept, x.Sublist y → x = y
  | [], kept, _, _, h => h
  | w :: l, kept, hd, hk, ha => by
    have hd2 := List.pairwise_cons.mp hd
    rw [grF_cons]
    by_cases q : (kept.any fun u => isPart w u) = true
    · have e : grStep kept w = kept := if_pos q
      rw [e]
      exact gr_anti l kept hd2.2 (fun x hx v hv => hk x hx v (.tail _ hv)) ha
    · have e : grStep kept w = kept ++ [w] := if_neg q
      rw [e]
      refine gr_anti l _ hd2.2 (fun x hx v hv => ?_) (fun x hx y hy s => ?_)
      · rcases List.mem_append.mp hx with hx | hx
        · exact hk x hx v (.tail _ hv)
        · rw [List.mem_singleton.mp hx]
          exact hd2.1 v hv
      · rcases List.mem_append.mp hx with hx1 | hx
        · rcases List.mem_append.mp hy with hy1 | hy1
          · exact ha x hx1 y hy1 s
          · have h1 := hk x hx1 w (.head _)
            rw [List.mem_singleton.mp hy1] at s ⊢
            exact s.eq_of_length_le (wLt_len h1)
        · rw [List.mem_singleton] at hx
          subst hx
          rcases List.mem_append.mp hy with hy | hy
          · exact absurd (List.any_eq_true.mpr ⟨y, hy, (isPart_iff _ _).mpr s⟩) q
          · rw [List.mem_singleton.mp hy]
theorem gr_sub (Ws : Words) : (gr Ws).Sublist (canon Ws) := by
  have h := (gr_inv (canon Ws).reverse []).2.2
  rw [List.nil_append] at h
  have h2 := h.reverse
  rw [List.reverse_reverse] at h2
  exact h2
theorem gr_mem {Ws : Words} {x : List Str} (h : x ∈ gr Ws) : x ∈ Ws := canon_mem.mp ((gr_sub Ws).subset h)
theorem gr_srt (Ws : Words) : Srt (gr Ws) := (canon_srt Ws).sublist (gr_sub Ws)
theorem gr_cov {Ws : Words} {z : List Str} (h : z ∈ Ws) : ∃ x ∈ gr Ws, z.Sublist x := by
  obtain ⟨x, hx, s⟩ := (gr_inv (canon Ws).reverse []).2.1 z (List.mem_reverse.mpr (canon_mem.mpr h))
  exact ⟨x, List.mem_reverse.mpr hx, s⟩
theorem gr_ac {Ws : Words} {x y : List Str} (hx : x ∈ gr Ws) (hy : y ∈ gr Ws) (s : x.Sublist y) : x = y :=
  gr_anti (canon Ws).reverse [] (List.pairwise_reverse.mpr (canon_srt Ws)) (fun _ h => by cases h) (fun _ h => by cases h) x (List.mem_reverse.mp hx) y (List.mem_reverse.mp hy) s
/-! ### what two words share -/
def clRow (a : Str) (f : List Str → Words) : List Str → Words
  | [] => [[]]
  | b :: w => if a = b then (f w).map (a :: ·) else gr (f (b :: w) ++ clRow a f w)
def cl : List Str → List Str → Words
  | [], _ => [[]]
  | a :: u, es => clRow a (cl u) es
theorem cl_nil (es : List Str) : cl [] es = [[]] := rfl
theorem cl_end (u : List Str) : cl u [] = [[]] := by cases u <;> rfl
theorem cl_cons (a b : Str) (u w : List Str) : cl (a :: u) (b :: w) = if a = b then (cl u w).map (a :: ·) else gr (cl u (b :: w) ++ cl (a :: u) w) := rfl
/-- greatest parts of both -/
structure Great (one other : List Str) (l : Words) : Prop where
  in1 : ∀ x ∈ l, x.Sublist one ∧ x.Sublist other
  cov : ∀ z : List Str, z.Sublist one → z.Sublist other → ∃ x ∈ l, z.Sublist x
  anti : ∀ x ∈ l, ∀ y ∈ l, x.Sublist y → x = y
  srt : Srt l
theorem sub_tail {a : Str} {z u : List Str} (h : z.Sublist (a :: u)) (hz : ∀ z', z ≠ a :: z') : z.Sublist u := by
  cases h with
  | cons _ h => exact h
  | cons_cons _ h => exact absurd rfl (hz _)
theorem cl_great : ∀ (n : Nat) (one other : List Str), one.length + other.length ≤ n → Great one other (cl one other)
  | _, [], es, _ => by
    refine ⟨fun x hx => ?_, fun z h _ => ⟨[], .head _, h⟩, fun x hx y hy _ => ?_, List.pairwise_singleton _ _⟩
    · rw [List.mem_singleton.mp hx]
      exact ⟨List.Sublist.refl _, List.nil_sublist _⟩
    · rw [List.mem_singleton.mp hx, List.mem_singleton.mp hy]
  | _, a :: u, [], _ => by
    rw [cl_end]
    refine ⟨fun x hx => ?_, fun z _ h => ⟨[], .head _, h⟩, fun x hx y hy _ => ?_, List.pairwise_singleton _ _⟩
    · rw [List.mem_singleton.mp hx]
      exact ⟨List.nil_sublist _, List.Sublist.refl _⟩
    · rw [List.mem_singleton.mp hx, List.mem_singleton.mp hy]
  | 0, a :: u, b :: w, h => by
    rw [List.length_cons] at h
    omega
  | n + 1, a :: u, b :: w, h => by
    rw [List.length_cons, List.length_cons] at h
    rw [cl_cons]
    by_cases e : a = b
    · subst e
      rw [if_pos rfl]
      have g := cl_great n u w (by omega)
      refine ⟨fun x hx => ?_, fun z h1 h2 => ?_, fun x hx y hy s => ?_, ?_⟩
      · obtain ⟨x', hx', rfl⟩ := List.mem_map.mp hx
        exact ⟨.cons₂ _ (g.in1 x' hx').1, .cons₂ _ (g.in1 x' hx').2⟩
      · by_cases q : ∃ z', z = a :: z'
        · obtain ⟨z', rfl⟩ := q
          obtain ⟨x, hx, s⟩ := g.cov z' (List.cons_sublist_cons.mp h1) (List.cons_sublist_cons.mp h2)
          exact ⟨a :: x, List.mem_map.mpr ⟨x, hx, rfl⟩, .cons₂ _ s⟩
        · have q' : ∀ z', z ≠ a :: z' := fun z' e => q ⟨z', e⟩
          obtain ⟨x, hx, s⟩ := g.cov z (sub_tail h1 q') (sub_tail h2 q')
          exact ⟨a :: x, List.mem_map.mpr ⟨x, hx, rfl⟩, .cons _ s⟩
      · obtain ⟨x', hx', rfl⟩ := List.mem_map.mp hx
        obtain ⟨y', hy', rfl⟩ := List.mem_map.mp hy
        rw [g.anti x' hx' y' hy' (List.cons_sublist_cons.mp s)]
      · refine List.pairwise_map.mpr (g.srt.imp fun {u w} q => ?_)
        unfold wLt at q ⊢
        rw [List.length_cons, List.length_cons]
        split at q
        · rename_i el
          rw [if_pos (by omega), lexS_cons, if_pos rfl]
          exact q
        · rename_i el
          have := of_decide_eq_true q
          rw [if_neg (by omega)]
          exact decide_eq_true (by omega)
    · rw [if_neg e]
      have g1 := cl_great n u (b :: w) (by rw [List.length_cons]; omega)
      have g2 := cl_great n (a :: u) w (by rw [List.length_cons]; omega)
      refine ⟨fun x hx => ?_, fun z h1 h2 => ?_, fun x hx y hy s => gr_ac hx hy s, gr_srt _⟩
      · rcases List.mem_append.mp (gr_mem hx) with h | h
        · exact ⟨.cons _ (g1.in1 x h).1, (g1.in1 x h).2⟩
        · exact ⟨(g2.in1 x h).1, .cons _ (g2.in1 x h).2⟩
      · have step : ∃ x ∈ cl u (b :: w) ++ cl (a :: u) w, z.Sublist x := by
          by_cases q : ∃ z', z = a :: z'
          · obtain ⟨z', rfl⟩ := q
            have h3 : (a :: z').Sublist w := sub_tail h2 fun z'' q => e (List.cons.inj q).1
            obtain ⟨x, hx, s⟩ := g2.cov _ h1 h3
            exact ⟨x, List.mem_append_right _ hx, s⟩
          · obtain ⟨x, hx, s⟩ := g1.cov z (sub_tail h1 fun z' e => q ⟨z', e⟩) h2
            exact ⟨x, List.mem_append_left _ hx, s⟩
        obtain ⟨x, hx, s⟩ := step
        obtain ⟨y, hy, s'⟩ := gr_cov hx
        exact ⟨y, hy, s.trans s'⟩
/-- those that are a part of no other one, by asking all -/
def maxs (l : Words) : Words := l.filter fun w => (l.filter fun u => decide (u ≠ w) && isPart w u).isEmpty
theorem maxs_mem {l : Words} {x : List Str} : x ∈ maxs l ↔ x ∈ l ∧ ∀ u ∈ l, x.Sublist u → u = x := by
  unfold maxs
  rw [List.mem_filter, List.isEmpty_iff, List.filter_eq_nil_iff]
  refine and_congr_right fun _ => ⟨fun h u hu s => ?_, fun h u hu q => ?_⟩
  · have := h u hu
    rw [Bool.and_eq_true] at this
    exact Classical.byContradiction fun ne => this ⟨decide_eq_true ne, (isPart_iff _ _).mpr s⟩
  · rw [Bool.and_eq_true] at q
    exact of_decide_eq_true q.1 (h u hu ((isPart_iff _ _).mp q.2))
theorem maxs_srt {l : Words} (h : Srt l) : Srt (maxs l) := h.sublist List.filter_sublist
theorem great_eq {one other : List Str} {l Cs : Words} (g : Great one other l) (hC : ∀ x, x ∈ Cs ↔ x.Sublist one ∧ x.Sublist other) : l = maxs (canon Cs) := by
  refine srt_unique g.srt (maxs_srt (canon_srt Cs)) fun x => ?_
  rw [maxs_mem, canon_mem, hC]
  constructor
  · intro hx
    refine ⟨g.in1 x hx, fun u hu s => ?_⟩
    have hu' := (hC u).mp (canon_mem.mp hu)
    obtain ⟨y, hy, s2⟩ := g.cov u hu'.1 hu'.2
    have e := g.anti x hx y hy (s.trans s2)
    subst e
    exact s2.eq_of_length_le s.length_le
  · rintro ⟨h1, h2⟩
    obtain ⟨y, hy, s⟩ := g.cov x h1.1 h1.2
    have := h2 y (canon_mem.mpr ((hC y).mpr (g.in1 y hy))) s
    rw [← this]
    exact hy
/-- all parts of a word -/
def subsF (l : List Str) (acc : Words) : Words := l.foldl (fun acc e => acc ++ acc.map (· ++ [e])) acc
def subs (l : List Str) : Words := subsF l [[]]
theorem subsF_mem {x : List Str} : ∀ {l : List Str} {acc : Words}, x ∈ subsF l acc ↔ ∃ p q, p ∈ acc ∧ q.Sublist l ∧ x = p ++ q
  | [], acc => by
    constructor
    · intro h
      exact ⟨x, [], h, List.Sublist.refl _, (List.append_nil x).symm⟩
    · rintro ⟨p, q, hp, hq, rfl⟩
      have : q = [] := List.sublist_nil.mp hq
      subst this
      rw [List.append_nil]
      exact hp
  | e :: l, acc => by
    show x ∈ subsF l (acc ++ acc.map (· ++ [e])) ↔ _
    rw [subsF_mem]
    constructor
    · rintro ⟨p, q, hp, hq, rfl⟩
      rcases List.mem_append.mp hp with hp | hp
      · exact ⟨p, q, hp, .cons _ hq, rfl⟩
      · obtain ⟨p', hp', rfl⟩ := List.mem_map.mp hp
        exact ⟨p', e :: q, hp', .cons₂ _ hq, by rw [List.append_assoc]; rfl⟩
    · rintro ⟨p, q, hp, hq, rfl⟩
      cases hq with
      | cons _ hq => exact ⟨p, q, List.mem_append_left _ hp, hq, rfl⟩
      | @cons_cons q' _ _ hq => exact ⟨p ++ [e], q', List.mem_append_right _ (List.mem_map.mpr ⟨p, hp, rfl⟩), hq, by rw [List.append_assoc]; rfl⟩
theorem subs_mem {l x : List Str} : x ∈ subs l ↔ x.Sublist l := by
  unfold subs
  rw [subsF_mem]
  constructor
  · rintro ⟨p, q, hp, hq, rfl⟩
    rw [List.mem_singleton.mp hp]
    exact hq
  · intro h
    exact ⟨[], x, .head _, h, rfl⟩
theorem subsF_len : ∀ (l : List Str) (acc : Words), (subsF l acc).length = 2 ^ l.length * acc.length
  | [], acc => by
    show acc.length = 1 * acc.length
    rw [Nat.one_mul]
  | e :: l, acc => by
    show (subsF l (acc ++ acc.map (· ++ [e]))).length = _
    rw [subsF_len, List.length_append, List.length_map, List.length_cons, Nat.pow_succ, Nat.mul_assoc]
    congr 1
    omega
theorem subs_len (l : List Str) : (subs l).length = 2 ^ l.length := by
  unfold subs
  rw [subsF_len]
  exact Nat.mul_one _
theorem great_len {one other : List Str} {l : Words} (g : Great one other l) : l.length ≤ 2 ^ one.length := by
  rw [← subs_len]
  refine nodup_sub_len (g.srt.imp fun {u w} h e => ?_) fun x hx => subs_mem.mpr (g.in1 x hx).1
  rw [e, wLt_irr] at h
  cases h
theorem cl_g (one other : List Str) : Great one other (cl one other) := cl_great _ one other (Nat.le_refl _)
theorem cl_shared (one other : List Str) : cl one other = maxs (canon ((subs one).filter fun w => isPart w other)) := great_eq (cl_g one other) fun x => by
  rw [List.mem_filter, subs_mem, isPart_iff]
theorem cl_swap (one other : List Str) : cl one other = cl other one := by
  rw [cl_shared one other, cl_shared other one]
  refine congrArg maxs (canon_congr fun x => ?_)
  rw [List.mem_filter, List.mem_filter, subs_mem, subs_mem, isPart_iff, isPart_iff]
  exact and_comm
end LwB
namespace LwB
open PySem PySem.Spec PyProof.Rows L2 IqX RvT EnS TL NsT
variable [LwB.KC]
def spInOrder : Sp := fun vs H Q _ => ∃ (a : Addr) (Ws : Words), vs = [.ref a] ∧ Bas true H a Ws ∧ Ws.length < 77 ∧ ∀ H' p, Same H H' → Bas true H' p (canon Ws) → Q (.ref p) H'
def spGreatest : Sp := fun vs H Q _ => ∃ (a : Addr) (Ws : Words), vs = [.ref a] ∧ Bas true H a Ws ∧ Ws.length < 77 ∧ (∀ w ∈ Ws, w.length ≤ 1000) ∧ ∀ H' p, Same H H' → Bas true H' p (gr Ws) → Q (.ref p) H'
/-- n: how deep it may go -/
def spCommonL (n : Nat) : Sp := fun vs H Q _ => ∃ (a c : Addr) (ws es : List Str), vs = [.ref a, .ref c] ∧ Sq false H a (ws.map V.str) ∧ Sq false H c (es.map V.str) ∧ ws.length + es.length ≤ n ∧ ws.length ≤ 5 ∧ es.length ≤ 1000 ∧ ∀ H' p, Same H H' → Bas true H' p (cl ws es) → Q (.ref p) H'
def spCommon : Sp := fun vs H Q _ => ∃ (t b : Bool) (a c : Addr) (ws es : List Str), vs = [.ref a, .ref c] ∧ Sq t H a (ws.map V.str) ∧ Sq b H c (es.map V.str) ∧ ws.length ≤ 5 ∧ es.length ≤ 5 ∧ ∀ H' p, Same H H' → Bas false H' p (cl ws es) → Q (.ref p) H'
def spSharedL : Sp := fun vs H Q _ => ∃ (a c : Addr) (ws es : List Str), vs = [.ref a, .ref c] ∧ Sq false H a (ws.map V.str) ∧ Sq false H c (es.map V.str) ∧ ws.length ≤ 5 ∧ es.length ≤ 1000 ∧ ∀ H' p, Same H H' → Bas false H' p (cl ws es) → Q (.ref p) H'
theorem Sq.ne_list {H : Hp} {p b : Addr} {xs ys : List V} (h : Sq false H p xs) (e : H b = some (.lst ys)) : p ≠ b := by
  rintro rfl
  rcases h with h | ⟨o, h⟩
  · rw [h] at e
    cases e
  · rw [h] at e
    cases e
theorem RowAt.fl {H H' : Hp} {o : Addr} {w : List Str} {v : V} {ys : List V} (f : Fr o H H') (e : H o = some (.lst ys)) (h : RowAt H w v) : RowAt H' w v := by
  obtain ⟨p, ev, hp, l⟩ := h
  exact ⟨p, ev, f.sq (hp.ne_list e) hp, l⟩
theorem rowK_data (w : List Str) : ∃ xs, (rowK w).data = .tuple xs := ⟨NestedKey.datas (w.map NestedKey.text), by simp [rowK, NestedKey.data]⟩
theorem RowAt.len {H : Hp} {w : List Str} {p : Addr} (h : RowAt H w (.ref p)) : ∃ xs, Sq false H p xs ∧ xs.length = klen (rowK w) := by
  obtain ⟨p', e, hp, _⟩ := h
  cases e
  exact ⟨_, hp, by rw [List.length_map, klen_row]⟩
theorem Bas.rev {t : Bool} {H : Hp} {a : Addr} {xs : List V} {Ws : Words} (hs : Sq t H a xs.reverse) (hl : xs.length ≤ 1000000) (p : Paired (RowAt H) Ws xs) : Bas t H a Ws.reverse := by
  refine ⟨_, hs, by rw [List.length_reverse]; exact hl, ?_⟩
  clear hs hl
  induction p with
  | nil => exact .nil
  | cons r t ih =>
    rw [List.reverse_cons, List.reverse_cons]
    exact paired_snoc ih r
/-- what sorted(sorted(set(xs)), key=len) is -/
theorem in_order_eq {Ws Us : Words} {ks L' : List ARow} {LL : List ARow} (e2 : ks.map (·.2) = Ws.map rowK) (sub : ∀ q ∈ LL, q ∈ ks) (all : ∀ q ∈ ks, q.2 ∈ LL.map (·.2)) (pm : L'.Perm LL) (nd : (L'.map (·.2)).Nodup)
    (pw : L'.Pairwise fun q r => PySem.W.dataLe false (fun q : ARow => q.2.data) q r = true) (hu : (L'.mergeSort lenLe).map (·.2) = Us.map rowK) : Us = canon Ws := by
  have hk : ∀ q ∈ ks, ∃ w ∈ Ws, q.2 = rowK w := fun q hq => by
    have : q.2 ∈ ks.map (·.2) := List.mem_map.mpr ⟨q, hq, rfl⟩
    rw [e2] at this
    obtain ⟨w, hw, e⟩ := List.mem_map.mp this
    exact ⟨w, hw, e.symm⟩
  have pM : (L'.mergeSort lenLe).Perm LL := (List.mergeSort_perm _ _).trans pm
  refine canon_unique (by_len (L := L') (M := L'.mergeSort lenLe) (fun q hq => ?_) nd pw rfl hu) fun x => ?_
  · obtain ⟨w, _, e⟩ := hk q (sub q (pm.mem_iff.mp hq))
    exact ⟨w, e⟩
  · have h1 : rowK x ∈ (L'.mergeSort lenLe).map (·.2) ↔ x ∈ Us := by
      rw [hu]
      exact ⟨fun h => by obtain ⟨z, hz, e⟩ := List.mem_map.mp h; rw [← rowK_inj e]; exact hz, fun h => List.mem_map.mpr ⟨x, h, rfl⟩⟩
    have h2 : rowK x ∈ ks.map (·.2) ↔ x ∈ Ws := by
      rw [e2]
      exact ⟨fun h => by obtain ⟨z, hz, e⟩ := List.mem_map.mp h; rw [← rowK_inj e]; exact hz, fun h => List.mem_map.mpr ⟨x, h, rfl⟩⟩
    rw [← h1, ← h2, (pM.map (·.2)).mem_iff]
    constructor
    · intro h
      obtain ⟨q, hq, e⟩ := List.mem_map.mp h
      exact List.mem_map.mpr ⟨q, sub q hq, e⟩
    · intro h
      obtain ⟨q, hq, e⟩ := List.mem_map.mp h
      rw [← e]
      exact all q hq
end LwB
namespace LwB
open PySem PySem.Spec PyProof.Rows L2 IqX RvT EnS TL NsT
variable [LwB.KC]
/-! ### names by their slots -/
abbrev EnvT := List (Nat × Tr)
def look : EnvT → Nat → Option Tr
  | [], _ => none
  | p :: r, i => match Nat.beq p.1 i with
    | true => some p.2
    | false => look r i
def del (i : Nat) : EnvT → EnvT
  | [] => []
  | p :: r => match Nat.beq p.1 i with
    | true => del i r
    | false => p :: del i r
theorem look_mem : ∀ {env : EnvT} {i : Nat} {T : Tr}, look env i = some T → (i, T) ∈ env
  | p :: r, i, T, h => by
    unfold look at h
    split at h
    · rename_i e
      have e1 := Nat.eq_of_beq_eq_true e
      cases h
      rw [← e1]
      exact .head _
    · exact .tail _ (look_mem h)
theorem del_sub {i : Nat} : ∀ {env : EnvT} {p : Nat × Tr}, p ∈ del i env → p ∈ env
  | q :: r, p, h => by
    unfold del at h
    split at h
    · exact .tail _ (del_sub h)
    · rcases List.mem_cons.mp h with rfl | h
      · exact .head _
      · exact .tail _ (del_sub h)
theorem del_ne {i : Nat} : ∀ {env : EnvT} {p : Nat × Tr}, p ∈ del i env → p.1 ≠ i
  | q :: r, p, h => by
    unfold del at h
    split at h
    · exact del_ne h
    · rename_i e
      rcases List.mem_cons.mp h with rfl | h
      · exact Nat.ne_of_beq_eq_false e
      · exact del_ne h
def SubE : EnvT → EnvT → Prop
  | [], _ => True
  | p :: r, env => look env p.1 = some p.2 ∧ SubE r env
theorem SubE.mem : ∀ {e' env : EnvT}, SubE e' env → ∀ p ∈ e', p ∈ env
  | q :: r, env, h, p, hp => by
    rcases List.mem_cons.mp hp with rfl | hp
    · exact look_mem h.1
    · exact SubE.mem h.2 p hp
/-! ### lists of one's own, and the box of draws -/
inductive Cn where
  | lst (ts : List Tr)
  | box (b : Addr) (n : Nat)
def Cn.ok (W : Hp) (g : Addr) : Cn → List V → Prop
  | .lst ts, vs => vs.length ≤ 1000000 ∧ Paired (It W) ts vs
  | .box b n, vs => g = b ∧ ∃ x0 x1 x2 : Int, vs = [.int x0, .int x1, .int x2] ∧ 0 ≤ x0 ∧ 0 ≤ x1 ∧ x1 < 2 ^ 62 ∧ 0 ≤ x2 ∧ x2 ≤ (n : Int)
theorem Cn.ok_mv {W W' : Hp} {g : Addr} {c : Cn} {vs : List V} (e : Same W W') (h : c.ok W g vs) : c.ok W' g vs := by
  cases c with
  | lst ts => exact ⟨h.1, paired_imp h.2 fun _ _ r => r.mv e⟩
  | box b n => exact h
abbrev OwnT := List (Nat × Cn)
def Ow (own : OwnT) (σ : L2.St) (W H : Hp) : Prop := ∃ ad : Nat → Addr, (∀ p ∈ own, σ[p.1]? = some (some (.ref (ad p.1))) ∧ W (ad p.1) = none ∧ ∃ vs, H (ad p.1) = some (.lst vs) ∧ p.2.ok W (ad p.1) vs) ∧
  ∀ p ∈ own, ∀ q ∈ own, ad p.1 = ad q.1 → p.1 = q.1
theorem Ow.sub {own own' : OwnT} {σ : L2.St} {W H : Hp} (h : Ow own σ W H) (hs : ∀ p ∈ own', p ∈ own) : Ow own' σ W H := by
  obtain ⟨ad, h1, h2⟩ := h
  exact ⟨ad, fun p hp => h1 p (hs p hp), fun p hp q hq => h2 p (hs p hp) q (hs q hq)⟩
theorem Ow.nil {σ : L2.St} {W H : Hp} : Ow [] σ W H := ⟨fun _ => default, fun _ h => (by cases h), fun _ h => (by cases h)⟩
structure Sv (N : Nat) (env : EnvT) (own : OwnT) (σ : L2.St) (W H : Hp) : Prop where
  vw : Vw W H
  ev : Ev N env σ W
  ow : Ow own σ W H
section
variable {N : Nat} {env env' : EnvT} {own own' : OwnT} {σ : L2.St} {W H H' : Hp} {i : Nat}
theorem Sv.sub (S : Sv N env own σ W H) (he : ∀ p ∈ env', p ∈ env) (ho : ∀ p ∈ own', p ∈ own) : Sv N env' own' σ W H := ⟨S.vw, S.ev.sub he, S.ow.sub ho⟩
theorem Sv.step (S : Sv N env own σ W H) (s : Same H H') : Sv N env own σ (LwB.vw W H H') H' := by
  refine ⟨S.vw.next s, S.ev.mv (vw_keep S.vw), ?_⟩
  obtain ⟨ad, h1, h2⟩ := S.ow
  refine ⟨ad, fun p hp => ?_, h2⟩
  obtain ⟨a1, a2, vs, a3, a4⟩ := h1 p hp
  exact ⟨a1, by rw [vw_old a3]; exact a2, vs, s _ _ a3, Cn.ok_mv (vw_keep S.vw) a4⟩
theorem Sv.keep (S : Sv N env own σ W H) : Same W (LwB.vw W H H') := vw_keep S.vw
def freeO (i : Nat) : OwnT → Bool
  | [] => true
  | p :: r => match Nat.beq p.1 i with
    | true => false
    | false => freeO i r
theorem freeO_ne : ∀ {own : OwnT} {i : Nat}, freeO i own = true → ∀ p ∈ own, p.1 ≠ i
  | q :: r, i, h, p, hp => by
    unfold freeO at h
    split at h
    · cases h
    · rename_i e
      rcases List.mem_cons.mp hp with rfl | hp
      · exact Nat.ne_of_beq_eq_false e
      · exact freeO_ne h p hp
theorem Ow.put {v : Option V} (h : Ow own σ W H) (hf : ∀ p ∈ own, p.1 ≠ i) : Ow own (σ.set i v) W H := by
  obtain ⟨ad, h1, h2⟩ := h
  refine ⟨ad, fun p hp => ?_, h2⟩
  obtain ⟨a1, r⟩ := h1 p hp
  exact ⟨by rw [List.getElem?_set_ne fun e => hf p hp e.symm]; exact a1, r⟩
theorem Sv.set {T : Tr} {v : V} (S : Sv N env own σ W H) (hi : i < N) (hf : freeO i own = true) (x : It W T v) : Sv N ((i, T) :: del i env) own (σ.set i (some v)) W H :=
  ⟨S.vw, (S.ev.sub fun _ h => del_sub h).set hi (fun _ h => del_ne h) x, S.ow.put (freeO_ne hf)⟩
theorem Sv.put {v : Option V} (S : Sv N env own σ W H) (hf : freeO i own = true) : Sv N (del i env) own (σ.set i v) W H :=
  ⟨S.vw, (S.ev.sub fun _ h => del_sub h).put (fun _ h => del_ne h), S.ow.put (freeO_ne hf)⟩
/-- what holds of the lists of one's own, as trees -/
def fullE : OwnT → EnvT → EnvT
  | [], env => env
  | p :: own, env => match p.2 with
    | .lst ts => (p.1, .sq true ts) :: fullE own env
    | .box _ _ => fullE own env
theorem fullE_mem : ∀ {own : OwnT} {p : Nat × Tr}, p ∈ fullE own env → p ∈ env ∨ ∃ ts, (p.1, Cn.lst ts) ∈ own ∧ p.2 = .sq true ts
  | [], p, h => .inl h
  | q :: own, p, h => by
    unfold fullE at h
    split at h
    · rename_i ts e
      rcases List.mem_cons.mp h with rfl | h
      · refine .inr ⟨ts, ?_, rfl⟩
        have : q = (q.1, Cn.lst ts) := by rw [← e]
        rw [← this]
        exact .head _
      · rcases fullE_mem h with h | ⟨ts, h, e⟩
        · exact .inl h
        · exact .inr ⟨ts, .tail _ h, e⟩
    · rcases fullE_mem h with h | ⟨ts, h, e⟩
      · exact .inl h
      · exact .inr ⟨ts, .tail _ h, e⟩
theorem Sv.full (S : Sv N env own σ W H) : Ev N (fullE own env) σ H := by
  refine ⟨S.ev.1, fun p hp => ?_⟩
  rcases fullE_mem hp with h | ⟨ts, h, e⟩
  · obtain ⟨v, e1, i1⟩ := S.ev.2 p h
    exact ⟨v, e1, i1.mv S.vw.sub⟩
  · obtain ⟨ad, h1, _⟩ := S.ow
    obtain ⟨a1, a2, vs, a3, a4, a5⟩ := h1 _ h
    rw [e]
    exact ⟨_, a1, It.sq (.lst a3) a4 (paired_imp a5 fun _ _ r => r.mv S.vw.sub)⟩
end
/-! ### what a statement leaves -/
inductive Oc where
  | go (env : EnvT) (own : OwnT)
  | ret (T : Tr) (own : OwnT)
  | retL (ts : List Tr) (own : OwnT)
  | ct (env : EnvT) (own : OwnT)
  | bk (env : EnvT) (own : OwnT)
  | any (R : Tr → Prop) (own : OwnT)
def Oc.meets (N : Nat) (D : Ends) (W : Hp) : Oc → Prop
  | .go env own => ∀ σ' W' H', Same W W' → Sv N env own σ' W' H' → D.nx σ' H'
  | .ret T own => ∀ v σ' W' H', Same W W' → Sv N [] own σ' W' H' → It W' T v → D.rt v H'
  | .retL ts own => ∀ g vs σ' W' H', Same W W' → Sv N [] own σ' W' H' → W' g = none → H' g = some (.lst vs) → vs.length ≤ 1000000 → Paired (It W') ts vs → D.rt (.ref g) H'
  | .ct env own => ∀ σ' W' H', Same W W' → Sv N env own σ' W' H' → D.ct σ' H'
  | .bk env own => ∀ σ' W' H', Same W W' → Sv N env own σ' W' H' → D.bk σ' H'
  | .any R own => ∀ v T σ' W' H', Same W W' → Sv N [] own σ' W' H' → R T → It W' T v → D.rt v H'
theorem Oc.meets.mono {N : Nat} {D : Ends} {W W1 : Hp} {o : Oc} (h : o.meets N D W) (s : Same W W1) : o.meets N D W1 := by
  cases o with
  | go env own => exact fun σ' W' H' s' => h σ' W' H' (s.trans s')
  | ret T own => exact fun v σ' W' H' s' => h v σ' W' H' (s.trans s')
  | retL ts own => exact fun g vs σ' W' H' s' => h g vs σ' W' H' (s.trans s')
  | ct env own => exact fun σ' W' H' s' => h σ' W' H' (s.trans s')
  | bk env own => exact fun σ' W' H' s' => h σ' W' H' (s.trans s')
  | any R own => exact fun v T σ' W' H' s' => h v T σ' W' H' (s.trans s')
def tS (N : Nat) (env : EnvT) (own : OwnT) (o : Oc) : TS := fun D σ H => ∃ W, Sv N env own σ W H ∧ o.meets N D W
section
variable {X : Cx} {N : Nat} {env : EnvT} {own own' : OwnT} {o : Oc} {rest : List Stmt} {pos pos' : Pos}
theorem s_env {env' : EnvT} (h : PSs X rest (tS N env' own o)) (hs : SubE env' env) : PSs X rest (tS N env own o) :=
  PSs.imp h fun D σ H ⟨W, S, q⟩ => ⟨W, S.sub hs.mem fun _ h => h, q⟩
theorem s_envO {env' : EnvT} {own' : OwnT} (h : PSs X rest (tS N env' own' o)) (hs : ∀ p ∈ env', p ∈ env) (ho : ∀ p ∈ own', p ∈ own) : PSs X rest (tS N env own o) :=
  PSs.imp h fun D σ H ⟨W, S, q⟩ => ⟨W, S.sub hs ho, q⟩
theorem s_go {env' : EnvT} (hs : SubE env' env) : PSs X [] (tS N env own (.go env' own)) :=
  PSs.imp pss_nil fun D σ H ⟨W, S, q⟩ => q σ W H (Same.refl W) (S.sub hs.mem fun _ h => h)
theorem le_v {e : Expr} {i : Nat} {T : Tr} (h : PE X e (tVar i)) (hm : look env i = some T := by rfl) : PE X e (tLe N env T) := le_var h (look_mem hm)
/-- x = e -/
theorem s_set {i : Nat} {x : Str} {e : Expr} {T : Tr} (hN : X.N.Nodup) (hi : X.N[i]? = some x) (hx : Loc X.env.scope x) (he : PE X e (tLe N env T)) (hrest : PSs X rest (tS N ((i, T) :: del i env) own o)) (hiN : i < N := by decide) (hf : freeO i own = true := by rfl)
    (hs : swapsWith e (some (.Name x pos')) pos.line X.env = pure false := by rfl) (hfn : X.fn x = true ∨ X.env.scope.names.lookup x = some .local := by first | exact .inl rfl | exact .inr rfl | assumption) : PSs X (.Assign [.Name x pos'] e pos :: rest) (tS N env own o) :=
  PSs.imp (pss_cons (ps_set (i := i) hN hi hx he hs hfn) hrest) fun D σ H ⟨W, S, q⟩ => ⟨W, S.vw, S.ev, fun H1 v s1 i1 => ⟨_, (S.step s1).set hiN hf i1, q.mono S.keep⟩⟩
/-- x = e, lists of one's own among what e looks at -/
theorem s_setO {i : Nat} {x : Str} {e : Expr} {T : Tr} (hN : X.N.Nodup) (hi : X.N[i]? = some x) (hx : Loc X.env.scope x) (he : PE X e (tLe N (fullE own env) T)) (hT : T.nol = true) (hrest : PSs X rest (tS N ((i, T) :: del i env) own o)) (hiN : i < N := by decide) (hf : freeO i own = true := by rfl)
    (hs : swapsWith e (some (.Name x pos')) pos.line X.env = pure false := by rfl) (hfn : X.fn x = true ∨ X.env.scope.names.lookup x = some .local := by first | exact .inl rfl | exact .inr rfl | assumption) : PSs X (.Assign [.Name x pos'] e pos :: rest) (tS N env own o) :=
  PSs.imp (pss_cons (ps_set (i := i) hN hi hx he hs hfn) hrest) fun D σ H ⟨W, S, q⟩ => ⟨H, S.vw.self, S.full, fun H1 v s1 i1 => ⟨_, (S.step s1).set hiN hf (It.nol (S.vw.next s1) hT (i1.mv (S.vw.self.next s1).sub)), q.mono S.keep⟩⟩
/-- x = a new list, to be changed -/
theorem s_new {i : Nat} {x : Str} {e : Expr} {ts : List Tr} (hN : X.N.Nodup) (hi : X.N[i]? = some x) (hx : Loc X.env.scope x) (he : PE X e (tLf N env ts)) (hrest : PSs X rest (tS N (del i env) ((i, .lst ts) :: own) o)) (hiN : i < N := by decide) (hf : freeO i own = true := by rfl)
    (hs : swapsWith e (some (.Name x pos')) pos.line X.env = pure false := by rfl) (hfn : X.fn x = true ∨ X.env.scope.names.lookup x = some .local := by first | exact .inl rfl | exact .inr rfl | assumption) : PSs X (.Assign [.Name x pos'] e pos :: rest) (tS N env own o) :=
  PSs.imp (pss_cons (ps_set (i := i) hN hi hx he hs hfn) hrest) fun D σ H ⟨W, S, q⟩ => ⟨W, S.vw, S.ev, fun H1 g vs s1 ng eg hl p => by
    have S1 := (S.step s1).put (i := i) (v := some (.ref g)) hf
    have kp : Same W (rm (LwB.vw W H H1) g) := keep_rm S.vw ng
    refine ⟨rm (LwB.vw W H H1) g, ⟨S1.vw.rm eg, ?_, ?_⟩, q.mono kp⟩
    · exact ((S.ev.sub fun _ h => del_sub h).mv kp).put fun _ h => del_ne h
    · obtain ⟨ad, h1, h2⟩ := S.ow
      have hadn : ∀ p ∈ own, ad p.1 ≠ g := fun p hp e => by
        obtain ⟨_, _, vs', a3, _⟩ := h1 p hp
        rw [e, ng] at a3
        cases a3
      have hne := freeO_ne hf
      obtain ⟨ad', e1, e2⟩ : ∃ ad' : Nat → Addr, ad' i = g ∧ ∀ j, j ≠ i → ad' j = ad j := ⟨fun j => if j = i then g else ad j, if_pos rfl, fun j hj => if_neg hj⟩
      refine ⟨ad', fun p hp => ?_, fun p hp r hr e => ?_⟩
      · rcases List.mem_cons.mp hp with rfl | hp
        · show (σ.set i (some (.ref g)))[i]? = some (some (.ref (ad' i))) ∧ rm (LwB.vw W H H1) g (ad' i) = none ∧ ∃ us, H1 (ad' i) = some (.lst us) ∧ us.length ≤ 1000000 ∧ Paired (It (rm (LwB.vw W H H1) g)) ts us
          rw [e1]
          exact ⟨by rw [List.getElem?_set_self (by rw [S.ev.1]; exact hiN)], rm_self, vs, eg, hl, ‹_›⟩
        · rw [e2 _ (hne p hp)]
          obtain ⟨a1, a2, vs', a3, a4⟩ := h1 p hp
          refine ⟨by rw [List.getElem?_set_ne fun e => hne p hp e.symm]; exact a1, ?_, vs', s1 _ _ a3, Cn.ok_mv kp a4⟩
          rw [rm_ne (hadn p hp), vw_old a3]
          exact a2
      · rcases List.mem_cons.mp hp with rfl | hp <;> rcases List.mem_cons.mp hr with rfl | hr
        · rfl
        · have e : ad' i = ad' r.1 := e
          rw [e1, e2 _ (hne r hr)] at e
          exact absurd e.symm (hadn r hr)
        · have e : ad' p.1 = ad' i := e
          rw [e1, e2 _ (hne p hp)] at e
          exact absurd e (hadn p hp)
        · rw [e2 _ (hne p hp), e2 _ (hne r hr)] at e
          exact h2 p hp r hr e⟩
def delO (i : Nat) : OwnT → OwnT
  | [] => []
  | p :: r => match Nat.beq p.1 i with
    | true => delO i r
    | false => p :: delO i r
theorem delO_sub {i : Nat} : ∀ {own : OwnT} {p : Nat × Cn}, p ∈ delO i own → p ∈ own
  | q :: r, p, h => by
    unfold delO at h
    split at h
    · exact .tail _ (delO_sub h)
    · rcases List.mem_cons.mp h with rfl | h
      · exact .head _
      · exact .tail _ (delO_sub h)
theorem delO_ne {i : Nat} : ∀ {own : OwnT} {p : Nat × Cn}, p ∈ delO i own → p.1 ≠ i
  | q :: r, p, h => by
    unfold delO at h
    split at h
    · exact delO_ne h
    · rename_i e
      rcases List.mem_cons.mp h with rfl | h
      · exact Nat.ne_of_beq_eq_false e
      · exact delO_ne h
def lookO : OwnT → Nat → Option Cn
  | [], _ => none
  | p :: r, i => match Nat.beq p.1 i with
    | true => some p.2
    | false => lookO r i
theorem lookO_mem : ∀ {own : OwnT} {i : Nat} {c : Cn}, lookO own i = some c → (i, c) ∈ own
  | p :: r, i, c, h => by
    unfold lookO at h
    split at h
    · rename_i e
      have e1 := Nat.eq_of_beq_eq_true e
      cases h
      rw [← e1]
      exact .head _
    · exact .tail _ (lookO_mem h)
/-- the list that grows by one -/
theorem Sv.grow {i : Nat} {ts ts' : List Tr} {σ : L2.St} {W H : Hp} {g : Addr} {vs vs' : List V} (S : Sv N env own σ W H) (hm : (i, Cn.lst ts) ∈ own) (hg : σ[i]? = some (some (.ref g))) (hl : vs'.length ≤ 1000000) (p : Paired (It W) ts' vs') :
    H g = some (.lst vs) → Sv N env ((i, .lst ts') :: delO i own) σ W (upd H g (.lst vs')) := fun eg => by
  obtain ⟨ad, h1, h2⟩ := S.ow
  obtain ⟨a1, a2, us, a3, a4⟩ := h1 _ hm
  have ea : ad i = g := by
    rw [hg] at a1
    cases a1
    rfl
  rw [ea] at a2 a3
  refine ⟨S.vw.grown a3 a2, S.ev, ad, fun p hp => ?_, fun p hp r hr e => ?_⟩
  · rcases List.mem_cons.mp hp with rfl | hp
    · refine ⟨a1, by rw [ea]; exact a2, vs', by rw [ea]; exact upd_same, hl, ‹_›⟩
    · obtain ⟨b1, b2, us', b3, b4⟩ := h1 p (delO_sub hp)
      refine ⟨b1, b2, us', ?_, b4⟩
      rw [upd_ne fun e => delO_ne hp (h2 p (delO_sub hp) _ hm (e.trans ea.symm))]
      exact b3
  · have hm' : ∀ {p}, p ∈ (i, Cn.lst ts') :: delO i own → ∃ c, (p.1, c) ∈ own := fun {p} hp => by
      rcases List.mem_cons.mp hp with rfl | hp
      · exact ⟨_, hm⟩
      · exact ⟨_, delO_sub hp⟩
    obtain ⟨c, hc⟩ := hm' hp
    obtain ⟨c', hc'⟩ := hm' hr
    exact h2 (p.1, c) hc (r.1, c') hc' e
theorem Sv.owned {i : Nat} {ts : List Tr} {σ : L2.St} {W H : Hp} (S : Sv N env own σ W H) (hm : (i, Cn.lst ts) ∈ own) : ∃ g vs, σ[i]? = some (some (.ref g)) ∧ W g = none ∧ H g = some (.lst vs) ∧ vs.length ≤ 1000000 ∧ Paired (It W) ts vs := by
  obtain ⟨ad, h1, h2⟩ := S.ow
  obtain ⟨a1, a2, us, a3, a4, a5⟩ := h1 _ hm
  exact ⟨_, us, a1, a2, a3, a4, a5⟩
/-- xs.append(e); hst: the statement itself -/
theorem s_app {i : Nat} {st : Stmt} {T : Tr} {ts : List Tr} (hst : PS X st (tDrop (tBM X.K "list" rAppend (tVar i) (tCons (tLe N (fullE own env) T) tNil)))) (hT : T.nol = true) (hrest : PSs X rest (tS N env ((i, .lst (ts ++ [T])) :: delO i own) o)) (hm : lookO own i = some (.lst ts) := by rfl) (hlt : ts.length ≤ 900000 := by decide) : PSs X (st :: rest) (tS N env own o) :=
  PSs.imp (pss_cons hst hrest) fun D σ H ⟨W, S, q⟩ => by
    obtain ⟨g, vs, eg, n, hg, hl, p⟩ := S.owned (lookO_mem hm)
    refine ⟨_, eg, .inl ⟨rfl, _, SqL.of hg⟩, H, S.vw.self, S.full, fun H1 v s1 i1 => ?_⟩
    have hg1 := s1 _ _ hg
    have hvl := paired_len p
    have S1 := S.step s1
    refine ⟨g, vs, v, rfl, rfl, hg1, Nat.lt_of_lt_of_le (by omega : vs.length < 1000000) (by decide), ?_⟩
    exact ⟨_, S1.grow (lookO_mem hm) eg (by rw [List.length_append, List.length_singleton]; omega) (paired_snoc (paired_imp p fun _ _ r => r.mv (vw_keep S.vw)) (It.nol S1.vw hT (i1.mv (S.vw.self.next s1).sub))) hg1, q.mono S.keep⟩
theorem s_appL {i : Nat} {st : Stmt} {T : Tr} {ts : List Tr} (hst : PS X st (tDrop (tBM X.K "list" rAppend (tVar i) (tCons (tLe N env T) tNil)))) (hrest : PSs X rest (tS N env ((i, .lst (ts ++ [T])) :: delO i own) o)) (hm : lookO own i = some (.lst ts) := by rfl) (hlt : ts.length ≤ 900000 := by decide) : PSs X (st :: rest) (tS N env own o) :=
  PSs.imp (pss_cons hst hrest) fun D σ H ⟨W, S, q⟩ => by
    obtain ⟨g, vs, eg, n, hg, hl, p⟩ := S.owned (lookO_mem hm)
    refine ⟨_, eg, .inl ⟨rfl, _, SqL.of hg⟩, W, S.vw, S.ev, fun H1 v s1 i1 => ?_⟩
    have hg1 := s1 _ _ hg
    have hvl := paired_len p
    have S1 := S.step s1
    refine ⟨g, vs, v, rfl, rfl, hg1, Nat.lt_of_lt_of_le (by omega : vs.length < 1000000) (by decide), ?_⟩
    exact ⟨_, S1.grow (lookO_mem hm) eg (by rw [List.length_append, List.length_singleton]; omega) (paired_snoc (paired_imp p fun _ _ r => r.mv (vw_keep S.vw)) i1) hg1, q.mono S.keep⟩
/-- a list of one's own that changes no more -/
theorem s_end {i : Nat} {ts : List Tr} (hrest : PSs X rest (tS N ((i, .sq true ts) :: del i env) (delO i own) o)) (hm : lookO own i = some (.lst ts) := by rfl) : PSs X rest (tS N env own o) :=
  PSs.imp hrest fun D σ H ⟨W, S, q⟩ => by
    obtain ⟨ad, h1, h2⟩ := S.ow
    have hm' := lookO_mem hm
    obtain ⟨a1, a2, us, a3, a4, a5⟩ := h1 _ hm'
    have kp : Same W (add W H (ad i)) := add_sub S.vw
    refine ⟨add W H (ad i), ⟨S.vw.add _, ?_, ad, fun p hp => ?_, fun p hp r hr => h2 p (delO_sub hp) r (delO_sub hr)⟩, q.mono kp⟩
    · exact ((S.ev.sub fun _ h => del_sub h).mv kp).cons a1 (add_it S.vw a3 a4 a5)
    · obtain ⟨b1, b2, us', b3, b4⟩ := h1 p (delO_sub hp)
      refine ⟨b1, ?_, us', b3, Cn.ok_mv kp b4⟩
      have hne : ad p.1 ≠ ad i := fun e => delO_ne hp (h2 p (delO_sub hp) _ hm' e)
      unfold add
      rw [if_neg hne]
      exact b2
/-- tests -/
theorem s_ifT {c : Expr} {body orelse : List Stmt} {T : Tr} (hc : PT X c (tKn N (fullE own env) true)) (hb : PSs X body (tS N env own (.ret T own'))) : PSs X (.If c body orelse pos :: rest) (tS N env own (.ret T own')) := by
  refine PSs.imp (pss_cons (ps_if hc hb (show PSs X orelse (fun D σ H => ∃ t, PSs X orelse t ∧ t D σ H) from ⟨fun pins s σ H D I ⟨t, h, q⟩ => h.run pins s σ H D I q⟩)) (show PSs X rest (fun D σ H => ∃ t, PSs X rest t ∧ t D σ H) from ⟨fun pins s σ H D I ⟨t, h, q⟩ => h.run pins s σ H D I q⟩)) fun D σ H ⟨W, S, q⟩ => ⟨H, S.vw.self, S.full, fun H1 s1 => ?_⟩
  exact iteT ⟨_, S.step s1, q.mono S.keep⟩
theorem pss_any {body : List Stmt} : PSs X body (fun D σ H => ∃ t, PSs X body t ∧ t D σ H) := ⟨fun pins s σ H D I ⟨t, h, q⟩ => h.run pins s σ H D I q⟩
theorem s_ifF {c : Expr} {body : List Stmt} (hc : PT X c (tKn N (fullE own env) false)) (hrest : PSs X rest (tS N env own o)) : PSs X (.If c body [] pos :: rest) (tS N env own o) :=
  PSs.imp (pss_cons (ps_if hc pss_any pss_nil) hrest) fun D σ H ⟨W, S, q⟩ => ⟨H, S.vw.self, S.full, fun H1 s1 => iteF ⟨_, S.step s1, q.mono S.keep⟩⟩
/-- a branch that goes on -/
theorem s_ifG {c : Expr} {body orelse : List Stmt} {b : Bool} {env1 : EnvT} {own1 : OwnT} (hc : PT X c (tKn N (fullE own env) b)) (hb : b = true → PSs X body (tS N env own (.go env1 own1))) (he : b = false → PSs X orelse (tS N env own (.go env1 own1))) (hrest : PSs X rest (tS N env1 own1 o)) : PSs X (.If c body orelse pos :: rest) (tS N env own o) :=
  PSs.imp (pss_cons (ps_if hc pss_any pss_any) hrest) fun D σ H ⟨W, S, q⟩ => ⟨H, S.vw.self, S.full, fun H1 s1 => by
    have fin : ∀ σ' W' H', Same (LwB.vw W H H1) W' → Sv N env1 own1 σ' W' H' → tS N env1 own1 o D σ' H' := fun σ' W' H' s' S' => ⟨W', S', q.mono (S.keep.trans s')⟩
    cases b with
    | true => exact iteT ⟨_, hb rfl, _, S.step s1, fin⟩
    | false => exact iteF ⟨_, he rfl, _, S.step s1, fin⟩⟩
/-- either branch ends all -/
theorem s_ifR {c : Expr} {body orelse : List Stmt} {b : Bool} (hc : PT X c (tKn N (fullE own env) b)) (hb : b = true → PSs X body (tS N env own o)) (he : b = false → PSs X orelse (tS N env own o)) : PSs X [.If c body orelse pos] (tS N env own o) :=
  PSs.imp (pss_one (ps_if hc pss_any pss_any)) fun D σ H ⟨W, S, q⟩ => ⟨H, S.vw.self, S.full, fun H1 s1 => by
    cases b with
    | true => exact iteT ⟨_, hb rfl, _, S.step s1, q.mono S.keep⟩
    | false => exact iteF ⟨_, he rfl, _, S.step s1, q.mono S.keep⟩⟩
/-- return e -/
theorem s_ret {e : Expr} {T : Tr} (he : PE X e (tLe N env T)) : PSs X (.Return (some e) pos :: rest) (tS N env own (.ret T own)) :=
  PSs.imp (pss_cons (ps_ret he) pss_any) fun D σ H ⟨W, S, q⟩ => ⟨W, S.vw, S.ev, fun H1 v s1 i1 => q v σ _ H1 S.keep ((S.step s1).sub (fun _ h => nomatch h) fun _ h => h) i1⟩
theorem s_retO {e : Expr} {T : Tr} (he : PE X e (tLe N (fullE own env) T)) (hT : T.nol = true) (hs : ∀ p ∈ own', p ∈ own) : PSs X (.Return (some e) pos :: rest) (tS N env own (.ret T own')) :=
  PSs.imp (pss_cons (ps_ret he) pss_any) fun D σ H ⟨W, S, q⟩ => ⟨H, S.vw.self, S.full, fun H1 v s1 i1 => q v σ _ H1 S.keep ((S.step s1).sub (fun _ h => nomatch h) hs) (It.nol (S.vw.next s1) hT (i1.mv (S.vw.self.next s1).sub))⟩
theorem s_retL {e : Expr} {ts : List Tr} (he : PE X e (tLf N env ts)) : PSs X (.Return (some e) pos :: rest) (tS N env own (.retL ts own)) :=
  PSs.imp (pss_cons (ps_ret he) pss_any) fun D σ H ⟨W, S, q⟩ => ⟨W, S.vw, S.ev, fun H1 g vs s1 ng eg hl p => by
    have S1 := S.step s1
    have kp : Same W (rm (LwB.vw W H H1) g) := keep_rm S.vw ng
    refine q g vs σ _ H1 kp ⟨S1.vw.rm eg, ⟨S.ev.1, fun _ h => nomatch h⟩, ?_⟩ rm_self eg hl p
    obtain ⟨ad, h1, h2⟩ := S1.ow
    refine ⟨ad, fun p hp => ?_, h2⟩
    obtain ⟨a1, a2, us, a3, a4⟩ := h1 p hp
    obtain ⟨ad', h1', h2'⟩ := S.ow
    obtain ⟨b1, b2, us', b3, b4⟩ := h1' p hp
    have ea : ad p.1 = ad' p.1 := by
      rw [a1] at b1
      exact V.ref.inj (Option.some.inj (Option.some.inj b1))
    have hne : ad p.1 ≠ g := fun e => by
      rw [ea] at e
      rw [e, ng] at b3
      cases b3
    refine ⟨a1, by rw [rm_ne hne]; exact a2, us, a3, ?_⟩
    have a3' := a3
    rw [ea, s1 _ _ b3] at a3'
    have eu : us' = us := by
      have h := Option.some.inj a3'
      injection h
    rw [← eu, ea]
    exact Cn.ok_mv kp b4⟩
/-- return xs, a list of one's own -/
theorem s_retX {e : Expr} {i : Nat} {ts : List Tr} (he : PE X e (tVar i)) (hs : ∀ p ∈ own', p ∈ own) (hm : lookO own i = some (.lst ts) := by rfl) : PSs X (.Return (some e) pos :: rest) (tS N env own (.retL ts own')) :=
  PSs.imp (pss_cons (ps_ret he) pss_any) fun D σ H ⟨W, S, q⟩ => by
    obtain ⟨g, vs, eg, n, hg, hl, p⟩ := S.owned (lookO_mem hm)
    exact ⟨_, eg, q g vs σ W H (Same.refl W) (S.sub (fun _ h => nomatch h) hs) n hg hl p⟩
theorem s_cont {env' : EnvT} (hs : SubE env' env) : PSs X (.Continue pos :: rest) (tS N env own (.ct env' own)) :=
  PSs.imp (pss_cons ps_continue pss_any) fun D σ H ⟨W, S, q⟩ => q σ W H (Same.refl W) (S.sub hs.mem fun _ h => h)
end
/-! ### loops -/
section
variable {X : Cx} {N : Nat} {env : EnvT} {own : OwnT} {o : Oc} {rest body : List Stmt} {pos tp : Pos} {iter : Expr} {y : Str} {k : Nat}
/-- what one turn of a loop does -/
def Turn (X : Cx) (N : Nat) (body : List Stmt) (o : Oc) (env : EnvT) (own : OwnT) (env' : EnvT) (own' : OwnT) : Prop :=
  PSs X body (tS N env own (.go env' own')) ∨ PSs X body (tS N env own (.ct env' own')) ∨ (∃ T ow, o = .ret T ow ∧ PSs X body (tS N env own o)) ∨ (∃ ts ow, o = .retL ts ow ∧ PSs X body (tS N env own o))
theorem Turn.meets {D : Ends} {nx : L2.St → Hp → Prop} {env' : EnvT} {own' : OwnT} {σ : L2.St} {W H W0 : Hp} (t : Turn X N body o env own env' own') (S : Sv N env own σ W H) (q : o.meets N D W0) (s : Same W0 W) (hn : ∀ σ' W' H', Same W W' → Sv N env' own' σ' W' H' → nx σ' H') {bk : L2.St → Hp → Prop} :
    ∃ t, PSs X body t ∧ t { D with nx := nx, ct := nx, bk := bk } σ H := by
  rcases t with h | h | ⟨T, ow, rfl, h⟩ | ⟨ts, ow, rfl, h⟩
  · exact ⟨_, h, W, S, hn⟩
  · exact ⟨_, h, W, S, hn⟩
  · exact ⟨_, h, W, S, (q.mono s : Oc.meets N D W (.ret T ow))⟩
  · exact ⟨_, h, W, S, (q.mono s : Oc.meets N D W (.retL ts ow))⟩
theorem s_for {t : Bool} {ts : List Tr} (I : Nat → EnvT) (O : Nat → OwnT) (hc : X.calm = true) (hp : PassesOwn (model X.prog X.w) X.A X.env X.xe) (hi : PE X iter (tLe N env (.sq t ts))) (hg : PG X (.Name y tp) (gName k)) (h0 : SubE (I 0) env) (hO : O 0 = own)
    (hb : ∀ j T, ts[j]? = some T → Turn X N body o ((k, T) :: del k (I j)) (O j) (I (j + 1)) (O (j + 1))) (hrest : PSs X rest (tS N (I ts.length) (O ts.length) o)) (hk : k < N := by decide) (hf : ∀ j, freeO k (O j) = true := by intro _; rfl)
    (hs : ∀ x, foldedSetIterable iter X.env x = pure x := by intro _; rfl) : PSs X (.For (.Name y tp) iter body [] pos :: rest) (tS N env own o) :=
  PSs.imp (pss_cons (ps_for hp hc (pi_seq hi) hg pss_any hs) hrest) fun D σ H ⟨W, S, q⟩ => ⟨W, S.vw, S.ev, fun H1 v s1 i1 => by
    obtain ⟨a, xs, rfl, ha, la, pa⟩ := i1.sq_inv
    have S1 := S.step s1
    have hq1 : Sq t (LwB.vw W H H1) a xs := ha.1
    subst hO
    refine ⟨t, a, rfl, ⟨xs, (hq1.mv fun o e => S1.vw.sub a o e).B⟩, ?_⟩
    refine for_seq (g := gName k) (tb := fun D σ H => ∃ t, PSs X body t ∧ t D σ H) (D := { D with nx := tS N (I ts.length) (O ts.length) o D }) (K := X.K) (b := t) (a := a) (xs := xs) (fun j σ' H' => ∃ W', Same (LwB.vw W H H1) W' ∧ Sv N (I j) (O j) σ' W' H') ⟨_, Same.refl _, S1.sub h0.mem fun _ h => h⟩ (fun j σ' H' _ ⟨W', s', S'⟩ => (hq1.mv fun o e => S'.vw.sub a o (s' a o e)).B) ?_ ?_
    · rintro j x σ' H' hx ⟨W', s', S'⟩
      obtain ⟨T, hT, iT⟩ := paired_get pa hx
      exact (hb j T hT).meets (S'.set hk (hf j) (iT.mv s')) q (S.keep.trans s') fun σ2 W2 H2 s2 S2 => ⟨W2, s'.trans s2, S2⟩
    · rintro σ' H' ⟨W', s', S'⟩
      rw [← paired_len pa] at S'
      exact ⟨W', S', q.mono (S.keep.trans s')⟩⟩
/-- for .. in range(n) -/
theorem s_forR {e : Expr} {n : Nat} {p rpos : Pos} (I : Nat → EnvT) (O : Nat → OwnT) (hc : X.calm = true) (hp : PassesOwn (model X.prog X.w) X.A X.env X.xe) (hm : X.mg "range" = none) (he : PE X e (tLe N (fullE own env) (.int (n : Nat)))) (hn : n < 1000000) (hg : PG X (.Name y tp) (gName k)) (h0 : SubE (I 0) env) (hO : O 0 = own)
    (hb : ∀ j, j < n → Turn X N body o ((k, .int (j : Nat)) :: del k (I j)) (O j) (I (j + 1)) (O (j + 1))) (hrest : PSs X rest (tS N (I n) (O n) o)) (hk : k < N := by decide) (hf : ∀ j, freeO k (O j) = true := by intro _; rfl) (hgl : Gl X "range" := by rfl)
    (hse : starEach [e] X.env = [(false, eval e X.env)] := by rfl) (hse2 : starEach [e] X.env = (false, eval e X.env) :: starEach [] X.env := by rfl) (hs : ∀ x, foldedSetIterable (.Call (.Name "range" p) [e] [] rpos) X.env x = pure x := by intro _; rfl) : PSs X (.For (.Name y tp) (.Call (.Name "range" p) [e] [] rpos) body [] pos :: rest) (tS N env own o) :=
  PSs.imp (pss_cons (ps_for hp hc (pi_range1 hgl hm (pa_cons (hs := hse2) he pa_nil) hse) hg pss_any hs) hrest) fun D σ H ⟨W, S, q⟩ => ⟨H, S.vw.self, S.full, fun H1 v s1 i1 => by
    rw [i1.int_eq]
    have S1 := S.step s1
    subst hO
    refine ⟨(n : Int), rfl, by omega, by omega, ?_⟩
    refine for_range (g := gName k) (tb := fun D σ H => ∃ t, PSs X body t ∧ t D σ H) (D := { D with nx := tS N (I n) (O n) o D }) (lo := 0) (n := ((n : Int) - 0).toNat) (fun j σ' H' => ∃ W', Same (LwB.vw W H H1) W' ∧ Sv N (I j) (O j) σ' W' H') ⟨_, Same.refl _, S1.sub h0.mem fun _ h => h⟩ ?_ ?_
    · rintro j σ' H' hj ⟨W', s', S'⟩
      have hx : (V.int (0 + (j : Int))) = V.int (j : Nat) := by rw [Int.zero_add]
      rw [hx]
      exact (hb j (by omega)).meets (S'.set hk (hf j) ⟨0, .int⟩) q (S.keep.trans s') fun σ2 W2 H2 s2 S2 => ⟨W2, s'.trans s2, S2⟩
    · rintro σ' H' ⟨W', s', S'⟩
      have e : ((n : Int) - 0).toNat = n := by omega
      rw [e] at S'
      exact ⟨W', S', q.mono (S.keep.trans s')⟩⟩
end
end LwB
namespace LwB
open PySem PySem.Spec PyProof.Rows L2 IqX RvT EnS TL NsT
variable [LwB.KC]
/-! ### what a def tells: new things, or old ones that never change -/
def nv (H H' : Hp) : Hp := fun a => match H a with
  | some (.lst _) => none
  | _ => H' a
theorem nv_lst {H H' : Hp} {a : Addr} {xs : List V} (h : H a = some (.lst xs)) : nv H H' a = none := by
  unfold nv
  rw [h]
theorem nv_not {H H' : Hp} {a : Addr} (h : ∀ xs, H a ≠ some (.lst xs)) : nv H H' a = H' a := by
  unfold nv
  split
  · rename_i xs e
    exact absurd e (h xs)
  · rfl
theorem nv_sub {H H' : Hp} {a : Addr} {o : HO} (h : nv H H' a = some o) : H' a = some o ∧ ∀ xs, H a ≠ some (.lst xs) := by
  unfold nv at h
  split at h
  · cases h
  · rename_i e
    exact ⟨h, fun xs q => e xs q⟩
theorem nv_all {H H' : Hp} (s : Same H H') : ∀ a o, H' a = some o → nv H H' a = some o ∨ ∃ xs, o = .lst xs := fun a o h => by
  by_cases q : ∃ xs, H a = some (.lst xs)
  · obtain ⟨xs, q⟩ := q
    have := s _ _ q
    rw [h] at this
    exact .inr ⟨xs, Option.some.inj this⟩
  · exact .inl (by rw [nv_not fun xs e => q ⟨xs, e⟩]; exact h)
theorem nv_vw {H H' : Hp} (g : Good H) (s : Same H H') : Vw (nv H H') H' := ⟨fun a o h => (nv_sub h).1, nv_all s, g.mv s⟩
theorem nv_in {W H H' : Hp} (x : Vw W H) (s : Same H H') : Same (nv H H') (vw W H H') := fun a o h => by
  obtain ⟨h1, h2⟩ := nv_sub h
  rcases dom_cases H a with b | ⟨u, b⟩
  · rw [vw_new b]
    exact h1
  · rw [vw_old b]
    have e := s a u b
    rw [h1] at e
    cases e
    rcases x.all a o b with h3 | ⟨xs, e⟩
    · exact h3
    · subst e
      exact absurd b (h2 xs)
def spT {ι : Type} (A : ι → List Tr) (P : ι → Prop) (R : ι → Tr) : Sp := fun vs H Q _ => Good H ∧ ∃ i, P i ∧ Paired (It H) (A i) vs ∧ ∀ H' v, Same H H' → It (nv H H') (R i) v → Q v H'
def zipE : Nat → List Tr → EnvT
  | _, [] => []
  | k, T :: Ts => (k, T) :: zipE (k + 1) Ts
theorem zipE_mem : ∀ {Ts : List Tr} {k : Nat} {p : Nat × Tr}, p ∈ zipE k Ts → ∃ j, p.1 = k + j ∧ Ts[j]? = some p.2
  | T :: Ts, k, p, h => by
    rcases List.mem_cons.mp h with rfl | h
    · exact ⟨0, rfl, rfl⟩
    · obtain ⟨j, e, h⟩ := zipE_mem h
      exact ⟨j + 1, by omega, h⟩
theorem ev_start {Ns : List Str} {Ts : List Tr} {vs : List V} {W : Hp} (p : Paired (It W) Ts vs) (hl : vs.length ≤ Ns.length) : Ev Ns.length (zipE 0 Ts) (L2.start Ns vs) W := by
  refine ⟨?_, fun q hq => ?_⟩
  · unfold L2.start
    rw [List.length_append, List.length_map, List.length_replicate]
    omega
  · obtain ⟨j, e, h⟩ := zipE_mem hq
    obtain ⟨v, hv, i⟩ := paired_at p h
    refine ⟨v, ?_, i⟩
    have hlt := (List.getElem?_eq_some_iff.mp hv).1
    unfold L2.start
    rw [e, Nat.zero_add, List.getElem?_append_left (by rw [List.length_map]; exact hlt), List.getElem?_map, hv]
    rfl
section
variable {P : Program} {w : World} {K : PySem.W.Frag} {mg : Str → Option Value} {base : Heap}
theorem Ok.weak {x : Str} {ps : List Str} {k : Nat} {sp sp' : Sp} (O : Ok P w K mg base k x ps sp) (h : ∀ vs H Q E, sp' vs H Q E → sp vs H Q E) : Ok P w K mg base k x ps sp' := by
  obtain ⟨f, fd, F, r⟩ := O.ex
  exact ⟨f, fd, F.imp h, r⟩
theorem Ok.mono {x : Str} {ps : List Str} {j k : Nat} {sp : Sp} (O : Ok P w K mg base j x ps sp) (h : j ≤ k) : Ok P w K mg base k x ps sp := by
  obtain ⟨f, fd, F, r⟩ := O.ex
  exact ⟨f, fd, F.mono h, r⟩
theorem Df.okT {x : Str} {st : Stmt} {Ns ps : List Str} {k : Nat} {ι : Type} {A : ι → List Tr} {Pi : ι → Prop} {R : ι → Tr} (D : Df K mg x st ps) (S : FnScope Ns ps (defScope st)) (hA : ∀ i, (A i).length = ps.length) (hR : ∀ i, Pi i → (R i).nol = true)
    (hb : ∀ (f : Addr) (cdv : Value) (Ar : Around) (outer : List Env) (s : Shared) (H : Hp) (E : XK), Room k (Ar.deeper (envOfC x (defScope st) s.heap.objs.size f cdv)) → ∀ i, Pi i →
      PSs (cxOf CX0 P w K mg base Ns x (defScope st) f cdv Ar outer s H E).nox (defBody st) (tS Ns.length (zipE 0 (A i)) [] (.ret (R i) []))) (hps : ps.length ≤ Ns.length := by decide) : Ok P w K mg base (k + 1) x ps (spT A Pi R) := by
  refine D.ok S (fun vs H Q E ⟨_, i, _, p, _⟩ => (paired_len p).symm.trans (hA i)) (fun f cdv Ar outer s H vs Q E hr ⟨gd, i, hi, p, q⟩ => ?_)
  refine ⟨_, hb f cdv Ar outer s H E hr i hi, H, ⟨Vw.refl H gd, ev_start p ?_, Ow.nil⟩, ?_⟩
  · have := (paired_len p).symm.trans (hA i)
    omega
  · intro v σ' W' H' sm S' i'
    have s' : Same H H' := fun a o e => S'.vw.sub a o (sm a o e)
    exact q H' v s' (It.nol (nv_vw gd s') (hR i hi) (i'.mv S'.vw.sub))
theorem Df.okL {x : Str} {st : Stmt} {Ns ps : List Str} {k : Nat} {ι : Type} {A : ι → List Tr} {Pi : ι → Prop} {R : ι → List Tr} (D : Df K mg x st ps) (S : FnScope Ns ps (defScope st)) (hA : ∀ i, (A i).length = ps.length) (hR : ∀ i, Pi i → Tr.nolAll (R i) = true)
    (hb : ∀ (f : Addr) (cdv : Value) (Ar : Around) (outer : List Env) (s : Shared) (H : Hp) (E : XK), Room k (Ar.deeper (envOfC x (defScope st) s.heap.objs.size f cdv)) → ∀ i, Pi i →
      PSs (cxOf CX0 P w K mg base Ns x (defScope st) f cdv Ar outer s H E).nox (defBody st) (tS Ns.length (zipE 0 (A i)) [] (.retL (R i) []))) (hps : ps.length ≤ Ns.length := by decide) : Ok P w K mg base (k + 1) x ps (spT A Pi fun i => .sq true (R i)) := by
  refine D.ok S (fun vs H Q E ⟨_, i, _, p, _⟩ => (paired_len p).symm.trans (hA i)) (fun f cdv Ar outer s H vs Q E hr ⟨gd, i, hi, p, q⟩ => ?_)
  refine ⟨_, hb f cdv Ar outer s H E hr i hi, H, ⟨Vw.refl H gd, ev_start p ?_, Ow.nil⟩, ?_⟩
  · have := (paired_len p).symm.trans (hA i)
    omega
  · intro g ys σ' W' H' sm S' ng eg hl pr
    have s' : Same H H' := fun a o e => S'.vw.sub a o (sm a o e)
    refine q H' _ s' (It.sq (.lst ?_) hl (paired_mem pr fun a b ha r => It.nol (nv_vw gd s') (nol_mem (hR i hi) ha) (r.mv S'.vw.sub)))
    rw [nv_not fun xs e => ?_]
    · exact eg
    · rw [sm g _ e] at ng
      cases ng
end
section
variable {X : Cx} {N : Nat} {env : EnvT} {x : Str} {ps : List Str} {k : Nat} {e : Expr} {es : List Expr} {p pos : Pos} {ι : Type} {A : ι → List Tr} {Pi : ι → Prop} {R : ι → Tr}
/-- f(..) -/
theorem le_cT {T : Tr} (O : Ok X.prog X.w X.K X.mg X.base k x ps (spT A Pi R)) (hr : Room k X.A) (i : ι) (hi : Pi i) (ha : PA X (e :: es) (tLes N env (A i))) (hT : R i = T := by rfl) (hg : Gl X x := by rfl)
    (hdb : (x == ("__debug__" : Str)) = false := by decide) (he : starEach (e :: es) X.env = (false, eval e X.env) :: starEach es X.env := by rfl) (hpl : (backTo pos (starEach es X.env)).any (·.1) = false := by rfl) :
    PE X (.Call (.Name x p) (e :: es) [] pos) (tLe N env T) :=
  PE.imp (pe_c O hr ha hg hdb he hpl) fun σ H Q ⟨W, x, ev, q⟩ => ⟨W, x, ev, fun H1 vs s1 i1 => by
    show spT A Pi R (vs ++ []) H1 Q E0
    rw [List.append_nil]
    have xn := x.next s1
    refine ⟨xn.good, i, hi, paired_imp i1 fun _ _ r => r.mv xn.sub, fun H' v s ii => q H' v (s1.trans s) ?_⟩
    rw [← vw_trans s1 s, ← hT]
    exact ii.mv (nv_in xn s)⟩
theorem le_cT0 {T : Tr} (O : Ok X.prog X.w X.K X.mg X.base k x ps (spT A Pi R)) (hr : Room k X.A) (i : ι) (hi : Pi i) (hA : A i = []) (hT : R i = T := by rfl) (hg : Gl X x := by rfl)
    (hdb : (x == ("__debug__" : Str)) = false := by decide) :
    PE X (.Call (.Name x p) [] [] pos) (tLe N env T) :=
  PE.imp (pe_c0 O hr hg hdb) fun σ H Q ⟨W, x, ev, q⟩ => by
    show spT A Pi R [] H Q E0
    refine ⟨x.good, i, hi, by rw [hA]; exact .nil, fun H' v s ii => q H' v s ?_⟩
    rw [← hT]
    exact ii.mv (nv_in x s)
/-- f(..) that tells a new list -/
theorem lf_cT {ts : List Tr} (O : Ok X.prog X.w X.K X.mg X.base k x ps (spT A Pi R)) (hr : Room k X.A) (i : ι) (hi : Pi i) (ha : PA X (e :: es) (tLes N env (A i))) (hn : Tr.nolAll ts = true) (hT : R i = .sq true ts := by rfl) (hg : Gl X x := by rfl)
    (hdb : (x == ("__debug__" : Str)) = false := by decide) (he : starEach (e :: es) X.env = (false, eval e X.env) :: starEach es X.env := by rfl) (hpl : (backTo pos (starEach es X.env)).any (·.1) = false := by rfl) :
    PE X (.Call (.Name x p) (e :: es) [] pos) (tLf N env ts) :=
  PE.imp (pe_c O hr ha hg hdb he hpl) fun σ H Q ⟨W, x, ev, q⟩ => ⟨W, x, ev, fun H1 vs s1 i1 => by
    show spT A Pi R (vs ++ []) H1 Q E0
    rw [List.append_nil]
    have xn := x.next s1
    refine ⟨xn.good, i, hi, paired_imp i1 fun _ _ r => r.mv xn.sub, fun H' v s ii => ?_⟩
    rw [hT] at ii
    obtain ⟨g, xs, rfl, hs, hl, pr⟩ := ii.sq_inv
    obtain ⟨e1, e2⟩ := nv_sub (hs.2 rfl)
    have ng1 : H1 g = none := by
      rcases dom_cases H1 g with b | ⟨u, b⟩
      · exact b
      · have := s _ _ b
        rw [e1] at this
        cases this
        exact absurd b (e2 xs)
    have V' : Vw (rm (vw W H H') g) H' := (x.next (s1.trans s)).rm e1
    exact q H' g xs (s1.trans s) (s1.free ng1) e1 hl (paired_mem pr fun a b ha r => It.nol V' (nol_mem hn ha) (r.mv fun a o h => (nv_sub h).1))⟩
/-- f(b=.., a=..) -/
theorem le_kwT2 {ks : List Str} {st : Stmt} {kws : List Keyword} {T1 T2 T : Tr} (O : Ok X.prog X.w X.K X.mg X.base k x ps (spT A Pi R)) (D : Df X.K X.mg x st ps) (kb : Kw2 x st ps ks) (hr : Room k X.A) (i : ι) (hi : Pi i) (hkw : PK X kws (tLes N env [T2, T1])) (hA : A i = [T1, T2] := by rfl) (hT : R i = T := by rfl) (hk2 : ks.length = 2 := by rfl) (hg : Gl X x := by rfl)
    (hall : (backToKw pos (keywordEach kws X.env)).all (·.1.isSome) = true := by rfl) (hks : (backToKw pos (keywordEach kws X.env)).filterMap (·.1) = ks := by rfl) (hdb : (x == ("__debug__" : Str)) = false := by decide)
    (hpl : ((backTo pos (starEach [] X.env)).any (·.1) || (backToKw pos (keywordEach kws X.env)).any (·.1.isNone)) = false := by rfl) :
    PE X (.Call (.Name x p) [] kws pos) (tLe N env T) :=
  PE.imp (pe_kw2 O D kb hr hkw hk2 hg hall hks hdb hpl) fun σ H Q ⟨W, x, ev, q⟩ => ⟨W, x, ev, fun H1 vs s1 i1 => by
    obtain ⟨v1, v2, rfl, r2, r1⟩ := two_its i1
    have xn := x.next s1
    refine ⟨v1, v2, rfl, xn.good, i, hi, by rw [hA]; exact .cons (r1.mv xn.sub) (.cons (r2.mv xn.sub) .nil), fun H' v s ii => q H' v (s1.trans s) ?_⟩
    rw [← vw_trans s1 s, ← hT]
    exact ii.mv (nv_in xn s)⟩
theorem le_kwT1 {st : Stmt} {kws : List Keyword} {T1 T : Tr} (O : Ok X.prog X.w X.K X.mg X.base k x ps (spT A Pi R)) (D : Df X.K X.mg x st ps) (kb : Kw1 x st ps) (hr : Room k X.A) (i : ι) (hi : Pi i) (hkw : PK X kws (tLes N env [T1])) (hA : A i = [T1] := by rfl) (hT : R i = T := by rfl) (hk2 : ps.length = 1 := by rfl) (hg : Gl X x := by rfl)
    (hall : (backToKw pos (keywordEach kws X.env)).all (·.1.isSome) = true := by rfl) (hks : (backToKw pos (keywordEach kws X.env)).filterMap (·.1) = ps := by rfl) (hdb : (x == ("__debug__" : Str)) = false := by decide)
    (hpl : ((backTo pos (starEach [] X.env)).any (·.1) || (backToKw pos (keywordEach kws X.env)).any (·.1.isNone)) = false := by rfl) :
    PE X (.Call (.Name x p) [] kws pos) (tLe N env T) :=
  PE.imp (pe_kw1 O D kb hr hkw hk2 hg hall hks hdb hpl) fun σ H Q ⟨W, x, ev, q⟩ => ⟨W, x, ev, fun H1 vs s1 i1 => by
    cases i1 with
    | cons r1 i1 =>
      cases i1
      have xn := x.next s1
      refine ⟨_, rfl, xn.good, i, hi, by rw [hA]; exact .cons (r1.mv xn.sub) .nil, fun H' v s ii => q H' v (s1.trans s) ?_⟩
      rw [← vw_trans s1 s, ← hT]
      exact ii.mv (nv_in xn s)⟩
end
/-! ### comprehensions with a test -/
def tFamT (N : Nat) (k : Nat) (env : EnvT) (Pr : Tr → Prop) (c : Tr → Bool) : TT := fun σ H Q => ∃ W T, Pr T ∧ Vw W H ∧ Ev N ((k, T) :: env) σ W ∧ ∀ H', Same H H' → Q (c T) H'
section
variable {X : Cx} {N : Nat} {env : EnvT}
theorem kn_fam {e : Expr} {k : Nat} {Pr : Tr → Prop} {c : Tr → Bool} (h : ∀ T, Pr T → PT X e (tKn N ((k, T) :: env) (c T))) : PT X e (tFamT N k env Pr c) :=
  ⟨fun pins s σ H Q I ⟨W, T, p, x, ev, q⟩ => (h T p).run pins s σ H Q I ⟨W, x, ev, q⟩⟩
theorem fm_fm {α β : Type} (c : α → Bool) (F : α → β) : ∀ ts : List α, ts.filterMap (fun T => if c T = true then some (F T) else none) = (ts.filter c).map F
  | [] => rfl
  | T :: r => by
    rw [List.filterMap_cons, List.filter_cons]
    by_cases hc : c T = true
    · rw [if_pos hc, if_pos hc, List.map_cons, fm_fm c F r]
    · rw [if_neg hc, if_neg hc, fm_fm c F r]
theorem lf_coreF {K : PySem.W.Frag} {k : Nat} {t : Bool} {ts : List Tr} {Pr : Tr → Prop} {c : Tr → Bool} {F : Tr → Tr} {tt : TT} (hk : k < N) (hP : ∀ T ∈ ts, Pr T) {σ : L2.St} {H : Hp} {Q : VK}
    (htt : ∀ σ H T (Kb : Bool → Hp → Prop) W, Pr T → Vw W H → Ev N ((k, T) :: del k env) σ W → (∀ H', Same H H' → Kb (c T) H') → tt σ H Kb) (h : tLf N env ((ts.filter c).map F) σ H Q) :
    tLc (iSeq K (tLe N env (.sq t ts))) (gName k) tt (tFam N k (del k env) Pr F) [k] σ H Q := by
  obtain ⟨W, x, ev, q⟩ := h
  refine ⟨W, x, ev, fun H1 v s1 i1 => ?_⟩
  obtain ⟨a, xs, rfl, ha, la, pa⟩ := i1.sq_inv
  have xn := x.next s1
  have evn : Ev N (del k env) σ (vw W H H1) := (ev.sub fun _ h => del_sub h).mv (vw_keep x)
  have hq : Sq t H1 a xs := ha.1.mv fun o e => xn.sub a o e
  refine ⟨t, a, rfl, ⟨xs, hq.B⟩, fun D nD => ?_⟩
  have domB : ∀ {H2 : Hp}, Same H1 H2 → (∃ ys, H2 D = some (.lst ys)) → ∀ b, H2 b = none → upd H1 D (.lst []) b = none := fun {H2} sm ⟨ys, eD⟩ b hb => by
    by_cases hbD : b = D
    · subst hbD
      rw [eD] at hb
      cases hb
    · rw [upd_ne hbD]
      exact sm.free hb
  have WD : vw W H H1 D = none := xn.off nD
  have hmono : ∀ H2 b o, vw W H H1 b = some o → vw (vw W H H1) (upd H1 D (.lst [])) H2 b = some o := fun H2 b o e => by
    have h1 := xn.sub b o e
    have hbD : b ≠ D := by
      rintro rfl
      rw [nD] at h1
      cases h1
    rw [vw_old (o := o) (by rw [upd_ne hbD]; exact h1)]
    exact e
  have hV : ∀ H2, Same H1 H2 → (∃ ys, H2 D = some (.lst ys)) → Vw (vw (vw W H H1) (upd H1 D (.lst [])) H2) H2 := fun H2 sm eD => by
    refine ⟨fun b o e => ?_, fun b o e => ?_, xn.good.mv sm⟩
    · rcases dom_cases (upd H1 D (.lst [])) b with hb | ⟨u, hb⟩
      · rw [vw_new hb] at e
        exact e
      · rw [vw_old hb] at e
        exact sm b o (xn.sub b o e)
    · rcases dom_cases (upd H1 D (.lst [])) b with hb | ⟨u, hb⟩
      · rw [vw_new hb]
        exact .inl e
      · by_cases hbD : b = D
        · subst hbD
          obtain ⟨ys, e2⟩ := eD
          rw [e2] at e
          cases e
          exact .inr ⟨ys, rfl⟩
        · rw [vw_old hb]
          rw [upd_ne hbD] at hb
          have e3 := sm b u hb
          rw [e] at e3
          cases e3
          exact xn.all b o hb
  refine lc_mf (K := K) ts (fun T => if c T = true then some (F T) else none) (fun H' z v => It (vw (vw W H H1) (upd H1 D (.lst [])) H') z v) nD hq la (paired_len pa) ?_ ?_ ?_ ?_
  · exact fun Ha Hb z v' s r => r.mv (vw_mono s)
  · intro Ha z v' ys o sm e r
    refine r.mv fun b o' e' => ?_
    rcases dom_cases (upd H1 D (.lst [])) b with hb | ⟨u, hb⟩
    · rw [vw_new hb] at e' ⊢
      rw [upd_ne]
      · exact e'
      · rintro rfl
        rw [upd_same] at hb
        cases hb
    · rw [vw_old hb] at e' ⊢
      exact e'
  · intro i T z H2 C C0 hT hz sm eD yes no
    have iz := paired_both pa hT hz
    have hp := hP T (List.mem_of_getElem? hT)
    refine ⟨?_, ?_⟩
    · show ((wipe σ [k]).set k (some z)).set k none = wipe σ [k]
      show ((σ.set k none).set k (some z)).set k none = σ.set k none
      rw [List.set_set, List.set_set]
    · have evk : ∀ H3, Ev N ((k, T) :: del k env) ((σ.set k none).set k (some z)) (vw (vw W H H1) (upd H1 D (.lst [])) H3) := fun H3 => ((evn.mv (hmono H3)).put fun _ h => del_ne h).set hk (fun _ h => del_ne h) (iz.mv (hmono H3))
      refine htt _ H2 T _ _ hp (hV H2 sm eD) (evk H2) fun H3 s3 => ?_
      have eD3 : ∃ ys, H3 D = some (.lst ys) := by
        obtain ⟨ys, e⟩ := eD
        exact ⟨ys, s3 _ _ e⟩
      by_cases hc : c T = true
      · rw [hc]
        refine iteT ⟨vw (vw W H H1) (upd H1 D (.lst [])) H3, T, hp, hV H3 (sm.trans s3) eD3, evk H3, fun H' v' s' i' => ?_⟩
        rw [vw_two (domB (sm.trans s3) eD3) s'] at i'
        exact yes v' H' _ (s3.trans s') (if_pos hc) i'
      · have hc' : c T = false := by simpa using hc
        rw [hc']
        exact iteF (no H3 s3 (if_neg hc))
  · intro H2 ys sm eD p2 hyl
    have nDH : H D = none := s1.free nD
    have em := fm_fm c F ts
    rw [em] at p2
    refine q H2 D ys (s1.trans sm) nDH eD (by omega) (paired_imp p2 fun _ _ r => r.mv fun b o e => ?_)
    have hbD : b ≠ D := by
      rintro rfl
      rw [vw_old (o := .lst []) upd_same, WD] at e
      cases e
    rw [rm_ne hbD, ← vw_trans s1 sm]
    rcases dom_cases H1 b with hb | ⟨u, hb⟩
    · rw [vw_new (by rw [upd_ne hbD]; exact hb)] at e
      rw [vw_new hb]
      exact e
    · rw [vw_old (o := u) (by rw [upd_ne hbD]; exact hb)] at e
      rw [vw_old hb]
      exact e
/-- [elt for y in iter] -/
theorem lf_map {elt iter : Expr} {scope : Scope} {pos tp : Pos} {y : Str} {k : Nat} {t : Bool} {ts : List Tr} (Pr : Tr → Prop) (F : Tr → Tr) (hc : X.calm = true) (hN : X.N.Nodup) (hit : PE X iter (tLe N env (.sq t ts))) (ok : BlkOk X.N X.env.scope scope [(y, k)]) (hP : ∀ T ∈ ts, Pr T)
    (hg : ∀ (s : Shared) (H : Hp) (C : Addr) (cl : List (Str × Addr)) (fp : List Addr), PG (X.blk s H scope (compEnvC scope cl C X.env) fp) (.Name y tp) (gName k))
    (he : ∀ (s : Shared) (H : Hp) (C : Addr) (cl : List (Str × Addr)) (fp : List Addr) T, Pr T → PE (X.blk s H scope (compEnvC scope cl C X.env) fp) elt (tLe N ((k, T) :: del k env) (F T))) (hk : k < N := by decide) (hs : ∀ x, foldedSetIterable iter X.env x = pure x := by intro _; rfl) :
    PE X (.ListComp elt [⟨.Name y tp, iter, [], 0⟩] scope pos) (tLf N env (ts.map F)) :=
  PE.imp (pe_lc (own := [(y, k)]) (g := gName k) hc hN (pi_seq hit) ok hg (fun _ _ _ _ _ => pts_nil) (fun s H C cl fp => le_fam (Pr := Pr) (F := F) (he s H C cl fp)) hs) fun σ H Q h => lf_coreF (K := X.K) (c := fun _ => true) hk hP (fun σ H T Kb W _ _ _ q => q H (Same.refl H)) (by
    have e : ts.filter (fun _ => true) = ts := List.filter_eq_self.mpr fun _ _ => rfl
    rw [e]
    exact h)
/-- [elt for y in iter if c] -/
theorem lf_filter {elt iter ce : Expr} {scope : Scope} {pos tp : Pos} {y : Str} {k : Nat} {t : Bool} {ts : List Tr} (Pr : Tr → Prop) (c : Tr → Bool) (F : Tr → Tr) (hc : X.calm = true) (hN : X.N.Nodup) (hit : PE X iter (tLe N env (.sq t ts))) (ok : BlkOk X.N X.env.scope scope [(y, k)]) (hP : ∀ T ∈ ts, Pr T)
    (hg : ∀ (s : Shared) (H : Hp) (C : Addr) (cl : List (Str × Addr)) (fp : List Addr), PG (X.blk s H scope (compEnvC scope cl C X.env) fp) (.Name y tp) (gName k))
    (ht : ∀ (s : Shared) (H : Hp) (C : Addr) (cl : List (Str × Addr)) (fp : List Addr) T, Pr T → PT (X.blk s H scope (compEnvC scope cl C X.env) fp) ce (tKn N ((k, T) :: del k env) (c T)))
    (he : ∀ (s : Shared) (H : Hp) (C : Addr) (cl : List (Str × Addr)) (fp : List Addr) T, Pr T → PE (X.blk s H scope (compEnvC scope cl C X.env) fp) elt (tLe N ((k, T) :: del k env) (F T))) (hk : k < N := by decide) (hs : ∀ x, foldedSetIterable iter X.env x = pure x := by intro _; rfl) :
    PE X (.ListComp elt [⟨.Name y tp, iter, [ce], 0⟩] scope pos) (tLf N env ((ts.filter c).map F)) :=
  PE.imp (pe_lc (own := [(y, k)]) (g := gName k) hc hN (pi_seq hit) ok hg (fun s H C cl fp => pts_one (kn_fam (Pr := Pr) (c := c) (ht s H C cl fp))) (fun s H C cl fp => le_fam (Pr := Pr) (F := F) (he s H C cl fp)) hs) fun σ H Q h => lf_coreF (K := X.K) hk hP (fun σ H T Kb W p x ev q => ⟨W, T, p, x, ev, q⟩) h
/-! ### truth, slices, texts -/
theorem kn_seq {e : Expr} {t : Bool} {ts : List Tr} (h : PE X e (tLe N env (.sq t ts))) (he : ∀ whole, isTrue e X.env whole = (do let v ← whole; standAt e.pos; holding [v] (truthy v)) := by intro _; rfl) : PT X e (tKn N env (!ts.isEmpty)) :=
  ⟨fun pins s σ H Q I ⟨W, x, ev, q⟩ => (pt_truth h he).run pins s σ H Q I ⟨W, x, ev, fun H1 v s1 i1 => by
    obtain ⟨a, xs, rfl, hs, hl, pr⟩ := i1.sq_inv
    have hq : Sq t H1 a xs := hs.1.mv fun o e => (x.next s1).sub a o e
    refine ⟨!ts.isEmpty, ?_, q H1 s1⟩
    rw [← paired_empty pr]
    cases t with
    | true => exact .inl ⟨xs, hq.L, rfl⟩
    | false => exact .inr (.inl ⟨xs, hq.T, rfl⟩)⟩⟩
theorem paired_drop {α β : Type} {F : α → β → Prop} : ∀ {l : List α} {m : List β} (n : Nat), Paired F l m → Paired F (l.drop n) (m.drop n)
  | _, _, 0, p => p
  | _, _, n + 1, .nil => .nil
  | _, _, n + 1, .cons _ p => paired_drop n p
theorem paired_take {α β : Type} {F : α → β → Prop} : ∀ {l : List α} {m : List β} (n : Nat), Paired F l m → Paired F (l.take n) (m.take n)
  | _, _, 0, p => .nil
  | _, _, n + 1, .nil => .nil
  | _, _, n + 1, .cons r p => .cons r (paired_take n p)
theorem le_cut {W H H' : Hp} {a p : Addr} {xs : List V} {ts : List Tr} (x : Vw W H) (s : Same H H') {t : Bool} (hn : t = true → H p = none ∧ H' p = some (.lst xs)) (h : Sq t H' p xs) (hl : xs.length ≤ 1000000) (pr : Paired (It (vw W H H')) ts xs) : It (vw W H H') (.sq t ts) (.ref p) := by
  refine It.sq ?_ hl pr
  cases t with
  | true =>
    obtain ⟨n1, n2⟩ := hn rfl
    exact .lst (by rw [vw_new n1]; exact n2)
  | false =>
    refine .tup ?_
    have V' := x.next s
    rcases h with h | ⟨o, h⟩
    · rcases V'.all _ _ h with h2 | ⟨ys, h2⟩
      · exact .inl h2
      · cases h2
    · rcases V'.all _ _ h with h2 | ⟨ys, h2⟩
      · exact .inr ⟨o, h2⟩
      · cases h2
theorem le_from {e : Expr} {t : Bool} {ts : List Tr} {n : Nat} {j pos pos' spos} (he : PE X e (tLe N env (.sq t ts))) : PE X (.Subscript e (.Slice (some (.Constant (.int (n : Nat)) j pos')) none none spos) pos) (tLe N env (.sq t (ts.drop n))) :=
  PE.imp (pe_slice sl_sq he (po_some pe_int) po_none) fun σ H Q ⟨W, x, ev, q⟩ => ⟨W, x, ev, fun H1 v s1 i1 => by
    obtain ⟨a, xs, rfl, hs, hl, pr⟩ := i1.sq_inv
    have xn := x.next s1
    have hq : Sq t H1 a xs := hs.1.mv fun o e => xn.sub a o e
    refine ⟨_, rfl, t, a, xs, rfl, hq, fun H' p s hn h => q H' _ (s1.trans s) ?_⟩
    rw [cut_from] at hn h
    rw [← vw_trans s1 s]
    exact le_cut (a := a) xn s hn h (by rw [List.length_drop]; omega) (paired_drop n (paired_imp pr fun _ _ r => r.mv (vw_keep xn)))⟩
theorem le_to {e : Expr} {t : Bool} {ts : List Tr} {n : Nat} {j pos pos' spos} (he : PE X e (tLe N env (.sq t ts))) : PE X (.Subscript e (.Slice none (some (.Constant (.int (n : Nat)) j pos')) none spos) pos) (tLe N env (.sq t (ts.take n))) :=
  PE.imp (pe_slice sl_sq he po_none (po_some pe_int)) fun σ H Q ⟨W, x, ev, q⟩ => ⟨W, x, ev, fun H1 v s1 i1 => by
    obtain ⟨a, xs, rfl, hs, hl, pr⟩ := i1.sq_inv
    have xn := x.next s1
    have hq : Sq t H1 a xs := hs.1.mv fun o e => xn.sub a o e
    refine ⟨_, rfl, t, a, xs, rfl, hq, fun H' p s hn h => q H' _ (s1.trans s) ?_⟩
    rw [cut_to] at hn h
    rw [← vw_trans s1 s]
    exact le_cut (a := a) xn s hn h (by rw [List.length_take]; omega) (paired_take n (paired_imp pr fun _ _ r => r.mv (vw_keep xn)))⟩
theorem r_eqS {i j : Str} : ∀ H x y (Q : VK), It H (.str i) x → It H (.str j) y → Q (.bl (decide (i = j))) H → rEq x y H Q := fun H x y Q h1 h2 q => by
  rw [h1.str_eq, h2.str_eq]
  refine ⟨rfl, ?_⟩
  have e : decide (V.str i = V.str j) = decide (i = j) := decide_eq_decide.mpr ⟨fun h => V.str.inj h, fun h => by rw [h]⟩
  rw [e]
  exact q
theorem le_tuple {e : Expr} {t : Bool} {ts : List Tr} {p pos : Pos} (hm : X.mg "tuple" = none) (he : PE X e (tLe N env (.sq t ts))) (hg : Gl X "tuple" := by rfl) (hs : starEach [e] X.env = (false, eval e X.env) :: starEach [] X.env := by rfl) (hs2 : starEach (e :: []) X.env = (false, eval e X.env) :: starEach [] X.env := by rfl) :
    PE X (.Call (.Name "tuple" p) [e] [] pos) (tLe N env (.sq false ts)) :=
  PE.imp (pe_tupQ hm (pa_cons (hs := hs2) he pa_nil) hg hs) fun σ H Q ⟨W, x, ev, q⟩ => ⟨W, x, ev, fun H1 v s1 i1 => by
    obtain ⟨a, xs, rfl, hs, hl, pr⟩ := i1.sq_inv
    have xn := x.next s1
    have hq : Sq t H1 a xs := hs.1.mv fun o e => xn.sub a o e
    refine ⟨t, a, xs, rfl, hq, fun H' p s h => q H' _ (s1.trans s) ?_⟩
    rw [← vw_trans s1 s]
    exact le_cut (a := a) (t := false) xn s (fun e => nomatch e) h hl (paired_imp pr fun _ _ r => r.mv (vw_keep xn))⟩
end
/-! ### trees that are keys -/
mutual
def keyT : Tr → NestedKey
  | .int i => .num i
  | .str z => .text z
  | .sq _ ts => .tup (keysT ts)
  | .non => .none
  | .bl _ => .none
def keysT : List Tr → List NestedKey
  | [] => []
  | t :: ts => keyT t :: keysT ts
end
mutual
def isK : Tr → Bool
  | .int _ => true
  | .str _ => true
  | .sq t ts => !t && isKs ts
  | .non => false
  | .bl _ => false
def isKs : List Tr → Bool
  | [] => true
  | t :: ts => isK t && isKs ts
end
mutual
theorem key_is {H : Hp} : ∀ {n : Nat} (t : Tr) {v : V}, isK t = true → Is H n t v → KIs H (keyT t) v
  | n, .int i, v, _, h => by
    rw [h.int_eq]
    exact .num i
  | n, .str z, v, _, h => by
    rw [h.str_eq]
    exact .text z
  | n, .non, v, hk, h => by cases hk
  | n, .bl b, v, hk, h => by cases hk
  | n, .sq t ts, v, hk, h => by
    have hk' : (!t && isKs ts) = true := hk
    rw [Bool.and_eq_true] at hk'
    obtain ⟨m, a, xs, e, rfl, hs, hl, pr⟩ := h.sq_eq
    cases t with
    | true => exact absurd hk'.1 (by decide)
    | false => exact .tup hs.1 (keys_is ts hk'.2 pr)
theorem keys_is {H : Hp} : ∀ {n : Nat} (ts : List Tr) {xs : List V}, isKs ts = true → Paired (Is H n) ts xs → KAll H (keysT ts) xs
  | n, [], _, _, .nil => .nil
  | n, t :: ts, _, hk, .cons r p => by
    have hk' : (isK t && isKs ts) = true := hk
    rw [Bool.and_eq_true] at hk'
    exact .cons (key_is t hk'.1 r) (keys_is ts hk'.2 p)
end
mutual
theorem key_beq : ∀ (a b : Tr), isK a = true → isK b = true → NestedKey.beq (keyT a) (keyT b) = Tr.beq a b
  | .int i, b, _, h => by cases b <;> first | rfl | (simp [keyT, NestedKey.beq, Tr.beq]) | cases h
  | .str i, b, _, h => by cases b <;> first | rfl | (simp [keyT, NestedKey.beq, Tr.beq]) | cases h
  | .non, b, h, _ => by cases h
  | .bl _, b, h, _ => by cases h
  | .sq t ts, .int _, _, _ => by simp [keyT, NestedKey.beq, Tr.beq]
  | .sq t ts, .str _, _, _ => by simp [keyT, NestedKey.beq, Tr.beq]
  | .sq t ts, .non, _, h => by cases h
  | .sq t ts, .bl _, _, h => by cases h
  | .sq t ts, .sq u us, h, h' => by
    have h1 : (!t && isKs ts) = true := h
    have h2 : (!u && isKs us) = true := h'
    rw [Bool.and_eq_true] at h1 h2
    have e1 : t = false := by simpa using h1.1
    have e2 : u = false := by simpa using h2.1
    subst e1 e2
    have := keys_beq ts us h1.2 h2.2
    simpa [keyT, NestedKey.beq, Tr.beq] using this
theorem keys_beq : ∀ (a b : List Tr), isKs a = true → isKs b = true → NestedKey.beqAll (keysT a) (keysT b) = Tr.beqAll a b
  | [], [], _, _ => rfl
  | [], _ :: _, _, _ => rfl
  | _ :: _, [], _, _ => rfl
  | x :: a, y :: b, h, h' => by
    have h1 : (isK x && isKs a) = true := h
    have h2 : (isK y && isKs b) = true := h'
    rw [Bool.and_eq_true] at h1 h2
    have e1 := key_beq x y h1.1 h2.1
    have e2 := keys_beq a b h1.2 h2.2
    simp [keysT, NestedKey.beqAll, Tr.beqAll, e1, e2]
end
end LwB
namespace LwB
open PySem PySem.Spec PyProof.Rows L2 IqX RvT EnS TL NsT
variable [LwB.KC]
section
variable {X : Cx} {N : Nat} {env : EnvT} {own own' : OwnT} {rest : List Stmt} {pos : Pos}
/-- xs[::-1] -/
theorem paired_rev {α β : Type} {F : α → β → Prop} : ∀ {l : List α} {m : List β}, Paired F l m → Paired F l.reverse m.reverse
  | _, _, .nil => .nil
  | _, _, .cons r p => by
    rw [List.reverse_cons, List.reverse_cons]
    exact paired_snoc (paired_rev p) r
theorem le_rev {e : Expr} {t : Bool} {ts : List Tr} {k : Nat} {p1 p2 p3} (he : PE X e (tLe N env (.sq t ts))) : PE X (.Subscript e (.Slice none none (some (.UnaryOp .USub (.Constant (.int 1) k p1) p2)) p3) pos) (tLe N env (.sq t ts.reverse)) :=
  PE.imp (pe_revS he) fun σ H Q ⟨W, x, ev, q⟩ => ⟨W, x, ev, fun H1 v s1 i1 => by
    obtain ⟨a, xs, rfl, hs, hl, pr⟩ := i1.sq_inv
    have xn := x.next s1
    have hq : Sq t H1 a xs := hs.1.mv fun o e => xn.sub a o e
    refine ⟨t, a, xs, rfl, hq.B, fun p np => q _ _ (s1.trans (same_new np)) ?_⟩
    have sp := same_new (o := if t = true then HO.lst xs.reverse else HO.tup xs.reverse) np
    rw [← vw_trans s1 sp]
    refine le_cut (a := a) xn sp (fun e => ⟨np, ?_⟩) (.inl upd_same) (by rw [List.length_reverse]; exact hl) (paired_rev (paired_imp pr fun _ _ r => r.mv (vw_keep xn)))
    rw [upd_same, if_pos e]⟩
theorem lf_rev {e : Expr} {ts : List Tr} {k : Nat} {p1 p2 p3} (he : PE X e (tLe N env (.sq true ts))) : PE X (.Subscript e (.Slice none none (some (.UnaryOp .USub (.Constant (.int 1) k p1) p2)) p3) pos) (tLf N env ts.reverse) :=
  PE.imp (pe_revS he) fun σ H Q ⟨W, x, ev, q⟩ => ⟨W, x, ev, fun H1 v s1 i1 => by
    obtain ⟨a, xs, rfl, hs, hl, pr⟩ := i1.sq_inv
    have xn := x.next s1
    have hq : Sq true H1 a xs := hs.1.mv fun o e => xn.sub a o e
    refine ⟨true, a, xs, rfl, hq.B, fun p np => q _ p _ (s1.trans (same_new np)) (s1.free np) upd_same (by rw [List.length_reverse]; exact hl) ?_⟩
    refine paired_rev (paired_imp pr fun _ _ r => r.mv fun b o h => ?_)
    have hbp : b ≠ p := by
      rintro rfl
      rw [xn.sub _ _ h] at np
      cases np
    rw [rm_ne hbp]
    exact vw_mono (same_new np) b o h⟩
theorem le_any {e : Expr} {bs : List Bool} {p : Pos} (hc : X.calm = true) (hm : X.mg "any" = none) (he : PE X e (tLe N env (.sq true (bs.map Tr.bl)))) (hg : Gl X "any" := by rfl) (hs : starEach [e] X.env = (false, eval e X.env) :: starEach [] X.env := by rfl) :
    PE X (.Call (.Name "any" p) [e] [] pos) (tLe N env (.bl (bs.any id))) :=
  PE.imp (pe_callB (he := hs) (cr_any hc) hg hm (by decide +kernel) (pa_cons (hs := hs) he pa_nil)) fun σ H Q ⟨W, x, ev, q⟩ => ⟨W, x, ev, fun H1 v s1 i1 => by
    obtain ⟨a, xs, rfl, ha, la, pa⟩ := i1.sq_inv
    have hq : Sq true H1 a xs := ha.1.mv fun o e => (x.next s1).sub a o e
    have ex : xs = bs.map V.bl := its_bls bs pa
    subst ex
    exact ⟨a, bs, rfl, hq.L, q H1 _ s1 ⟨0, .bl⟩⟩⟩
/-- return a new list that is made of lists of one's own -/
theorem s_retLO {e : Expr} {ts : List Tr} (he : PE X e (tLf N (fullE own env) ts)) (hn : Tr.nolAll ts = true) : PSs X (.Return (some e) pos :: rest) (tS N env own (.retL ts [])) :=
  PSs.imp (pss_cons (ps_ret he) pss_any) fun D σ H ⟨W, S, q⟩ => ⟨H, S.vw.self, S.full, fun H1 g vs s1 ng eg hl p => by
    have S1 := S.step s1
    have kp : Same W (rm (LwB.vw W H H1) g) := keep_rm S.vw ng
    have V1 := S1.vw.rm eg
    exact q g vs σ _ H1 kp ⟨V1, ⟨S.ev.1, fun _ h => nomatch h⟩, Ow.nil⟩ rm_self eg hl (paired_mem p fun a b ha r => It.nol V1 (nol_mem hn ha) (r.mv fun b o h => (S.vw.self.next s1).sub b o (rm_sub h)))⟩
/-- T != U, two tuples of keys -/
theorem r_neT {ts us : List Tr} (h1 : isKs ts = true) (h2 : isKs us = true) (hd : NestedKey.depthAll (keysT ts) ≤ 60) : ∀ H x y (Q : VK), It H (.sq false ts) x → It H (.sq false us) y → Q (.bl (!Tr.beqAll ts us)) H → rNeK x y H Q := fun H x y Q i1 i2 q => by
  obtain ⟨n, i1⟩ := i1
  obtain ⟨m, i2⟩ := i2
  have k1 := key_is (.sq false ts) (by show (!false && isKs ts) = true; rw [h1]; rfl) i1
  have k2 := key_is (.sq false us) (by show (!false && isKs us) = true; rw [h2]; rfl) i2
  obtain ⟨_, a, _, _, rfl, _⟩ := i1.sq_eq
  obtain ⟨_, b, _, _, rfl, _⟩ := i2.sq_eq
  exact ⟨keysT ts, keysT us, a, b, rfl, rfl, k1, k2, hd, by rw [keys_beq ts us h1 h2]; exact q⟩
theorem r_eqT {ts us : List Tr} (h1 : isKs ts = true) (h2 : isKs us = true) (hd : NestedKey.depthAll (keysT ts) ≤ 60) : ∀ H x y (Q : VK), It H (.sq false ts) x → It H (.sq false us) y → Q (.bl (Tr.beqAll ts us)) H → rEqK x y H Q := fun H x y Q i1 i2 q => by
  obtain ⟨n, i1⟩ := i1
  obtain ⟨m, i2⟩ := i2
  have k1 := key_is (.sq false ts) (by show (!false && isKs ts) = true; rw [h1]; rfl) i1
  have k2 := key_is (.sq false us) (by show (!false && isKs us) = true; rw [h2]; rfl) i2
  obtain ⟨_, a, _, _, rfl, _⟩ := i1.sq_eq
  obtain ⟨_, b, _, _, rfl, _⟩ := i2.sq_eq
  exact ⟨keysT ts, keysT us, a, b, rfl, rfl, k1, k2, hd, by rw [keys_beq ts us h1 h2]; exact q⟩
end
mutual
theorem Tr.beq_refl : ∀ t : Tr, Tr.beq t t = true
  | .non => rfl
  | .bl b => by simp [Tr.beq]
  | .int i => by simp [Tr.beq]
  | .str z => by simp [Tr.beq]
  | .sq t ts => by simp [Tr.beq, Tr.beqAll_refl ts]
theorem Tr.beqAll_refl : ∀ ts : List Tr, Tr.beqAll ts ts = true
  | [] => rfl
  | t :: ts => by simp [Tr.beqAll, Tr.beq_refl t, Tr.beqAll_refl ts]
end
/-! ### draws -/
def tD (N : Nat) (env : EnvT) (own : OwnT) (Pr : Tr → Prop) (own' : OwnT) : TE := fun σ H Q => ∃ W, Sv N env own σ W H ∧ ∀ v T W' H', Same W W' → Sv N env own' σ W' H' → Pr T → It W' T v → Q v H'
def tDs (N : Nat) (env : EnvT) (own : OwnT) (Pr : List Tr → Prop) (own' : OwnT) : TA := fun σ H Q => ∃ W, Sv N env own σ W H ∧ ∀ vs Ts W' H', Same W W' → Sv N env own' σ W' H' → Pr Ts → Paired (It W') Ts vs → Q vs H'
section
variable {X : Cx} {N : Nat} {env : EnvT} {own own1 own' : OwnT} {rest : List Stmt} {pos pos' : Pos} {o : Oc} {e : Expr} {es : List Expr}
theorem de_of {T : Tr} (he : PE X e (tLe N env T)) : PE X e (tD N env own (fun T' => T' = T) own) :=
  PE.imp he fun σ H Q ⟨W, S, q⟩ => ⟨W, S.vw, S.ev, fun H1 v s1 i1 => q v T _ H1 S.keep (S.step s1) rfl i1⟩
theorem de_imp {Pr Pr' : Tr → Prop} (he : PE X e (tD N env own Pr own')) (h : ∀ T, Pr T → Pr' T) : PE X e (tD N env own Pr' own') :=
  PE.imp he fun σ H Q ⟨W, S, q⟩ => ⟨W, S, fun v T W' H' s S' p i => q v T W' H' s S' (h T p) i⟩
theorem des_nil : PA X [] (tDs N env own (fun Ts => Ts = []) own) := PA.imp pa_nil fun σ H Q ⟨W, S, q⟩ => q [] [] W H (Same.refl W) S rfl .nil
theorem des_cons {Pr : Tr → Prop} {R : List Tr → Prop} (he : PE X e (tD N env own Pr own1)) (hr : PA X es (tDs N env own1 R own')) (hs : starEach (e :: es) X.env = (false, eval e X.env) :: starEach es X.env := by rfl) :
    PA X (e :: es) (tDs N env own (fun Ts => ∃ T Us, Ts = T :: Us ∧ Pr T ∧ R Us) own') :=
  PA.imp (pa_cons (hs := hs) he hr) fun σ H Q ⟨W, S, q⟩ => ⟨W, S, fun v T W1 H1 s1 S1 p1 i1 => ⟨W1, S1, fun vs Ts W2 H2 s2 S2 p2 i2 => q (v :: vs) (T :: Ts) W2 H2 (s1.trans s2) S2 ⟨T, Ts, rfl, p1, p2⟩ (.cons (i1.mv s2) i2)⟩⟩
theorem bx_list {n : Nat} {H : Hp} {b : Addr} (h : Bx n H b) : ∃ xs, H b = some (.lst xs) := by
  obtain ⟨x0, x1, x2, e, _⟩ := h
  exact ⟨_, e⟩
theorem Sv.box {σ : L2.St} {W H : Hp} {b : Addr} {n β : Nat} (S : Sv N env own σ W H) (hm : (β, Cn.box b n) ∈ own) : σ[β]? = some (some (.ref b)) ∧ W b = none ∧ Bx n H b := by
  obtain ⟨ad, h1, _⟩ := S.ow
  obtain ⟨a1, a2, vs, a3, a4, x0, x1, x2, e, r⟩ := h1 _ hm
  have a4 : ad β = b := a4
  have a1 : σ[β]? = some (some (.ref (ad β))) := a1
  have a3 : H (ad β) = some (.lst vs) := a3
  have a2 : W (ad β) = none := a2
  rw [a4] at a1 a2 a3
  exact ⟨a1, a2, x0, x1, x2, by rw [a3, e], r⟩
theorem Good.drawn {H H' : Hp} {b : Addr} {xs : List V} (g : Good H) (f : LwB.Fr b H H') (hb : H b = some (.lst xs)) : Good H' := fun c hc => f _ _ (g c hc) fun e => by
  have h := g c hc
  rw [e, hb] at h
  cases h
/-- behind what changes the box alone -/
theorem Sv.drawn {σ : L2.St} {W H H' : Hp} {b : Addr} {n n' β : Nat} (S : Sv N env own σ W H) (hm : (β, Cn.box b n) ∈ own) (f : LwB.Fr b H H') (bx : Bx n' H' b) : Sv N env ((β, .box b n') :: delO β own) σ (LwB.vw W H H') H' := by
  obtain ⟨hσ, hW, hB⟩ := S.box hm
  obtain ⟨xs, hb⟩ := bx_list hB
  have hne : ∀ a o, W a = some o → a ≠ b := fun a o h e => by
    rw [e, hW] at h
    cases h
  refine ⟨⟨fun a o h => ?_, fun a o h => ?_, S.vw.good.drawn f hb⟩, S.ev.mv (vw_keep S.vw), ?_⟩
  · rcases dom_cases H a with q | ⟨u, q⟩
    · rw [vw_new q] at h
      exact h
    · rw [vw_old q] at h
      exact f a o (S.vw.sub a o h) (hne a o h)
  · rcases dom_cases H a with q | ⟨u, q⟩
    · rw [vw_new q]
      exact .inl h
    · rw [vw_old q]
      by_cases e : a = b
      · subst e
        obtain ⟨ys, hy⟩ := bx_list bx
        rw [hy] at h
        cases h
        exact .inr ⟨ys, rfl⟩
      · have := f a u q e
        rw [h] at this
        cases this
        exact S.vw.all a o q
  · obtain ⟨ad, h1, h2⟩ := S.ow
    obtain ⟨c1, c2, us, c3, c4, _⟩ := h1 _ hm
    have c4 : ad β = b := c4
    have hm' : ∀ {p}, p ∈ (β, Cn.box b n') :: delO β own → ∃ c, (p.1, c) ∈ own := fun {p} hp => by
      rcases List.mem_cons.mp hp with rfl | hp
      · exact ⟨_, hm⟩
      · exact ⟨_, delO_sub hp⟩
    refine ⟨ad, fun p hp => ?_, fun p hp r hr e => ?_⟩
    · rcases List.mem_cons.mp hp with rfl | hp
      · obtain ⟨x0, x1, x2, e, r⟩ := bx
        refine ⟨c1, ?_, _, by show H' (ad β) = _; rw [c4]; exact e, c4, x0, x1, x2, rfl, r⟩
        show LwB.vw W H H' (ad β) = none
        rw [c4, vw_old hb]
        exact hW
      · obtain ⟨b1, b2, us', b3, b4⟩ := h1 p (delO_sub hp)
        have hne : ad p.1 ≠ b := fun e => delO_ne hp (h2 p (delO_sub hp) _ hm (e.trans c4.symm))
        exact ⟨b1, by rw [vw_old b3]; exact b2, us', f _ _ b3 hne, Cn.ok_mv (vw_keep S.vw) b4⟩
    · obtain ⟨c, hc⟩ := hm' hp
      obtain ⟨c', hc'⟩ := hm' hr
      exact h2 (p.1, c) hc (r.1, c') hc' e
theorem nv_drawn {σ : L2.St} {W H H' : Hp} {b : Addr} {n β : Nat} (S : Sv N env own σ W H) (hm : (β, Cn.box b n) ∈ own) (f : LwB.Fr b H H') : Same (nv H H') (LwB.vw W H H') := fun a o h => by
  obtain ⟨h1, h2⟩ := nv_sub h
  rcases dom_cases H a with q | ⟨u, q⟩
  · rw [vw_new q]
    exact h1
  · rw [vw_old q]
    obtain ⟨xs, hb⟩ := bx_list (S.box hm).2.2
    have hab : a ≠ b := by
      rintro rfl
      exact h2 xs hb
    have e := f a u q hab
    rw [h1] at e
    cases e
    rcases S.vw.all a o q with h3 | ⟨ys, e⟩
    · exact h3
    · subst e
      exact absurd q (h2 ys)
theorem nv_allF {H H' : Hp} {b : Addr} {n : Nat} (f : LwB.Fr b H H') (bx : Bx n H' b) : ∀ a o, H' a = some o → nv H H' a = some o ∨ ∃ xs, o = .lst xs := fun a o h => by
  by_cases q : ∃ xs, H a = some (.lst xs)
  · obtain ⟨xs, q⟩ := q
    by_cases e : a = b
    · subst e
      obtain ⟨ys, hy⟩ := bx_list bx
      rw [hy] at h
      cases h
      exact .inr ⟨ys, rfl⟩
    · have := f _ _ q e
      rw [h] at this
      exact .inr ⟨xs, Option.some.inj this⟩
  · exact .inl (by rw [nv_not fun xs e => q ⟨xs, e⟩]; exact h)
/-- f(box, ..) -/
theorem de_cG {x : Str} {ps : List Str} {k m : Nat} {sp : Sp} {eb : Expr} {β n0 n : Nat} {b : Addr} {R : List Tr → Prop} {Pr : Tr → Prop} {p : Pos} (O : Ok X.prog X.w X.K X.mg X.base k x ps sp) (hr : Room k X.A) (hb : PE X eb (tVar β)) (ha : PA X es (tDs N env own R own1))
    (hsp : ∀ H us Ts (Q : VK), Good H → Bx n H b → R Ts → Paired (It (rm H b)) Ts us → (∀ H' v T, LwB.Fr b H H' → Bx m H' b → Pr T → It (nv H H') T v → Q v H') → sp (.ref b :: us) H Q E0) (hm0 : lookO own β = some (.box b n0) := by rfl) (hm : lookO own1 β = some (.box b n) := by rfl) (hg : Gl X x := by rfl)
    (hdb : (x == ("__debug__" : Str)) = false := by decide) (hs : starEach (eb :: es) X.env = (false, eval eb X.env) :: starEach es X.env := by rfl) (hpl : (backTo pos (starEach es X.env)).any (·.1) = false := by rfl) :
    PE X (.Call (.Name x p) (eb :: es) [] pos) (tD N env own Pr ((β, .box b m) :: delO β own1)) :=
  PE.imp (pe_c O hr (pa_cons (hs := hs) hb ha) hg hdb hs hpl) fun σ H Q ⟨W, S, q⟩ => by
    obtain ⟨hσ, _, _⟩ := S.box (lookO_mem hm0)
    refine ⟨.ref b, hσ, W, S, fun us Ts W1 H1 s1 S1 r pr => ?_⟩
    show sp ((V.ref b :: us) ++ []) H1 Q E0
    rw [List.append_nil]
    obtain ⟨_, hW, hB⟩ := S1.box (lookO_mem hm)
    refine hsp H1 us Ts Q S1.vw.good hB r (paired_imp pr fun _ _ i => i.mv fun a o h => ?_) fun H' v T f bx p i => ?_
    · have hab : a ≠ b := by
        rintro rfl
        rw [hW] at h
        cases h
      rw [rm_ne hab]
      exact S1.vw.sub a o h
    · exact q v T _ H' (s1.trans (vw_keep S1.vw)) (S1.drawn (lookO_mem hm) f bx) p (i.mv (nv_drawn S1 (lookO_mem hm) f))
/-- f(box, ..) -/
theorem de_c {x : Str} {ps : List Str} {k m : Nat} {sp : Sp} {eb : Expr} {β n0 n : Nat} {b : Addr} {R : List Tr → Prop} {Pr : Tr → Prop} {p : Pos} (O : Ok X.prog X.w X.K X.mg X.base k x ps sp) (hr : Room k X.A) (hb : PE X eb (tVar β)) (ha : PA X es (tDs N env own R own1))
    (hsp : ∀ H us Ts (Q : VK), Bx n H b → R Ts → Paired (It (rm H b)) Ts us → (∀ H' v T, LwB.Fr b H H' → Bx m H' b → Pr T → It (nv H H') T v → Q v H') → sp (.ref b :: us) H Q E0) (hm0 : lookO own β = some (.box b n0) := by rfl) (hm : lookO own1 β = some (.box b n) := by rfl) (hg : Gl X x := by rfl)
    (hdb : (x == ("__debug__" : Str)) = false := by decide) (hs : starEach (eb :: es) X.env = (false, eval eb X.env) :: starEach es X.env := by rfl) (hpl : (backTo pos (starEach es X.env)).any (·.1) = false := by rfl) :
    PE X (.Call (.Name x p) (eb :: es) [] pos) (tD N env own Pr ((β, .box b m) :: delO β own1)) :=
  de_cG O hr hb ha (fun H us Ts Q _ => hsp H us Ts Q) hm0 hm hg hdb hs hpl
/-- x = a draw -/
theorem s_draw {i : Nat} {x : Str} {Pr : Tr → Prop} (hN : X.N.Nodup) (hi : X.N[i]? = some x) (hx : Loc X.env.scope x) (he : PE X e (tD N env own Pr own1)) (hrest : ∀ T, Pr T → PSs X rest (tS N ((i, T) :: del i env) own1 o)) (hiN : i < N := by decide) (hf : freeO i own1 = true := by rfl)
    (hs : swapsWith e (some (.Name x pos')) pos.line X.env = pure false := by rfl) (hfn : X.fn x = true ∨ X.env.scope.names.lookup x = some .local := by first | exact .inl rfl | exact .inr rfl | assumption) : PSs X (.Assign [.Name x pos'] e pos :: rest) (tS N env own o) :=
  PSs.imp (pss_cons (ps_set (i := i) hN hi hx he hs hfn) pss_any) fun D σ H ⟨W, S, q⟩ => ⟨W, S, fun v T W1 H1 s1 S1 p i1 => ⟨_, hrest T p, W1, S1.set hiN hf i1, q.mono s1⟩⟩
/-- a, b = two draws -/
theorem s_draw2 {i j : Nat} {x y : Str} {a b : Expr} {R : List Tr → Prop} {px py pt : Pos} {kt k2 pt2} (hc : X.calm = true) (hN : X.N.Nodup) (hi : X.N[i]? = some x) (hj : X.N[j]? = some y) (hij : i ≠ j) (hx : X.env.scope.names.lookup x = some .local) (hy : X.env.scope.names.lookup y = some .local)
    (ha : PA X [a, b] (tDs N env own R own1)) (hw : swappedStores [.Tuple [.Name x px, .Name y py] kt pt] (.Tuple [a, b] k2 pt2) X.env = pure (some [x, y])) (hrest : ∀ T1 T2, R [T1, T2] → PSs X rest (tS N ((j, T2) :: del j ((i, T1) :: del i env)) own1 o)) (hR : ∀ Ts, R Ts → Ts.length = 2) (hiN : i < N := by decide) (hjN : j < N := by decide) (hfi : freeO i own1 = true := by rfl) (hfj : freeO j own1 = true := by rfl)
    (hs : swapsWithSole [.Tuple [.Name x px, .Name y py] kt pt] (.Tuple [a, b] k2 pt2) pos.line X.env = pure false := by rfl) : PSs X (.Assign [.Tuple [.Name x px, .Name y py] kt pt] (.Tuple [a, b] k2 pt2) pos :: rest) (tS N env own o) :=
  PSs.imp (pss_cons (ps_par (i := i) (j := j) hc hN hi hj hij hx hy ha hw hs) pss_any) fun D σ H ⟨W, S, q⟩ => ⟨W, S, fun vs Ts W1 H1 s1 S1 r i1 => by
    match Ts, hR Ts r with
    | [T1, T2], _ =>
      obtain ⟨v1, v2, rfl, r1, r2⟩ := two_its i1
      exact ⟨v1, v2, rfl, _, hrest T1 T2 r, W1, (S1.set hiN hfi r1).set hjN hfj r2, q.mono s1⟩⟩
end
theorem Sv.more {N : Nat} {env : EnvT} {own : OwnT} {σ : L2.St} {W H : Hp} {b : Addr} {n n' β : Nat} (S : Sv N env own σ W H) (hm : lookO own β = some (.box b n)) (h : n ≤ n') : Sv N env ((β, .box b n') :: delO β own) σ W H := by
  refine ⟨S.vw, S.ev, ?_⟩
  have hm := lookO_mem hm
  obtain ⟨ad, h1, h2⟩ := S.ow
  have hm' : ∀ {p}, p ∈ (β, Cn.box b n') :: delO β own → ∃ c, (p.1, c) ∈ own := fun {p} hp => by
    rcases List.mem_cons.mp hp with rfl | hp
    · exact ⟨_, hm⟩
    · exact ⟨_, delO_sub hp⟩
  refine ⟨ad, fun p hp => ?_, fun p hp r hr e => ?_⟩
  · rcases List.mem_cons.mp hp with rfl | hp
    · obtain ⟨a1, a2, vs, a3, a4, x0, x1, x2, e, r0, r1, r2, r3, r4⟩ := h1 _ hm
      exact ⟨a1, a2, vs, a3, a4, x0, x1, x2, e, r0, r1, r2, r3, by omega⟩
    · exact h1 p (delO_sub hp)
  · obtain ⟨c, hc⟩ := hm' hp
    obtain ⟨c', hc'⟩ := hm' hr
    exact h2 (p.1, c) hc (r.1, c') hc' e
/-- the end of a turn that drew -/
theorem s_goB {X : Cx} {N : Nat} {env env' : EnvT} {own : OwnT} {b : Addr} {n n' β : Nat} (hs : SubE env' env) (hm : lookO own β = some (.box b n) := by rfl) (h : n ≤ n' := by omega) : PSs X [] (tS N env own (.go env' [(β, .box b n')])) :=
  PSs.imp pss_nil fun D σ H ⟨W, S, q⟩ => q σ W H (Same.refl W) ((S.more hm h).sub hs.mem fun p hp => by
    rw [List.mem_singleton.mp hp]
    exact .head _)
/-! ### the draws of all laws -/
theorem its_two {H : Hp} {T U : Tr} {vs : List V} (p : Paired (It H) [T, U] vs) : ∃ a b, vs = [a, b] ∧ It H T a ∧ It H U b := two_its p
theorem its_one {H : Hp} {T : Tr} {vs : List V} (p : Paired (It H) [T] vs) : ∃ a, vs = [a] ∧ It H T a := by
  cases p with
  | cons r p =>
    cases p
    exact ⟨_, rfl, r⟩
theorem new_list {H H' : Hp} {p : Addr} {xs : List V} {ts : List Tr} (hn : H p = none) (he : H' p = some (.lst xs)) (hl : xs.length ≤ 1000000) (pr : Paired (It (nv H H')) ts xs) : It (nv H H') (.sq true ts) (.ref p) :=
  It.sq (.lst (by rw [nv_not fun ys e => by rw [hn] at e; cases e]; exact he)) hl pr
theorem its_strs (W : Hp) : ∀ ss : List Str, Paired (It W) (ss.map Tr.str) (ss.map V.str)
  | [] => .nil
  | s :: ss => .cons ⟨0, .str⟩ (its_strs W ss)
theorem strs_its {W : Hp} : ∀ {ss : List Str} {xs : List V}, Paired (It W) (ss.map Tr.str) xs → xs = ss.map V.str
  | [], _, .nil => rfl
  | s :: ss, _, .cons r p => by rw [r.str_eq, strs_its p]; rfl
/-- so many names -/
def isNames (m : Nat) (T : Tr) : Prop := ∃ ss, T = trs true ss ∧ NamesOk ss ∧ ss.length = m
theorem kd_names {n : Nat} {b : Addr} {R : List Tr → Prop} {lo hi : Nat} (hR : ∀ Ts, R Ts → ∃ m : Nat, Ts = [.int m] ∧ lo ≤ m ∧ m ≤ hi) (hn : n < 800000000) (hhi : hi ≤ 26) :
    ∀ H us Ts (Q : VK), Bx n H b → R Ts → Paired (It (rm H b)) Ts us → (∀ H' v T, LwB.Fr b H H' → Bx (n + 400) H' b → (∃ m, lo ≤ m ∧ m ≤ hi ∧ isNames m T) → It (nv H H') T v → Q v H') → spNames (.ref b :: us) H Q E0 := fun H us Ts Q bx r p q => by
  obtain ⟨m, rfl, h1, h2⟩ := hR Ts r
  obtain ⟨v, rfl, i⟩ := its_one p
  rw [i.int_eq]
  exact ⟨b, n, m, rfl, bx, hn, by omega, fun H' p ss f b' hp hp' ok hl => q H' _ (trs true ss) f b' ⟨m, h1, h2, ss, rfl, ok, hl⟩ (new_list hp hp' (by rw [List.length_map]; omega) (its_strs _ ss))⟩
/-- a drawn log -/
def isRow (ss : List Str) (m : Nat) (T : Tr) : Prop := ∃ es, T = trs false es ∧ es.length ≤ m ∧ ∀ e ∈ es, e ∈ ss
theorem kd_row {n m : Nat} {b : Addr} {ss : List Str} {R : List Tr → Prop} (hR : ∀ Ts, R Ts → Ts = [trs true ss, .int m]) (hn : n < 800000000) (hs : ss.length ≤ 1000000) (hs0 : 0 < ss.length) (hm : m ≤ 1000) :
    ∀ H us Ts (Q : VK), Bx n H b → R Ts → Paired (It (rm H b)) Ts us → (∀ H' v T, LwB.Fr b H H' → Bx (n + 1 + m) H' b → isRow ss m T → It (nv H H') T v → Q v H') → spRow (.ref b :: us) H Q E0 := fun H us Ts Q bx r p q => by
  rw [hR Ts r] at p
  obtain ⟨v1, v2, rfl, i1, i2⟩ := two_its p
  rw [i2.int_eq]
  obtain ⟨l, xs, rfl, hl, ll, pl⟩ := i1.sq_inv
  have ex := strs_its pl
  subst ex
  have e1 := hl.2 rfl
  have hlb : l ≠ b := by
    rintro rfl
    rw [rm_self] at e1
    cases e1
  refine ⟨b, l, n, m, ss, rfl, bx, hn, hlb, .lst (rm_sub e1), hs, hs0, hm, fun H' p es f b' hp hpb hle hes => q H' _ (trs false es) f b' ⟨es, rfl, hle, hes⟩ ?_⟩
  exact It.nolA (nv_allF f b') (trs_nol es) (It.of (Is.strs (n := 0) (.tup hp) (by omega)))
theorem kd_take {n m : Nat} {b : Addr} {R : List Tr → Prop} (hR : ∀ Ts, R Ts → Ts = [.int m]) (hn : n < 1000000000) (h0 : 0 < m) (hm : m < 1000000) :
    ∀ H us Ts (Q : VK), Bx n H b → R Ts → Paired (It (rm H b)) Ts us → (∀ H' v T, LwB.Fr b H H' → Bx (n + 1) H' b → (∃ r : Nat, T = .int r ∧ r < m) → It (nv H H') T v → Q v H') → spTake (.ref b :: us) H Q E0 := fun H us Ts Q bx r p q => by
  rw [hR Ts r] at p
  obtain ⟨v, rfl, i⟩ := its_one p
  rw [i.int_eq]
  refine ⟨b, n, m, rfl, bx, hn, by omega, by omega, fun H' r f b' h0' h1 => ?_⟩
  obtain ⟨k, rfl⟩ := Int.eq_ofNat_of_zero_le h0'
  exact q H' _ (.int k) f b' ⟨k, rfl, by omega⟩ ⟨0, .int⟩
/-- e + f, two ints, drawn -/
theorem de_add {X : Cx} {N : Nat} {env : EnvT} {own own1 own' : OwnT} {pos : Pos} {a b : Expr} {P1 P2 : Tr → Prop} (h1 : PE X a (tD N env own P1 own1)) (h2 : PE X b (tD N env own1 P2 own')) (i1 : ∀ T, P1 T → ∃ i : Int, T = .int i) (i2 : ∀ T, P2 T → ∃ i : Int, T = .int i) :
    PE X (.BinOp a .Add b pos) (tD N env own (fun T => ∃ i j : Int, T = .int (i + j) ∧ P1 (.int i) ∧ P2 (.int j)) own') :=
  PE.imp (pe_op op_add h1 h2) fun σ H Q ⟨W, S, q⟩ => ⟨W, S, fun v T W1 H1 s1 S1 p1 r1 => ⟨W1, S1, fun u U W2 H2 s2 S2 p2 r2 => by
    obtain ⟨i, rfl⟩ := i1 T p1
    obtain ⟨j, rfl⟩ := i2 U p2
    rw [r1.int_eq, r2.int_eq]
    exact ⟨i, j, rfl, rfl, q _ _ W2 H2 (s1.trans s2) S2 ⟨i, j, rfl, p1, p2⟩ ⟨0, .int⟩⟩⟩⟩
/-! ### a law's turn -/
def spRightB : Sp := fun vs H Q _ => Good H ∧ ∃ (b : Addr), vs = [.ref b] ∧ Bx 0 H b ∧ ∀ H', LwB.Fr b H H' → Q (.bl true) H'
section
variable {P : Program} {w : World} {K : PySem.W.Frag} {mg : Str → Option Value} {base : Heap}
theorem Df.okB {x : Str} {st : Stmt} {Ns ps : List Str} {k : Nat} (D : Df K mg x st ps) (S : FnScope Ns ps (defScope st)) (hps : ps.length = 1)
    (hb : ∀ (f : Addr) (cdv : Value) (Ar : Around) (outer : List Env) (s : Shared) (H : Hp) (E : XK), Room k (Ar.deeper (envOfC x (defScope st) s.heap.objs.size f cdv)) → ∀ b : Addr,
      PSs (cxOf CX0 P w K mg base Ns x (defScope st) f cdv Ar outer s H E).nox (defBody st) (tS Ns.length [] [(0, .box b 0)] (.ret (.bl true) []))) (hl : 1 ≤ Ns.length := by decide) : Ok P w K mg base (k + 1) x ps spRightB := by
  refine D.ok S (fun vs H Q E ⟨_, b, e, _⟩ => by rw [e, hps]; rfl) (fun f cdv Ar outer s H vs Q E hr ⟨gd, b, e, bx, q⟩ => ?_)
  subst e
  obtain ⟨xs, hx⟩ := bx_list bx
  refine ⟨_, hb f cdv Ar outer s H E hr b, rm H b, ⟨(Vw.refl H gd).rm hx, ?_, fun _ => b, fun p hp => ?_, fun p hp r hr _ => ?_⟩, ?_⟩
  · have h := ev_start (W := H) (Ns := Ns) (Ts := []) (vs := []) .nil (Nat.zero_le _)
    refine ⟨?_, fun _ h => nomatch h⟩
    unfold L2.start
    rw [List.length_append, List.length_map, List.length_replicate]
    show 1 + (Ns.length - 1) = _
    omega
  · rw [List.mem_singleton.mp hp]
    obtain ⟨x0, x1, x2, e, r⟩ := bx
    exact ⟨rfl, rm_self, _, e, rfl, x0, x1, x2, rfl, r⟩
  · rw [List.mem_singleton.mp hp, List.mem_singleton.mp hr]
  · intro v σ' W' H' sm S' i'
    rw [i'.bl_eq]
    exact q H' fun a o h hab => S'.vw.sub a o (sm a o (by rw [rm_ne hab]; exact h))
end
end LwB
namespace LwB
open PySem PySem.Spec PyProof.Rows L2 IqX RvT EnS TL NsT
variable [LwB.KC]
/-! ### words in order, as trees -/
def spInO (t : Bool) : Sp := fun vs H Q _ => ∃ (a : Addr) (Ws : Words), vs = [.ref a] ∧ Bas t H a Ws ∧ Ws.length < 77 ∧ ∀ H' p xs, Same H H' → H p = none → H' p = some (.lst xs) → xs.length ≤ 1000000 → Paired (RowAt H') (canon Ws) xs → Q (.ref p) H'
def TInO (t : Bool) : Sp := spT (fun Ws : Words => [trows t Ws]) (fun Ws => Ws.length < 77) fun Ws => trows true (canon Ws)
theorem RowAt.it {H : Hp} {w : List Str} {v : V} (h : RowAt H w v) : It H (trs false w) v := It.of (h.is (n := 0))
theorem rows_nolAll : ∀ Ws : Words, Tr.nolAll (Ws.map (trs false)) = true
  | [] => rfl
  | w :: Ws => by
    show ((trs false w).nol && Tr.nolAll (Ws.map (trs false))) = true
    rw [trs_nol, rows_nolAll Ws]
    rfl
theorem rows_new {H H' : Hp} {p : Addr} {xs : List V} {Ws : Words} (s : Same H H') (hn : H p = none) (he : H' p = some (.lst xs)) (hl : xs.length ≤ 1000000) (pr : Paired (RowAt H') Ws xs) : It (nv H H') (trows true Ws) (.ref p) :=
  new_list hn he hl (paired_map (paired_imp pr fun w v r => It.nolA (nv_all s) (trs_nol w) r.it))
theorem tinO {t : Bool} : ∀ vs H (Q : VK) (E : XK), TInO t vs H Q E → spInO t vs H Q E := fun vs H Q E ⟨gd, Ws, hf, p, q⟩ => by
  obtain ⟨v, rfl, i⟩ := its_one p
  obtain ⟨a, rfl, b⟩ := bas_of_it i
  exact ⟨a, Ws, rfl, b, hf, fun H' p xs s hn he hl pr => q H' _ s (rows_new s hn he hl pr)⟩
/-- is_part -/
def TPart (t u : Bool) : Sp := spT (fun i : List Str × List Str => [trs t i.1, trs u i.2]) (fun _ => True) fun i => .bl (isPart i.1 i.2)
theorem tpart {t u : Bool} : ∀ vs H (Q : VK) (E : XK), TPart t u vs H Q E → spPart vs H Q E := fun vs H Q E ⟨gd, ⟨ws, es⟩, _, p, q⟩ => by
  obtain ⟨x, y, rfl, i1, i2⟩ := two_its p
  obtain ⟨a, rfl, ha, _⟩ := sx_of_it i1
  obtain ⟨b, rfl, hb, _⟩ := sx_of_it i2
  exact ⟨t, u, a, b, ws, es, rfl, ha, hb, fun H' s => q H' _ s ⟨0, .bl⟩⟩
/-- the law's own: the same things -/
def TSame (n : Nat) : Sp := spT (fun T : Tr => [T, T]) (fun T => T.dep ≤ n) fun _ => .bl true
theorem tsame {n : Nat} : ∀ vs H (Q : VK) (E : XK), TSame n vs H Q E → spSame (n + 1) vs H Q E := fun vs H Q E ⟨gd, T, hd, p, q⟩ => by
  obtain ⟨x, y, rfl, i1, i2⟩ := two_its p
  exact ⟨x, y, T, rfl, i1.to hd, i2.to hd, fun H' s => q H' _ s ⟨0, .bl⟩⟩
def TLies (t u : Bool) : Sp := spT (fun i : List Str × List Str => [trs t i.1, trs u i.2]) (fun i => i.1.length ≤ 1000) fun i => .bl (isPart i.1 i.2)
theorem tlies {t u : Bool} : ∀ vs H (Q : VK) (E : XK), TLies t u vs H Q E → spLies vs H Q E := fun vs H Q E ⟨gd, ⟨ws, es⟩, hw, p, q⟩ => by
  obtain ⟨x, y, rfl, i1, i2⟩ := two_its p
  obtain ⟨a, rfl, ha, _⟩ := sx_of_it i1
  obtain ⟨b, rfl, hb, _⟩ := sx_of_it i2
  exact ⟨t, u, a, b, ws, es, rfl, ha, hb, hw, q H _ (Same.refl H) ⟨0, .bl⟩⟩
/-- the law's own order of rows -/
def TSorted (t : Bool) : Sp := spT (fun Ws : Words => [trows t Ws]) (fun Ws => Ws.length < 77) fun Ws => trows false (canon Ws)
theorem tsorted {t : Bool} : ∀ vs H (Q : VK) (E : XK), TSorted t vs H Q E → spSorted vs H Q E := fun vs H Q E ⟨gd, Ws, hf, p, q⟩ => by
  obtain ⟨v, rfl, i⟩ := its_one p
  obtain ⟨a, rfl, b⟩ := bas_of_it i
  refine ⟨t, a, Ws, rfl, b, hf, fun H' p Us s hb so => q H' _ s ?_⟩
  rw [so.canon] at hb
  exact It.nolA (nv_all s) (trows_nol _) (It.of (hb.is (n := 0)))
theorem unrow_strs (es : List Str) : unrow (.sq false (es.map Tr.str)) = es := unrow_trs false es
/-- a comprehension's trees are words -/
def isWord (T : Tr) : Prop := ∃ w, T = trs false w
theorem map_words {Ws : Words} : ∀ T ∈ Ws.map (trs false), isWord T := fun T h => by
  obtain ⟨w, _, e⟩ := List.mem_map.mp h
  exact ⟨w, e.symm⟩
theorem filter_words (p : List Str → Bool) : ∀ Ws : Words, (Ws.map (trs false)).filter (fun T => p (unrow T)) = (Ws.filter p).map (trs false)
  | [] => rfl
  | w :: Ws => by
    rw [List.map_cons, List.filter_cons, List.filter_cons, filter_words p Ws, unrow_trs]
    split <;> rfl
theorem dep_trs (w : List Str) : (trs false w).dep = 1 := trs_dep false w
theorem dep_trows (t : Bool) (Ws : Words) : (trows t Ws).dep ≤ 2 := by
  show Tr.depAll (Ws.map (trs false)) + 1 ≤ 2
  have h : Tr.depAll (Ws.map (trs false)) ≤ 1 := by
    induction Ws with
    | nil => exact Nat.zero_le _
    | cons w Ws ih =>
      show max (trs false w).dep (Tr.depAll (Ws.map (trs false))) ≤ 1
      rw [dep_trs]
      omega
  omega
theorem isKs_strs : ∀ w : List Str, isKs (w.map Tr.str) = true
  | [] => rfl
  | z :: w => isKs_strs w
theorem isKs_rows : ∀ Ws : Words, isKs (Ws.map (trs false)) = true
  | [] => rfl
  | w :: Ws => by
    show ((!false && isKs (w.map Tr.str)) && isKs (Ws.map (trs false))) = true
    rw [isKs_strs, isKs_rows Ws]
    rfl
theorem keysT_strs : ∀ w : List Str, keysT (w.map Tr.str) = w.map NestedKey.text
  | [] => rfl
  | z :: w => by
    show NestedKey.text z :: keysT (w.map Tr.str) = _
    rw [keysT_strs w]
    rfl
theorem depth_strs (w : List Str) : NestedKey.depthAll (keysT (w.map Tr.str)) ≤ 60 := by
  rw [keysT_strs, depth_texts]
  decide
theorem depth_rows (Ws : Words) : NestedKey.depthAll (keysT (Ws.map (trs false))) ≤ 60 := by
  have h : NestedKey.depthAll (keysT (Ws.map (trs false))) ≤ 1 := by
    induction Ws with
    | nil => exact Nat.zero_le _
    | cons w Ws ih =>
      show max (NestedKey.depth (.tup (keysT (w.map Tr.str)))) (NestedKey.depthAll (keysT (Ws.map (trs false)))) ≤ 1
      have : NestedKey.depth (.tup (keysT (w.map Tr.str))) = 1 := by
        rw [keysT_strs]
        show NestedKey.depthAll (w.map NestedKey.text) + 1 = 1
        rw [depth_texts]
      rw [this]
      omega
  omega
theorem beqAll_strs : ∀ u w : List Str, Tr.beqAll (u.map Tr.str) (w.map Tr.str) = decide (u = w)
  | [], [] => rfl
  | [], _ :: _ => rfl
  | _ :: _, [] => rfl
  | a :: u, b :: w => by
    show (Tr.beq (.str a) (.str b) && Tr.beqAll (u.map Tr.str) (w.map Tr.str)) = _
    rw [beqAll_strs u w]
    simp [Tr.beq]
theorem maxs_filter (Us : Words) (w : List Str) : ((Us.filter fun u => decide (u ≠ w) && isPart w u).map (trs false)).isEmpty = (Us.filter fun u => decide (u ≠ w) && isPart w u).isEmpty := by
  cases (Us.filter fun u => decide (u ≠ w) && isPart w u) <;> rfl
theorem grF_len : ∀ (l kept : Words), (grF l kept).length ≤ l.length + kept.length
  | [], kept => by
    show kept.length ≤ 0 + kept.length
    omega
  | w :: l, kept => by
    rw [grF_cons]
    have h := grF_len l (grStep kept w)
    have h2 : (grStep kept w).length ≤ kept.length + 1 := by
      unfold grStep
      split
      · omega
      · rw [List.length_append, List.length_singleton]
        omega
    rw [List.length_cons]
    omega
theorem grF_take {l : Words} {j : Nat} {z : List Str} (h : l[j]? = some z) {kept : Words} : grF (l.take (j + 1)) kept = grStep (grF (l.take j) kept) z := by
  obtain ⟨hj, e⟩ := List.getElem?_eq_some_iff.mp h
  rw [List.take_succ_eq_append_getElem hj, e]
  unfold grF
  rw [List.foldl_append]
  rfl
def isWordN (n : Nat) (T : Tr) : Prop := ∃ w, T = trs false w ∧ w.length ≤ n
theorem map_wordsN {Ws : Words} {n : Nat} (h : ∀ w ∈ Ws, w.length ≤ n) : ∀ T ∈ Ws.map (trs false), isWordN n T := fun T hT => by
  obtain ⟨w, hw, e⟩ := List.mem_map.mp hT
  exact ⟨w, e.symm, h w hw⟩
/-- a word of the words themselves -/
def isIn (Ws : Words) (T : Tr) : Prop := ∃ w, T = trs false w ∧ w ∈ Ws
theorem map_in {Ws : Words} : ∀ T ∈ Ws.map (trs false), isIn Ws T := fun T hT => by
  obtain ⟨w, hw, e⟩ := List.mem_map.mp hT
  exact ⟨w, e.symm, hw⟩
def Oc.leaves : Oc → Bool
  | .go _ _ => false
  | _ => true
/-- a branch from which nothing comes back -/
theorem s_ifX {X : Cx} {N : Nat} {env : EnvT} {own : OwnT} {o : Oc} {rest : List Stmt} {pos : Pos} {c : Expr} {body orelse : List Stmt} (hc : PT X c (tKn N (fullE own env) true)) (hb : PSs X body (tS N env own o)) (ho : o.leaves = true := by rfl) : PSs X (.If c body orelse pos :: rest) (tS N env own o) :=
  PSs.imp (pss_cons (ps_if hc hb pss_any) pss_any) fun D σ H ⟨W, S, q⟩ => ⟨H, S.vw.self, S.full, fun H1 s1 => iteT ⟨_, S.step s1, by
    cases o with
    | go _ _ => cases ho
    | _ => exact q.mono S.keep⟩⟩
end LwB
namespace NsT
open PySem PySem.Spec PyProof.Rows PySem.W PySem.SeqAt L2
section
variable {P : Program} {w : World} {A : Around} {E : Value → Shared → Prop} {s : Shared}
set_option maxRecDepth 100000 in
set_option maxHeartbeats 3200000 in
/-- set(xs), xs a tuple -/
theorem call_setNT {l : Addr} {items : Array Value} (ks : List (Addr × NestedKey)) {Q : Value → Shared → Prop} (hh : A.handled = none) (hl : s.heap.IsTuple l items) (hit : items.toList = ks.map fun p => Value.ref p.1)
    (hk : ∀ p ∈ ks, Nk s.heap p.2 p.1) (hfew : ks.length < 77) (hu : A.units + 12 < cLine)
    (h : ∀ (h' : Heap) (tk : Nat) L es ep t, SetN P w h' s.heap.objs.size L es ep t → GotN ks ks.length L → (∀ b o, s.heap.get? b = some o → h'.get? b = some o) → Q (.ref s.heap.objs.size) { s with heap := h', toks := tk }) :
    wpAny (model P w) A (call (.type "set") [.ref l]) Q E s := by
  have hisz : items.size = ks.length := by
    have q := congrArg List.length hit
    rw [Array.length_toList, List.length_map] at q
    exact q
  obtain ⟨c, tl, hmro⟩ := F.called_set.mro
  have hmade := F.called_set.made
  have hsub := F.called_set.sub
  refine wpAny_call (codeAny_of_tree ?_)
  show wpAny _ _ (callAny (.type "set") _) _ _ _
  refine wpAny_pure ⟨Code.quiet_builtin _ (by decide +kernel), codeAny_builtin F.entry_type_call ?_⟩
  rw [Around.under_plain (weight_type_call_type "set" [.ref l] []) rfl]
  have h1 := F.called_set.notType
  have h2 := F.called_set.canCreate
  have hct := F.typeCall_set_1 (.ref l)
  repeat (any_goals (first | assumption | wp_step))

  refine codeAny_mono (code_set_led1 (.ref l) (E := E) (Q₁ := fun obj s₁ => obj = .ref s.heap.objs.size ∧ s₁ = { s with heap := s.heap.push { cls := .type "set", dict := none, data := .set #[] 0 (.fresh 0 0 (!w.params.followText "set-order")) } }) ⟨rfl, rfl⟩) fun r s₁ hr => ?_
  cases r with
  | error e => exact hr
  | ok fl =>
    cases fl with
    | ret obj =>
      obtain ⟨rfl, rfl⟩ := hr
      have hS : (s.heap.push { cls := .type "set", dict := none, data := .set #[] 0 (.fresh 0 0 (!w.params.followText "set-order")) }).get? s.heap.objs.size = some { cls := .type "set", dict := none, data := .set #[] 0 (.fresh 0 0 (!w.params.followText "set-order")) } := Heap.get?_push_size _ rfl
      have hT : Shared.TypeIs { s with heap := s.heap.push { cls := .type "set", dict := none, data := .set #[] 0 (.fresh 0 0 (!w.params.followText "set-order")) } } (.ref s.heap.objs.size) "set" := ⟨_, hS, rfl⟩
      have hli := F.called_set.init.lookup
      have hbi := F.called_set.init.bind (.ref s.heap.objs.size)
      repeat (any_goals (first | assumption | wp_step))

      refine codeAny_mono (codeAny_call_builtin (R := wants (fun r s₂ => r = .none ∧ ∃ h' tk L es ep t, s₂ = { s with heap := h', toks := tk } ∧ SetN P w h' s.heap.objs.size L es ep t ∧ GotN ks ks.length L ∧
          (∀ b o, s.heap.get? b = some o → h'.get? b = some o)) E) F.called_set.init.plain F.entry_set_init (check_set_init_1 hT ?_)) fun r₂ s₂ hr₂ => ?_
      · obtain ⟨ol, hol, hcl, nl, hdl⟩ := hl
        obtain ⟨ocls, odict, odata, oslots⟩ := ol
        simp only at hcl hdl
        subst hcl; subst hdl
        have hol' : (s.heap.push { cls := .type "set", dict := none, data := .set #[] 0 (.fresh 0 0 (!w.params.followText "set-order")) }).get? l = some { cls := .type "tuple", dict := odict, data := .seq items nl, slots := oslots } := Heap.get?_push_of_some _ hol
        have hsls := F.sub_tuple_set
        have hslf := F.sub_tuple_frozenset
        have hne : (Value.type "tuple" == Value.type "dict") = false := by decide
        have hl1 : (s.heap.push { cls := .type "set", dict := none, data := .set #[] 0 (.fresh 0 0 (!w.params.followText "set-order")) }).IsTuple l items := ⟨_, hol', rfl, nl, rfl⟩
        unfold Builtin.«set.__init__» noKeywords Builtin.Frozenset.updateFrom
        generalize hPI : pyIter = PI
        wp_walk
        subst hPI

        refine wpAny_pyIter_tuple hl1 ?_
        refine wpAny_bind (wpAny_runValue ?_)
        have hlS : l < s.heap.objs.size := Heap.lt_size hol
        have hh3 : A.in1.in1.in1.handled = none := by simp [hh]
        have hz1 : (s.heap.push { cls := .type "set", dict := none, data := .set #[] 0 (.fresh 0 0 (!w.params.followText "set-order")) }).objs.size = s.heap.objs.size + 1 := Heap.size_push ..
        have hneI : l ≠ (s.heap.push { cls := .type "set", dict := none, data := .set #[] 0 (.fresh 0 0 (!w.params.followText "set-order")) }).objs.size := by
          rw [Heap.size_push]; exact Nat.ne_of_lt (Nat.lt_succ_of_lt hlS)
        have hSf : s.heap.objs.size ∉ [(s.heap.push { cls := .type "set", dict := none, data := .set #[] 0 (.fresh 0 0 (!w.params.followText "set-order")) }).objs.size, l] := by
          rw [Heap.size_push]; simp only [List.mem_cons, List.mem_singleton, List.not_mem_nil, or_false, not_or]
          exact ⟨Nat.ne_of_lt (Nat.lt_succ_self _), Nat.ne_of_gt hlS⟩
        have hval : ∀ (i : Nat) (v : Value), items[i]? = some v → ∃ p, ks[i]? = some p ∧ v = .ref p.1 := fun i v hv => by
          have q : items.toList[i]? = some v := by rw [Array.getElem?_toList]; exact hv
          rw [hit, List.getElem?_map] at q
          cases hq : ks[i]? with
          | none => rw [hq] at q; cases q
          | some p =>
            rw [hq] at q
            exact ⟨p, rfl, (Option.some.inj q).symm⟩
        have none_of : ∀ b, s.heap.objs.size ≤ b → s.heap.get? b = none := fun b hb => by
          cases q : s.heap.get? b with
          | none => rfl
          | some o => exact absurd (Nat.lt_of_lt_of_le (Heap.lt_size q) hb) (Nat.lt_irrefl _)
        refine updN ((Walks.tuple hh3 _ l hneI items).toS) s.heap.objs.size
          hSf ks hisz hfew hval s.heap hk (none_of _ (Nat.le_refl _)) (fun b hb => none_of b (by
            rw [List.mem_singleton.mp hb, Heap.size_push]
            exact Nat.le_succ _)) (by show A.units + 1 + 1 + 1 + 8 < cLine; omega) (items.size - 0) 0 _ (by omega) (Nat.zero_le _)
          ⟨⟨_, Heap.get?_push_size _ rfl, rfl, rfl⟩, (hl1.push _)⟩ (fun b o e => Heap.get?_push_of_some _ (Heap.get?_push_of_some _ e)) ?hS0 ?hR
        case hS0 =>
          have hget : ((s.heap.push { cls := .type "set", dict := none, data := .set #[] 0 (.fresh 0 0 (!w.params.followText "set-order")) }).push { cls := .type "tuple_iterator", data := .fields #[.ref l, .int 0 0] }).get? s.heap.objs.size
              = some { cls := .type "set", dict := none, data := .set #[] 0 (.fresh 0 0 (!w.params.followText "set-order")) } := Heap.get?_push_of_some _ hS
          exact ⟨[], #[], 0, _, setN_fresh hget, GotN.zero ks⟩
        case hR =>
          intro s' L es ep t hm hS' g' hkp
          obtain ⟨h', g2, d', tk', os'⟩ := s'
          have eg : g2 = s.gens := hm.gens
          have ed : d' = s.drawn := hm.drawn
          have eo : os' = s.os := hm.os
          subst eg; subst ed; subst eo
          show wpAny _ _ _ _ _ _
          refine wpAny_pure ?_
          show wpAny _ _ (ret Value.none) _ _ _
          rw [hisz] at g'
          exact wpAny_pure ⟨rfl, h', tk', L, es, ep, t, rfl, hS', g', hkp⟩

      · cases r₂ with
        | error e => exact hr₂
        | ok fl₂ =>
          cases fl₂ with
          | ret r =>
            obtain ⟨rfl, h', tk, L, es, ep, t, rfl, hS', g', hk'⟩ := hr₂
            repeat (any_goals (first | assumption | wp_step))
            exact h _ _ _ _ _ _ hS' g' hk'
          | _ => exact hr₂.elim
    | _ => exact hr.elim
end
section
variable {X : Cx}
/-- set(xs): a tuple of such tuples -/
def rSetNT (P : Program) (w : World) : List V → Hp → VK → Prop := fun xs H Q => ∃ (l : Addr) (ks : List (Addr × NestedKey)), xs = [V.ref l] ∧ LwB.Sq false H l (ks.map fun p => V.ref p.1) ∧ (∀ p ∈ ks, KIs H p.2 (.ref p.1) ∧ p.2.depth ≤ 7) ∧ ks.length < 77 ∧
  ∀ a L, H a = none → (∀ p ∈ L, p ∈ ks) → (∀ p ∈ ks, p.2 ∈ L.map (·.2)) → (L.map (·.2)).Nodup → Q (.ref a) (upd H a (SetNO P w a L))
theorem cr_setNT (hc : X.calm = true) (hu : X.A.units + 64 < cLine) : CallR X (.type "set") (rSetNT X.prog X.w) := by
  intro pins s σ H xs us Q I r h
  obtain ⟨l, ks, rfl, hl, kk, hf, q⟩ := h
  rw [Vals.ref1 r]
  obtain ⟨its, rv, pl, hz⟩ := I.tuple hl.T
  have hn : H s.heap.objs.size = none := I.hok.fresh (Nat.le_refl _)
  refine call_setNT (P := X.prog) (w := X.w) ks (I.ok.hd hc) pl (by simpa using refsN_of rv) (fun p hp => ⟨((kk p hp).1.raw I rfl).1, (kk p hp).2⟩) hf (by omega) fun h' tk L es ep t R g k => ?_
  refine ⟨.ref s.heap.objs.size, upd H s.heap.objs.size (SetNO X.prog X.w s.heap.objs.size L), I.laid (t' := tk) k (Nat.le_refl _) (setNO_new R.n0), rfl, q _ L hn (fun p hp => ?_) (fun p hp => ?_) R.nd⟩
  · exact List.mem_of_mem_take (g.sub p hp)
  · exact g.all p (by rw [List.take_length]; exact hp)
end
end NsT
namespace K13
open PySem PySem.Spec PyProof.Rows L2 IqX RvT LwB EnS TL NsT
variable [LwB.KC]
section
variable {P : Program} {w : World} {K : PySem.W.Frag} {mg : Str → Option Value} {base : Heap}
theorem ok_in_order (D : Df K mg "in_order" s_in_order ["logs"]) (B : Bn mg) (S : Bs mg) : Ok P w K mg base 1 "in_order" ["logs"] (spInO true) := by
  refine D.ok sc_in_order (fun vs H Q E h => ?_) (fun f cdv A outer s H vs Q E hr h => ?_)
  · obtain ⟨_, _, rfl, _⟩ := h
    rfl
  · obtain ⟨a, Ws, rfl, ⟨xs, hs, hl, pr⟩, hfew, q⟩ := h
    have nd := sc_in_order.nd
    refine ⟨_, pss_one (ps_ret (pe_sortLen hr.units B.sorted B.len (pa_cons (pe_callB (cr_sortT rfl hr.units) (by rfl) B.sorted (by decide +kernel) (pa_cons (pe_callTy (cr_setN rfl hr.units) (by rfl) S.set (by decide +kernel) (pa_cons (pv 0) pa_nil)) pa_nil)) pa_nil))), ?_⟩
    obtain ⟨ks, e1, e2, e3⟩ := keyed (R := RowAt H) (key := rowK) (fun _ _ r => r.ref) pr
    have hkl : ks.length = Ws.length := by
      have := congrArg List.length e2
      rw [List.length_map, List.length_map] at this
      exact this
    have kd : ∀ q ∈ ks, KIs H q.2 (.ref q.1) ∧ q.2.depth ≤ 7 := fun q hq => by
      obtain ⟨z, _, ez, r⟩ := e3 q hq
      rw [ez]
      exact ⟨r.key, by rw [rowK_depth]; decide⟩
    refine ⟨_, rfl, a, ks, rfl, by rw [← e1]; exact hs, kd, by omega, fun aS LL nS sub all nodup => ?_⟩
    have s2 := same_new (o := SetNO P w aS LL) nS
    refine ⟨aS, LL, rfl, upd_same, fun q hq => ⟨?_, (kd q (sub q hq)).2⟩, fun M hM => ?_, fun q hq => ?_, fun L' p3 pm nd3 len3 pw n3 => ?_⟩
    · obtain ⟨z, _, ez, r⟩ := e3 q (sub q hq)
      rw [ez]
      exact (r.same s2).key
    · intro d hd d' hd'
      obtain ⟨q1, m1, rfl⟩ := List.mem_map.mp hd
      obtain ⟨q2, m2, rfl⟩ := List.mem_map.mp hd'
      obtain ⟨z1, _, ez1, _⟩ := e3 q1 (sub _ (hM _ m1))
      obtain ⟨z2, _, ez2, _⟩ := e3 q2 (sub _ (hM _ m2))
      show PySem.W.alike q1.2.data q2.2.data = true
      rw [ez1, ez2]
      exact alike_row z1 z2
    · obtain ⟨z, _, ez, r⟩ := e3 q (sub q hq)
      rw [ez]
      exact rowK_data z
    · have s3 := same_new (o := HO.lst (L'.map fun q => V.ref q.1)) n3
      refine ⟨p3, L', rfl, .lst upd_same, fun q hq => ?_, fun p4 n4 => ?_⟩
      · obtain ⟨z, _, ez, r⟩ := e3 q (sub q (pm.mem_iff.mp hq))
        rw [ez]
        exact ((r.same s2).same s3).len
      · have s4 := same_new (o := HO.lst ((L'.mergeSort lenLe).map fun q => V.ref q.1)) n4
        obtain ⟨Us, u1, u2⟩ := unkeyed (R := RowAt (upd (upd (upd H aS (SetNO P w aS LL)) p3 (.lst (L'.map fun q => V.ref q.1))) p4 (.lst ((L'.mergeSort lenLe).map fun q => V.ref q.1)))) (key := rowK) (ks := L'.mergeSort lenLe) fun q hq => by
          obtain ⟨z, _, ez, r⟩ := e3 q (sub q (pm.mem_iff.mp ((List.mergeSort_perm _ _).mem_iff.mp hq)))
          exact ⟨z, ez, ((r.same s2).same s3).same s4⟩
        have eu := in_order_eq e2 sub all pm nd3 pw u1
        refine q _ p4 _ (s2.trans (s3.trans s4)) ((s2.trans s3).free n4) upd_same ?_ (by rw [← eu]; exact u2)
        rw [List.length_map, List.length_mergeSort]
        omega
theorem ok_in_orderT (D : Df K mg "in_order" s_in_order ["logs"]) (B : Bn mg) (S : Bs mg) : Ok P w K mg base 1 "in_order" ["logs"] (spInO false) := by
  refine D.ok sc_in_order (fun vs H Q E h => ?_) (fun f cdv A outer s H vs Q E hr h => ?_)
  · obtain ⟨_, _, rfl, _⟩ := h
    rfl
  · obtain ⟨a, Ws, rfl, ⟨xs, hs, hl, pr⟩, hfew, q⟩ := h
    have nd := sc_in_order.nd
    refine ⟨_, pss_one (ps_ret (pe_sortLen hr.units B.sorted B.len (pa_cons (pe_callB (cr_sortT rfl hr.units) (by rfl) B.sorted (by decide +kernel) (pa_cons (pe_callTy (cr_setNT rfl hr.units) (by rfl) S.set (by decide +kernel) (pa_cons (pv 0) pa_nil)) pa_nil)) pa_nil))), ?_⟩
    obtain ⟨ks, e1, e2, e3⟩ := keyed (R := RowAt H) (key := rowK) (fun _ _ r => r.ref) pr
    have hkl : ks.length = Ws.length := by
      have := congrArg List.length e2
      rw [List.length_map, List.length_map] at this
      exact this
    have kd : ∀ q ∈ ks, KIs H q.2 (.ref q.1) ∧ q.2.depth ≤ 7 := fun q hq => by
      obtain ⟨z, _, ez, r⟩ := e3 q hq
      rw [ez]
      exact ⟨r.key, by rw [rowK_depth]; decide⟩
    refine ⟨_, rfl, a, ks, rfl, by rw [← e1]; exact hs, kd, by omega, fun aS LL nS sub all nodup => ?_⟩
    have s2 := same_new (o := SetNO P w aS LL) nS
    refine ⟨aS, LL, rfl, upd_same, fun q hq => ⟨?_, (kd q (sub q hq)).2⟩, fun M hM => ?_, fun q hq => ?_, fun L' p3 pm nd3 len3 pw n3 => ?_⟩
    · obtain ⟨z, _, ez, r⟩ := e3 q (sub q hq)
      rw [ez]
      exact (r.same s2).key
    · intro d hd d' hd'
      obtain ⟨q1, m1, rfl⟩ := List.mem_map.mp hd
      obtain ⟨q2, m2, rfl⟩ := List.mem_map.mp hd'
      obtain ⟨z1, _, ez1, _⟩ := e3 q1 (sub _ (hM _ m1))
      obtain ⟨z2, _, ez2, _⟩ := e3 q2 (sub _ (hM _ m2))
      show PySem.W.alike q1.2.data q2.2.data = true
      rw [ez1, ez2]
      exact alike_row z1 z2
    · obtain ⟨z, _, ez, r⟩ := e3 q (sub q hq)
      rw [ez]
      exact rowK_data z
    · have s3 := same_new (o := HO.lst (L'.map fun q => V.ref q.1)) n3
      refine ⟨p3, L', rfl, .lst upd_same, fun q hq => ?_, fun p4 n4 => ?_⟩
      · obtain ⟨z, _, ez, r⟩ := e3 q (sub q (pm.mem_iff.mp hq))
        rw [ez]
        exact ((r.same s2).same s3).len
      · have s4 := same_new (o := HO.lst ((L'.mergeSort lenLe).map fun q => V.ref q.1)) n4
        obtain ⟨Us, u1, u2⟩ := unkeyed (R := RowAt (upd (upd (upd H aS (SetNO P w aS LL)) p3 (.lst (L'.map fun q => V.ref q.1))) p4 (.lst ((L'.mergeSort lenLe).map fun q => V.ref q.1)))) (key := rowK) (ks := L'.mergeSort lenLe) fun q hq => by
          obtain ⟨z, _, ez, r⟩ := e3 q (sub q (pm.mem_iff.mp ((List.mergeSort_perm _ _).mem_iff.mp hq)))
          exact ⟨z, ez, ((r.same s2).same s3).same s4⟩
        have eu := in_order_eq e2 sub all pm nd3 pw u1
        refine q _ p4 _ (s2.trans (s3.trans s4)) ((s2.trans s3).free n4) upd_same ?_ (by rw [← eu]; exact u2)
        rw [List.length_map, List.length_mergeSort]
        omega
end
end K13
namespace K13
open PySem PySem.Spec PyProof.Rows L2 IqX RvT LwB EnS TL NsT
section
variable {P : Program} {w : World} {K : PySem.W.Frag} {mg : Str → Option Value} {base : Heap}
theorem ok_copied (D : Df K mg "copied" s_copied ["logs"]) (B : Bn mg) : Ok P w K mg base 1 "copied" ["logs"] spCopied := by
  refine D.ok sc_copied (fun vs H Q E h => ?_) (fun f cdv A outer s H vs Q E hr h => ?_)
  · obtain ⟨_, _, _, rfl, _⟩ := h
    rfl
  · obtain ⟨t, a, Ws, rfl, ⟨xs, hs, hl, pr⟩, q⟩ := h
    have nd := sc_copied.nd
    refine ⟨_, pss_one (ps_ret (pe_tupQ B.tuple (pa_cons (pe_lc (own := [("log", 1)]) (g := gName 1) (by rfl) nd (pi_seq (pv 0)) (blkOk_by (N := ["logs", "log"]) (sc := defScope s_copied) (by decide +kernel))
      (fun _ _ _ _ _ => pg_name (i := 1) nd rfl (.inl rfl)) (fun _ _ _ _ _ => pts_nil) (fun _ _ _ _ _ => pe_tupQ B.tuple (pa_cons (pv 1) pa_nil))) pa_nil))), ?_⟩
    refine ⟨.ref a, rfl, t, a, rfl, ⟨xs, hs.B⟩, fun L nL => ?_⟩
    refine lc_mf (K := K) Ws some RowAt nL hs hl (paired_len pr) (fun _ _ _ _ s r => r.same s) (fun _ _ _ _ _ _ e r => r.put e) ?_ ?_
    · intro i z x H1 C C0 hz hx sm _ yes no
      obtain ⟨t', p, rfl, hp, hl'⟩ := (paired_both pr hz hx).same sm
      refine ⟨rfl, _, rfl, t', p, _, rfl, hp, fun H2 p2 s2 h2 => ?_⟩
      exact yes _ _ z s2 rfl ⟨p2, rfl, h2, hl'⟩
    · intro H1 ys sm eL pr1 hyl
      rw [List.filterMap_some] at pr1
      refine ⟨true, L, ys, rfl, .lst eL, fun H2 p s2 h2 => ?_⟩
      exact q H2 p (sm.trans s2) ⟨ys, h2, by omega, paired_imp pr1 fun _ _ r => r.same s2⟩
theorem ok_does (D : Df K mg "does" s_does ["base", "log"]) (OP : Ok P w K mg base 1 "is_part" ["word", "log"] spPart) : Ok P w K mg base 2 "does" ["base", "log"] spDoes := by
  refine D.ok sc_does (fun vs H Q E h => ?_) (fun f cdv A outer s H vs Q E hr h => ?_)
  · obtain ⟨_, _, _, _, _, _, rfl, _⟩ := h
    rfl
  · obtain ⟨t, b, a, c, Ws, es, rfl, ⟨xs, hs, hl, pr⟩, he, q⟩ := h
    have nd := sc_does.nd
    refine ⟨_, pss_cons (ps_for PassesOwn.never rfl (pi_seq (pv 0)) (pg_name (i := 2) nd rfl (.inl rfl))
        (pss_one (ps_if (pt_val (pe_c OP hr (pa_cons (pv 2) (pa_cons (pv 1) pa_nil)))) (pss_one (ps_ret pe_bl)) pss_nil)))
      (pss_one (ps_ret pe_bl)), ?_⟩
    refine ⟨.ref a, rfl, t, a, rfl, ⟨xs, hs.B⟩, for_seq (K := K) (b := t) (a := a) (xs := xs)
      (fun i σ H' => ∃ x2 : Option V, σ = [some (.ref a), some (.ref c), x2] ∧ Same H H' ∧ dn Ws es = dn (Ws.drop i) es)
      ⟨none, rfl, Same.refl H, rfl⟩ (fun i σ H' _ ⟨_, _, sm, _⟩ => (sm.sq hs).B) ?_ ?_⟩
    · rintro i x σ H' hi ⟨x2, rfl, sm, em⟩
      obtain ⟨z, hz, r⟩ := paired_get pr hi
      obtain ⟨t', p, rfl, hp, hl'⟩ := r.same sm
      refine ⟨_, rfl, _, rfl, t', b, p, c, z, es, rfl, hp, sm.sq he, fun H2 s2 => ⟨_, rfl, ?_⟩⟩
      rw [drop_at hz, dn_cons] at em
      refine ite2 (fun h1 => ?_) (fun h1 => ?_)
      · have e1 : isPart z es = true := h1
        rw [e1, Bool.true_or] at em
        have q1 := q H2 (sm.trans s2)
        rw [em] at q1
        exact q1
      · have e1 : isPart z es = false := by simpa using h1
        rw [e1, Bool.false_or] at em
        exact ⟨_, rfl, sm.trans s2, em⟩
    · rintro σ H' ⟨x2, rfl, sm, em⟩
      rw [← paired_len pr, List.drop_length, dn_nil] at em
      have q1 := q H' sm
      rw [em] at q1
      exact q1
end
end K13
namespace CpN
open PySem PySem.Spec PyProof.Rows L2
/-- one turn of a clause; `act` comes behind its tests -/
def turnF (tg it0 : Expr) (ifs : List Expr) (c : Code) (it : Value) (env : Env) (act : Sem Fin → Sem Fin) : Sem Fin := do
  standAt it0.pos
  match ← pyNext it with
  | none => pure (.done .next)
  | some v =>
    letOwnedTupleGo tg it v
    assign tg env v
    let mut ok := true
    for c in ifs do
      if ok then ok ← isTrue c env (eval c env)
    if ok then act (again c) else again c
/-- a further clause -/
def actG (e : Expr) (d : Nat) (i1 : Expr) (acc : Value) (env : Env) (k : Sem Fin) : Sem Fin := do
  let x ← eval i1 env
  standAt i1.pos
  let x ← foldedSetIterable i1 env x
  let _ ← runOwn (.compStart e d (← holding [x] (pyIter x)) acc env) env
  k
/-- the value that a list gets -/
def actL (elt : Expr) (acc : Value) (env : Env) (k : Sem Fin) : Sem Fin := do
  let _ ← (do let _ ← call (.builtin "list.append") [acc, ← eval elt env] : Sem Unit)
  k
section
variable {elt t0 i0 t1 i1 t2 i2 : Expr} {f0 f1 f2 : List Expr} {scope : Scope} {pos : Pos} {it acc : Value} {env : Env}
theorem turn30 : compTurn (.ListComp elt [⟨t0, i0, f0, 0⟩, ⟨t1, i1, f1, 0⟩, ⟨t2, i2, f2, 0⟩] scope pos) 0 it acc env =
    turnF t0 i0 f0 (.compLoop (.ListComp elt [⟨t0, i0, f0, 0⟩, ⟨t1, i1, f1, 0⟩, ⟨t2, i2, f2, 0⟩] scope pos) 0 it acc env) it env (actG (.ListComp elt [⟨t0, i0, f0, 0⟩, ⟨t1, i1, f1, 0⟩, ⟨t2, i2, f2, 0⟩] scope pos) 1 i1 acc env) := by rfl
theorem turn31 : compTurn (.ListComp elt [⟨t0, i0, f0, 0⟩, ⟨t1, i1, f1, 0⟩, ⟨t2, i2, f2, 0⟩] scope pos) 1 it acc env =
    turnF t1 i1 f1 (.compLoop (.ListComp elt [⟨t0, i0, f0, 0⟩, ⟨t1, i1, f1, 0⟩, ⟨t2, i2, f2, 0⟩] scope pos) 1 it acc env) it env (actG (.ListComp elt [⟨t0, i0, f0, 0⟩, ⟨t1, i1, f1, 0⟩, ⟨t2, i2, f2, 0⟩] scope pos) 2 i2 acc env) := by rfl
theorem turn32 : compTurn (.ListComp elt [⟨t0, i0, f0, 0⟩, ⟨t1, i1, f1, 0⟩, ⟨t2, i2, f2, 0⟩] scope pos) 2 it acc env =
    turnF t2 i2 f2 (.compLoop (.ListComp elt [⟨t0, i0, f0, 0⟩, ⟨t1, i1, f1, 0⟩, ⟨t2, i2, f2, 0⟩] scope pos) 2 it acc env) it env (actL elt acc env) := by rfl
end
section
variable {prog : Program} {w : World} {A : Around} {R : Result → Shared → Prop} {s : Shared} {elt tg it0 : Expr} {ifs : List Expr} {gens : List Comprehension} {scope : Scope} {pos : Pos} {it acc : Value} {env : Env} {d : Nat} {act : Sem Fin → Sem Fin}
/-- the loop over one clause, by an invariant and a measure -/
theorem loop_wp (ht : compTurn (.ListComp elt gens scope pos) d it acc env = turnF tg it0 ifs (.compLoop (.ListComp elt gens scope pos) d it acc env) it env act) (J : Nat → Shared → Prop)
    (turn : ∀ n s, J n s → wpAny (model prog w) A (pyNext it) (fun r s1 => match r with
      | none => R (.ok .next) s1
      | some v => wpAny (model prog w) A (letOwnedTupleGo tg it v) (fun _ s2 => wpAny (model prog w) A (assign tg env v) (fun _ s3 =>
          wpAny (model prog w) A (forIn ifs true fun c r => if r = true then do let ok ← isTrue c env (eval c env); pure (ForInStep.yield ok) else pure (ForInStep.yield r)) (fun ok s4 =>
            if ok = true then wpAny (model prog w) A (act (again (.compLoop (.ListComp elt gens scope pos) d it acc env))) (fun fin s' => match fin with
              | .done f => R (.ok f) s'
              | .again c' => c' = .compLoop (.ListComp elt gens scope pos) d it acc env ∧ ∃ m, m < n ∧ J m s') (notedBy (model prog w) A env fun e s' => R (.error e) s') s4
            else ∃ m, m < n ∧ J m s4) (notedBy (model prog w) A env fun e s' => R (.error e) s') s3) (notedBy (model prog w) A env fun e s' => R (.error e) s') s2) (notedBy (model prog w) A env fun e s' => R (.error e) s') s1) (notedBy (model prog w) A env fun e s' => R (.error e) s') s)
    (n : Nat) (h : J n s) : codeAny (model prog w) A (.compLoop (.ListComp elt gens scope pos) d it acc env) R s := by
  refine codeAny_loop rfl J (fun n s hJ => ?_) n h
  show wpAny _ A ((compTurn (.ListComp elt gens scope pos) d it acc env).onRaise (fun x => do noteFrame x env; theTreesLotGoes x)) _ _ s
  refine wpAny_noted ?_
  rw [ht]
  unfold turnF
  refine wpAny_bind (wpAny_standAt (wpAny_bind (wpAny_mono (turn n s hJ) (fun r s1 h1 => ?_) fun _ _ q => q)))
  cases r with
  | none => exact wpAny_pure h1
  | some v =>
    refine wpAny_bind (wpAny_mono h1 (fun _ s2 h2 => ?_) fun _ _ q => q)
    refine wpAny_bind (wpAny_mono h2 (fun _ s3 h3 => wpAny_bind (wpAny_mono h3 (fun ok s4 h4 => ?_) fun _ _ q => q)) fun _ _ q => q)
    cases ok with
    | false => exact wpAny_pure ⟨rfl, h4⟩
    | true => exact h4
/-- a further clause's start -/
theorem start_wp (h0 : codeAny (model prog w) A (.compLoop (.ListComp elt gens scope pos) d it acc env) R s) (ha : ((clausesOf (.ListComp elt gens scope pos))[d]?).elim false (·.is_async != 0) = false)
    (h : wpAny (model prog w) A (pyIter it) (fun it' s' => codeAny (model prog w) A (.compLoop (.ListComp elt gens scope pos) d it' acc env) R s') (notedBy (model prog w) A env fun x s' => R (.error x) s') s) :
    codeAny (model prog w) A (.compStart (.ListComp elt gens scope pos) d it acc env) R s := by
  refine codeAny_of_tree ?_
  show wpAny _ _ ((compStart (.ListComp elt gens scope pos) d it acc env).onRaise (fun x => do noteFrame x env; standAt theWindowsPlace)) _ _ s
  refine wpAny_notedAt ?_
  unfold compStart
  rw [ha]
  show wpAny _ _ (ask >>= _) _ _ s
  refine wpAny_bind (wpAny_askSetting (wpAny_ite ?_))
  split
  · first
      | exact wpAny_bind (wpAny_pure (wpAny_pure (And.intro rfl h0)))
      | exact wpAny_pure (And.intro rfl h0)
  · refine wpAny_bind (wpAny_rule ?_)
    have fin : wpAny (model prog w) A (pyIter it >>= fun it' => again (.compLoop (.ListComp elt gens scope pos) d it' acc env)) (fun fin s' => match fin with
      | .done f => R (.ok f) s'
      | .again c' => c'.quiet = true ∧ codeAny (model prog w) A c' R s') (notedBy (model prog w) A env fun x s' => R (.error x) s') s := wpAny_bind (wpAny_mono h (fun it' s' h' => wpAny_pure (And.intro rfl h')) fun _ _ x => x)
    cases (clausesOf (.ListComp elt gens scope pos))[d]? with
    | none => exact fin
    | some g => exact wpAny_bind (wpAny_standAt fin)
end
end CpN
namespace CpN
open PySem PySem.Spec PyProof.Rows L2
abbrev TM := L2.St → Hp → (Hp → Prop) → Prop
theorem wipe_get {σ : L2.St} {i : Nat} : ∀ {vs : List Nat}, i ∈ vs → i < σ.length → (wipe σ vs)[i]? = some none
  | [], h, _ => by cases h
  | v :: vs, h, hl => by
    show ((wipe σ vs).set v none)[i]? = some none
    by_cases e : v = i
    · rw [e]
      exact List.getElem?_set_self (by rw [wipe_length]; exact hl)
    · rw [List.getElem?_set_ne e]
      rcases List.mem_cons.mp h with e2 | h
      · exact absurd e2.symm e
      · exact wipe_get h hl
theorem wipe_ext {σ τ : L2.St} {vs : List Nat} (hl : σ.length = τ.length) (h : ∀ i, i ∉ vs → σ[i]? = τ[i]?) : wipe σ vs = wipe τ vs := by
  refine List.ext_getElem? fun i => ?_
  by_cases hi : i ∈ vs
  · by_cases hlt : i < σ.length
    · rw [wipe_get hi hlt, wipe_get hi (by rw [← hl]; exact hlt)]
    · rw [List.getElem?_eq_none (by rw [wipe_length]; omega), List.getElem?_eq_none (by rw [wipe_length]; omega)]
  · rw [wipe_out hi, wipe_out hi]
    exact h i hi
theorem wipe_sub {σ τ : L2.St} {us vs : List Nat} (e : wipe σ us = wipe τ us) (h : ∀ i ∈ us, i ∈ vs) : wipe σ vs = wipe τ vs := by
  have hl : σ.length = τ.length := by
    have := congrArg List.length e
    rw [wipe_length, wipe_length] at this
    exact this
  refine wipe_ext hl fun i hi => ?_
  have hu : i ∉ us := fun z => hi (h i z)
  rw [← wipe_out (σ := σ) hu, e, wipe_out hu]
theorem wipe_idem (σ : L2.St) (vs : List Nat) : wipe (wipe σ vs) vs = wipe σ vs := wipe_ext (wipe_length σ vs) fun i hi => wipe_out hi
/-- what comes behind a clause's tests: the slots but vs stay -/
structure PM (X : Cx) (vs : List Nat) (act : Sem Fin → Sem Fin) (t : TM) : Prop where
  run : ∀ (k : Sem Fin) (pins : List (Addr × Obj)) (s : Shared) (σ : L2.St) (H : Hp) (Nx : Hp → Prop) (Qf : Fin → Shared → Prop) (E : Value → Shared → Prop), Inv X pins σ H s → t σ H Nx →
    (∀ σ' H' s', Inv X pins σ' H' s' → wipe σ' vs = wipe σ vs → Nx H' → wpAny (model X.prog X.w) X.A k Qf E s') → wpAny (model X.prog X.w) X.A (act k) Qf E s
def tEm (te : TE) (D : Addr) : TM := fun σ H Nx => te σ H fun y H1 => ∃ acc, H1 D = some (.lst acc) ∧ acc.length < sizeLine ∧ Nx (upd H1 D (.lst (acc ++ [y])))
def tGen (wi : TI) (g : TG) (tt : TT) (ta : TM) (vs : List Nat) : TM := fun σ H Nx => wi σ H fun J H1 => ∃ W : Nat → Nat → Hp → Prop, (∃ m, W 0 m H1) ∧ ∀ j k H, W j k H →
  (J.stop j H ∧ Nx H) ∨ (J.go j H ∧ ∃ Nx1 : Hp → Prop, (∀ H', Nx1 H' → ∃ k', k' < k ∧ W (j + 1) k' H') ∧ ∀ x H', J.yld j H x H' → g x (wipe σ vs) H' fun σ2 H2 => wipe σ2 vs = wipe σ vs ∧ tt σ2 H2 fun b H3 => if b = true then ta σ2 H3 Nx1 else Nx1 H3)
section
variable {X : Cx} {vs us : List Nat} {elt tg i1 : Expr} {ifs : List Expr} {gens : List Comprehension} {scope : Scope} {pos : Pos} {d : Nat} {act : Sem Fin → Sem Fin} {D : Addr} {te : TE} {wi : TI} {g : TG} {tt : TT} {ta : TM}
theorem pm_emit (hx : X.xe = fun _ _ => False) (he : PE X elt te) : PM X vs (actL elt (.ref D) X.env) (tEm te D) := by
  refine ⟨fun k pins s σ H Nx Qf E I h hk => ?_⟩
  have h1 := he.run pins s σ H _ I h
  rw [hx] at h1
  unfold actL
  refine wpAny_bind (wpAny_bind (thnF h1 fun z s1 ⟨y, H1, I1, r1, acc, hD, hz, nx⟩ => wpAny_bind (app_ok I1 hD hz r1 fun s2 I2 => wpAny_pure (hk σ _ s2 I2 rfl nx))))
theorem pm_gen (hx : X.xe = fun _ _ => False) (hc : X.calm = true) (ht : ∀ it, compTurn (.ListComp elt gens scope pos) d it (.ref D) X.env = turnF tg i1 ifs (.compLoop (.ListComp elt gens scope pos) d it (.ref D) X.env) it X.env act)
    (ha : ((clausesOf (.ListComp elt gens scope pos))[d]?).elim false (·.is_async != 0) = false) (hi : PI X tg i1 wi) (hg : PG X tg g) (htt : PTs X ifs tt) (hact : PM X us act ta) (hsub : ∀ i ∈ us, i ∈ vs) (hs : ∀ x, foldedSetIterable i1 X.env x = pure x) :
    PM X vs (actG (.ListComp elt gens scope pos) d i1 (.ref D) X.env) (tGen wi g tt ta vs) := by
  refine ⟨fun k pins s σ H Nx Qf E I h hk => ?_⟩
  have h1 := hi.run pins s σ H _ I h
  rw [hx] at h1
  unfold actG
  refine wpAny_bind (thnF h1 fun xv s1 hxv => wpAny_bind (wpAny_standAt (wpAny_bind (wpAny_of_eq (hs xv) (wpAny_bind (wpAny_holding (thnF hxv fun itv s2 h2 => ?_)))))))
  obtain ⟨it, fp, tn, J, H2, e, I2, T, st2, f2, W, ⟨m0, w0⟩, turn⟩ := h2
  subst e
  have stat : ∀ {H' : Hp}, (∀ b ∈ fp, H' b = none) → ∀ b ∈ fp, FpOk X pins H' b := fun hn b hb => ⟨hn b hb, (f2 b hb).2⟩
  have I0 : Inv X pins (wipe σ vs) H2 s2 := I2.weak (wipe_length _ _) (fun j v e => (wipe_some e).1)
  have loop : codeAny (model X.prog X.w) X.A (.compLoop (.ListComp elt gens scope pos) d (.ref it) (.ref D) X.env) (fun r s' => match r with
      | .ok _ => wpAny (model X.prog X.w) X.A k Qf E s'
      | .error _ => False) s2 := by
    refine loop_wp (ht _) (fun n s' => ∃ j H', Inv X pins (wipe σ vs) H' s' ∧ tn j s'.heap ∧ (∀ b ∈ fp, H' b = none) ∧ W j n H') ?_ m0 ⟨0, H2, I0, st2, fun b hb => (f2 b hb).1, w0⟩
    rintro n s3 ⟨j, H3, I3, st3, n3, w3⟩
    rcases turn j n H3 w3 with ⟨stop, nx⟩ | ⟨go, Nx1, hN1, step⟩
    · refine thnF (T.done X rfl rfl rfl hc j pins s3 (wipe σ vs) H3 (fun _ _ => False) I3 (stat n3) st3 stop) fun r s4 ⟨hr, I4⟩ => ?_
      subst hr
      exact hk _ H3 s4 I4 (wipe_idem σ vs) nx
    · refine thnF (T.item X rfl rfl rfl hc j pins s3 (wipe σ vs) H3 (fun _ _ => False) I3 (stat n3) st3 go) fun r s4 ⟨u, hr, h4⟩ => ?_
      subst hr
      refine thnF h4 fun _ s5 ⟨x, H5, I5, r5, y5, st5, n5⟩ => ?_
      have I5' := I5.pinned (stat n5) (T.obj _ _ st5)
      have hp := hg.run _ s5 (wipe σ vs) H5 x u _ I5' r5 (step x H5 y5)
      rw [hx] at hp
      refine thnF hp fun _ s6 ⟨σ6, H6, I6, hw6, q6⟩ => ?_
      have hq := htt.run _ s6 σ6 H6 _ I6 q6
      rw [hx] at hq
      refine thnF hq fun b s7 ⟨H7, I7, q7⟩ => ?_
      have fin : ∀ {σ' : L2.St} {s' : Shared} {H' : Hp}, Inv X (pins ++ pinsAt fp s5.heap) σ' H' s' → wipe σ' vs = wipe σ vs → Nx1 H' → ∃ m, m < n ∧ ∃ j H', Inv X pins (wipe σ vs) H' s' ∧ tn j s'.heap ∧ (∀ b ∈ fp, H' b = none) ∧ W j m H' := fun {σ' s' H'} I' hw nx => by
        obtain ⟨m', hm, w'⟩ := hN1 H' nx
        have pin' : ∀ b ∈ fp, ∀ o, s5.heap.get? b = some o → s'.heap.get? b = some o ∧ H' b = none := fun b hb o e =>
          let z := I'.pin (b, o) (List.mem_append_right _ (List.mem_append_right _ (mem_pinsAt hb e)))
          ⟨z.1, z.2.1⟩
        refine ⟨m', hm, j + 1, H', I'.unpinned.weak (by rw [← hw, wipe_length]) (fun j v e => by rw [← hw] at e; exact (wipe_some e).1), T.keep _ _ _ st5 fun b hb o e => (pin' b hb o e).1, fun b hb => ?_, w'⟩
        obtain ⟨o, e, _⟩ := T.obj _ _ st5 b hb
        exact (pin' b hb o e).2
      cases b with
      | false =>
        simp only [Bool.false_eq_true, if_false] at q7 ⊢
        exact fin I7 hw6 q7
      | true =>
        simp only [if_true] at q7 ⊢
        exact hact.run _ _ s7 σ6 H7 Nx1 _ _ I7 q7 fun σ' H' s' I' hw nx => wpAny_pure ⟨rfl, fin I' ((wipe_sub hw hsub).trans hw6) nx⟩
  refine wpAny_bind (wpAny_runOwn ?_)
  rw [Around.mark_none]
  refine codeAny_mono (start_wp loop ha (T.self X.A 0 _ _ _ st2 loop)) fun r s' hr => ?_
  cases r with
  | ok f => exact hr
  | error e => exact hr.elim
end
end CpN
namespace CpN
open PySem PySem.Spec PyProof.Rows L2
/-- a list comprehension of any clauses: D the new list -/
def tLcN (wi : TI) (g : TG) (tt : TT) (ta : Addr → TM) (vs : List Nat) : TE := fun σ H Q => wi σ H fun J H1 => ∀ D, H1 D = none → ∃ W : Nat → Nat → Hp → Prop, (∃ m, W 0 m (upd H1 D (.lst []))) ∧ ∀ j k H, W j k H →
  (J.stop j H ∧ Q (.ref D) H) ∨ (J.go j H ∧ ∃ Nx1 : Hp → Prop, (∀ H', Nx1 H' → ∃ k', k' < k ∧ W (j + 1) k' H') ∧ ∀ x H', J.yld j H x H' → g x (wipe σ vs) H' fun σ2 H2 => wipe σ2 vs = wipe σ vs ∧ tt σ2 H2 fun b H3 => if b = true then ta D σ2 H3 Nx1 else Nx1 H3)
theorem lcN_core {X : Cx} {pins : List (Addr × Obj)} {s : Shared} {σ : L2.St} {H : Hp} {Q : VK} {pos' : Pos} {use : Option (Value → Sem Unit)} {Qf : Value → Shared → Prop} {elt tg i0 : Expr} {ifs : List Expr} {rest : List Comprehension} {scope : Scope} {own : List (Str × Nat)} {pos : Pos} {wi : TI} {g : TG} {tt : TT} {ta : Addr → TM} {act : Value → Env → Sem Fin → Sem Fin} (hc : X.calm = true) (hN : X.N.Nodup) (hi : PI X tg i0 wi) (ok : BlkOk X.N X.env.scope scope own)
    (ht : ∀ it D env, compTurn (.ListComp elt (⟨tg, i0, ifs, 0⟩ :: rest) scope pos) 0 it (.ref D) env = turnF tg i0 ifs (.compLoop (.ListComp elt (⟨tg, i0, ifs, 0⟩ :: rest) scope pos) 0 it (.ref D) env) it env (act (.ref D) env))
    (hg : ∀ (s : Shared) (H : Hp) (C : Addr) (cl : List (Str × Addr)) (fp : List Addr), PG (X.blk s H scope (compEnvC scope cl C X.env) fp) tg g) (htt : ∀ (s : Shared) (H : Hp) (C : Addr) (cl : List (Str × Addr)) (fp : List Addr), PTs (X.blk s H scope (compEnvC scope cl C X.env) fp) ifs tt)
    (ha : ∀ (s : Shared) (H : Hp) (C : Addr) (cl : List (Str × Addr)) (fp : List Addr) (D : Addr), PM (X.blk s H scope (compEnvC scope cl C X.env) fp) (own.map (·.2)) (act (.ref D) (compEnvC scope cl C X.env)) (ta D)) (hs : ∀ x, foldedSetIterable i0 X.env x = pure x) (I : Inv X pins σ H s) (h : tLcN wi g tt ta (own.map (·.2)) σ H Q)
    (out : ∀ D C s' m H', Inv X pins σ H' s' → Q (.ref D) H' → s'.heap.Ns C m → FpOk X pins H' C → compPost (model X.prog X.w) X.A X.xe use Qf (.ref D) C (.ok .next) s') :
    wpAny (model X.prog X.w) X.A (comprehension (.ListComp elt (⟨tg, i0, ifs, 0⟩ :: rest) scope pos) scope X.env pos' (newList []) false (eval i0 X.env) use) Qf X.xe s := by
  have clos : ∀ y ∈ scope.names, y.2 = .free → ∃ c, X.env.cells.lookup y.1 = some c := fun y hy e => (ok.free y hy e).elim (fun z => I.ok.has _ (.inl z)) fun z => I.ok.has _ (.inr z)
  refine wpAny_comprehension_free (use := use) rfl hs (closure_ok clos) ok.kind (fun y hy e => (ok.uniq y hy).trans (congrArg some e)) (thn (hi.run pins s σ H _ I h) fun xv s1 hxv => thn hxv fun itv s2 got => ?_)
  obtain ⟨it, fp, tn, J, H2, e, I2, T, st2, f2, q⟩ := got
  subst e
  refine wpAny_newObj_type (newEnv_comp ?_) (Nat.zero_le _)
  generalize eD : s2.heap.objs.size = D
  have nD : H2 D = none := I2.hok.fresh (Nat.le_of_eq eD)
  obtain ⟨W, ⟨m0, w0⟩, turn⟩ := q D nD
  generalize es : ({ s2 with heap := s2.heap.push { cls := .type "list", data := .seq ([] : List Value).toArray } } : Shared) = t
  have hh : t.heap = s2.heap.push { cls := .type "list", data := .seq ([] : List Value).toArray } := by rw [← es]
  have It : Inv X pins σ (upd H2 D (.lst [])) t := by
    subst es
    exact I2.laid (t' := s2.toks) (fun b o z => Heap.get?_push_of_some _ z) (Nat.le_of_eq eD) ⟨Nat.zero_le _, [], 0, .nil, by rw [← eD]; exact Heap.get?_push_size _ rfl⟩
  have small : ∀ b ∈ fp, b < s2.heap.objs.size := fun b hb => (T.obj _ _ st2 b hb).elim fun o z => Heap.lt_size z.1
  have fpt : ∀ b ∈ fp, FpOk X pins (upd H2 D (.lst [])) b ∧ b < t.heap.objs.size := fun b hb => by
    refine ⟨⟨?_, (f2 b hb).2⟩, ?_⟩
    · rw [upd_ne fun z => absurd (small b hb) (by rw [z, eD]; exact Nat.lt_irrefl _)]
      exact (f2 b hb).1
    · rw [hh, Heap.size_push]
      exact Nat.lt_succ_of_lt (small b hb)
  have stt : tn 0 t.heap := T.keep _ _ _ st2 fun b _ o z => by
    rw [hh]
    exact Heap.get?_push_of_some _ z
  have Ib := block_start It ok hN fpt
  have g1 := hg t (upd H2 D (.lst [])) t.heap.objs.size (cellsFrom (t.heap.objs.size + 1) scope.names (cloFrom X.env.cells scope.names [])) fp
  have g2 := htt t (upd H2 D (.lst [])) t.heap.objs.size (cellsFrom (t.heap.objs.size + 1) scope.names (cloFrom X.env.cells scope.names [])) fp
  have g3 := ha t (upd H2 D (.lst [])) t.heap.objs.size (cellsFrom (t.heap.objs.size + 1) scope.names (cloFrom X.env.cells scope.names [])) fp D
  show codeAny _ _ (.compStart _ 0 (.ref it) (.ref D) (compEnvC scope (cellsFrom (t.heap.objs.size + 1) scope.names (cloFrom X.env.cells scope.names [])) t.heap.objs.size X.env)) (compPost (model X.prog X.w) X.A X.xe _ _ (.ref D) t.heap.objs.size) { t with heap := pushCells (t.heap.push { cls := .type "dict", data := .dict #[] }) scope.names }
  have off : ∀ b ∈ fp, (upd H2 D (.lst [])) b = none := fun b hb => (fpt b hb).1.1
  generalize ec : compEnvC scope (cellsFrom (t.heap.objs.size + 1) scope.names (cloFrom X.env.cells scope.names [])) t.heap.objs.size X.env = ce at Ib g1 g2 g3 ⊢
  have loc : ce.locals = t.heap.objs.size := by
    rw [← ec]
    rfl
  generalize eH : upd H2 D (.lst []) = Ht at It Ib g1 g2 g3 w0 off fpt
  generalize eu : ({ t with heap := pushCells (t.heap.push { cls := .type "dict", data := .dict #[] }) scope.names } : Shared) = u at Ib ⊢
  have stu : tn 0 u.heap := T.keep _ _ _ stt fun b _ o z => by
    rw [← eu]
    exact pushCells_keeps _ _ _ _ (Heap.get?_push_of_some _ z)
  have stat : ∀ {σ' : L2.St} {H' : Hp} {s' : Shared}, Inv (X.blk t Ht scope ce fp) [] σ' H' s' → (∀ b ∈ fp, H' b = none) → ∀ b ∈ fp, FpOk (X.blk t Ht scope ce fp) [] H' b := fun {σ' H' s'} I' hn b hb =>
    ⟨hn b hb, (I'.ok.exf b hb).1, I'.ok.exfs b hb, .inl hb, fun x c z => (I'.ok.exf b hb).2 x c z, fun p hp => by cases hp⟩
  have loop : codeAny (model X.prog X.w) X.A (.compLoop (.ListComp elt (⟨tg, i0, ifs, 0⟩ :: rest) scope pos) 0 (.ref it) (.ref D) ce) (compPost (model X.prog X.w) X.A X.xe use Qf (.ref D) t.heap.objs.size) u := by
    refine loop_wp (ht _ _ _) (fun n s' => ∃ j H', Inv (X.blk t Ht scope ce fp) [] (wipe σ (own.map (·.2))) H' s' ∧ tn j s'.heap ∧ (∀ b ∈ fp, H' b = none) ∧ W j n H') ?_ m0 ⟨0, Ht, Ib, stu, off, w0⟩
    rintro n s3 ⟨j, H3, I3, st3, n3, w3⟩
    rcases turn j n H3 w3 with ⟨stop, qq⟩ | ⟨go, Nx1, hN1, step⟩
    · refine thnF (T.done (X.blk t Ht scope ce fp) rfl rfl rfl hc j [] s3 _ H3 (fun _ _ => False) I3 (stat I3 n3) st3 stop) fun r s4 ⟨hr, I4⟩ => ?_
      subst hr
      have Iout : Inv X pins σ H3 s4 := It.call' (ch := fp) I4.os I4.base I4.hok I4.bare fun b hb => ⟨(fpt b hb).1.2.2.2.1, (fpt b hb).1.2.1, (fpt b hb).1.2.2.2.2.1, (fpt b hb).1.2.2.2.2.2⟩
      have nC : H3 t.heap.objs.size = none := by
        have z : H3 ce.locals = none := I4.free
        rw [loc] at z
        exact z
      obtain ⟨m, hm, _⟩ := I4.loc
      have hm : s4.heap.Ns ce.locals m := hm
      rw [loc] at hm
      exact out D t.heap.objs.size s4 m H3 Iout qq hm (It.fpOk (Nat.le_refl _) nC)
    · refine thnF (T.item (X.blk t Ht scope ce fp) rfl rfl rfl hc j [] s3 _ H3 (fun _ _ => False) I3 (stat I3 n3) st3 go) fun r s4 ⟨v, hr, h4⟩ => ?_
      subst hr
      refine thnF h4 fun _ s5 ⟨x, H5, I5, r5, y5, st5, n5⟩ => ?_
      have I5' := I5.pinned (stat I5 n5) (T.obj _ _ st5)
      refine thnF (g1.run _ s5 _ H5 x v _ I5' r5 (step x H5 y5)) fun _ s6 ⟨σ6, H6, I6, hw6, q6⟩ => ?_
      refine thnF (g2.run _ s6 σ6 H6 _ I6 q6) fun b s7 ⟨H7, I7, q7⟩ => ?_
      have fin : ∀ {σ' : L2.St} {s' : Shared} {H' : Hp}, Inv (X.blk t Ht scope ce fp) ([] ++ pinsAt fp s5.heap) σ' H' s' → wipe σ' (own.map (·.2)) = wipe σ (own.map (·.2)) → Nx1 H' → ∃ m, m < n ∧ ∃ j H', Inv (X.blk t Ht scope ce fp) [] (wipe σ (own.map (·.2))) H' s' ∧ tn j s'.heap ∧ (∀ b ∈ fp, H' b = none) ∧ W j m H' := fun {σ' s' H'} I' hw nx => by
        obtain ⟨m', hm, w'⟩ := hN1 H' nx
        have pin' : ∀ b ∈ fp, ∀ o, s5.heap.get? b = some o → s'.heap.get? b = some o ∧ H' b = none := fun b hb o z =>
          let y := I'.pin (b, o) (List.mem_append_right _ (List.mem_append_right _ (mem_pinsAt hb z)))
          ⟨y.1, y.2.1⟩
        refine ⟨m', hm, j + 1, H', (I'.unpinned (pins := [])).weak (by rw [← hw, wipe_length]) (fun i v z => by rw [← hw] at z; exact (wipe_some z).1), T.keep _ _ _ st5 fun b hb o z => (pin' b hb o z).1, fun b hb => ?_, w'⟩
        obtain ⟨o, z, _⟩ := T.obj _ _ st5 b hb
        exact (pin' b hb o z).2
      cases b with
      | false =>
        simp only [Bool.false_eq_true, if_false] at q7 ⊢
        exact fin I7 hw6 q7
      | true =>
        simp only [if_true] at q7 ⊢
        exact g3.run _ _ s7 σ6 H7 Nx1 _ _ I7 q7 fun σ' H' s' I' hw nx => wpAny_pure ⟨rfl, fin I' (hw.trans hw6) nx⟩
  exact codeAny_compStart_list loop (T.self X.A 0 _ _ _ stu loop)
/-- as a value -/
theorem pe_lcN {X : Cx} {elt tg i0 : Expr} {ifs : List Expr} {rest : List Comprehension} {scope : Scope} {own : List (Str × Nat)} {pos : Pos} {wi : TI} {g : TG} {tt : TT} {ta : Addr → TM} {act : Value → Env → Sem Fin → Sem Fin} (hc : X.calm = true) (hN : X.N.Nodup) (hi : PI X tg i0 wi) (ok : BlkOk X.N X.env.scope scope own)
    (ht : ∀ it D env, compTurn (.ListComp elt (⟨tg, i0, ifs, 0⟩ :: rest) scope pos) 0 it (.ref D) env = turnF tg i0 ifs (.compLoop (.ListComp elt (⟨tg, i0, ifs, 0⟩ :: rest) scope pos) 0 it (.ref D) env) it env (act (.ref D) env))
    (hg : ∀ (s : Shared) (H : Hp) (C : Addr) (cl : List (Str × Addr)) (fp : List Addr), PG (X.blk s H scope (compEnvC scope cl C X.env) fp) tg g) (htt : ∀ (s : Shared) (H : Hp) (C : Addr) (cl : List (Str × Addr)) (fp : List Addr), PTs (X.blk s H scope (compEnvC scope cl C X.env) fp) ifs tt)
    (ha : ∀ (s : Shared) (H : Hp) (C : Addr) (cl : List (Str × Addr)) (fp : List Addr) (D : Addr), PM (X.blk s H scope (compEnvC scope cl C X.env) fp) (own.map (·.2)) (act (.ref D) (compEnvC scope cl C X.env)) (ta D)) (hs : ∀ x, foldedSetIterable i0 X.env x = pure x := by intro _; rfl) :
    PE X (.ListComp elt (⟨tg, i0, ifs, 0⟩ :: rest) scope pos) (tLcN wi g tt ta (own.map (·.2))) := by
  refine ⟨fun pins s σ H Q I h => ?_⟩
  rw [eval_ListComp]
  refine lcN_core hc hN hi ok ht hg htt ha hs I h fun D C s' m H' I' q hm f => ⟨m, hm, fun h'' sb => ?_⟩
  obtain ⟨p0, p1, p2, p3, p4, p5⟩ := f
  exact ⟨.ref D, H', I'.turned (t' := s'.toks) (fun b o hb z => (sb.2 b hb).trans z) p0 p1 p3 p4 p5, rfl, q⟩
/-- name = such a list, on one line -/
theorem ps_lcN {X : Cx} {i : Nat} {z : Str} {py spos : Pos} {elt tg i0 : Expr} {ifs : List Expr} {rest : List Comprehension} {scope : Scope} {own : List (Str × Nat)} {pos : Pos} {wi : TI} {g : TG} {tt : TT} {ta : Addr → TM} {act : Value → Env → Sem Fin → Sem Fin} (hc : X.calm = true) (hN : X.N.Nodup) (hz : X.N[i]? = some z) (hzl : X.env.scope.names.lookup z = some .local) (hsw : swapsWith (.ListComp elt (⟨tg, i0, ifs, 0⟩ :: rest) scope pos) (some (.Name z py)) spos.line X.env = pure true) (hi : PI X tg i0 wi) (ok : BlkOk X.N X.env.scope scope own)
    (ht : ∀ it D env, compTurn (.ListComp elt (⟨tg, i0, ifs, 0⟩ :: rest) scope pos) 0 it (.ref D) env = turnF tg i0 ifs (.compLoop (.ListComp elt (⟨tg, i0, ifs, 0⟩ :: rest) scope pos) 0 it (.ref D) env) it env (act (.ref D) env))
    (hg : ∀ (s : Shared) (H : Hp) (C : Addr) (cl : List (Str × Addr)) (fp : List Addr), PG (X.blk s H scope (compEnvC scope cl C X.env) fp) tg g) (htt : ∀ (s : Shared) (H : Hp) (C : Addr) (cl : List (Str × Addr)) (fp : List Addr), PTs (X.blk s H scope (compEnvC scope cl C X.env) fp) ifs tt)
    (ha : ∀ (s : Shared) (H : Hp) (C : Addr) (cl : List (Str × Addr)) (fp : List Addr) (D : Addr), PM (X.blk s H scope (compEnvC scope cl C X.env) fp) (own.map (·.2)) (act (.ref D) (compEnvC scope cl C X.env)) (ta D)) (hs : ∀ x, foldedSetIterable i0 X.env x = pure x := by intro _; rfl) :
    PS X (.Assign [.Name z py] (.ListComp elt (⟨tg, i0, ifs, 0⟩ :: rest) scope pos) spos) (tAsg (tLcN wi g tt ta (own.map (·.2))) (gName i)) := by
  refine ⟨fun pins s σ H D I h => ?_⟩
  rw [exec_Assign_Name_used _ _ _ _ hsw]
  refine wpAny_bind (wpAny_standAt (wpAny_bind ?_))
  show wpAny _ X.A (do let _ ← comprehension (.ListComp elt (⟨tg, i0, ifs, 0⟩ :: rest) scope pos) scope X.env (firstIterPos (⟨tg, i0, ifs, 0⟩ :: rest) pos) (newList []) false (eval i0 X.env) (some (assign (.Name z py) X.env))) _ _ s
  have h0 : tLcN wi g tt ta (own.map (·.2)) σ H (fun x H1 => gName i x σ H1 D.nx) := h
  refine wpAny_bind (thn (lcN_core (Qf := fun _ s' => SP X pins D .next s') hc hN hi ok ht hg htt ha hs I h0 fun L C s' m H' I' q hm f => ?_) fun _ s' hq => wpAny_pure (wpAny_pure hq))
  show wpAny _ _ (assign (.Name z py) X.env (.ref L)) _ _ _
  refine wpAny_assign_Name (store_ok2 (v := V.ref L) I' hN hz (.inl hzl) rfl (fun s2 I2 ⟨a, sb, w⟩ => ?_) (.inr hzl))
  obtain ⟨p0, p1, p2, p3, p4, p5⟩ := f
  have off : C ≠ a := w.elim (fun e => by rw [e]; exact p1) fun e d => p4 z a e d.symm
  exact ⟨m, hm.sameBut sb off, fun h3 sb3 => ⟨_, H', I2.turned (t' := s2.toks) (fun b o hb y => (sb3.2 b hb).trans y) p0 p1 p3 p4 p5, q⟩⟩
end CpN
namespace CgN
open PySem PySem.Spec PyProof.Rows L2 CpN
/-! comprehensions of any kind, ce the whole expression -/
structure Kd (ce : Expr) : Prop where
  loop : ∀ (P : Program) (w : World) (d : Nat) (it acc : Value) (env : Env), (model P w).den (.compLoop ce d it acc env) = (compTurn ce d it acc env).onRaise (fun x => do noteFrame x env; theTreesLotGoes x)
  start : ∀ (P : Program) (w : World) (d : Nat) (it acc : Value) (env : Env), (model P w).den (.compStart ce d it acc env) = (compStart ce d it acc env).onRaise (fun x => do noteFrame x env; standAt theWindowsPlace)
  under : ∀ (A : Around) (d : Nat) (it acc : Value) (env : Env), A.under (.compLoop ce d it acc env) = A ∧ A.under (.compStart ce d it acc env) = A
section
variable {prog : Program} {w : World} {A : Around} {R : Result → Shared → Prop} {s : Shared} {ce tg it0 : Expr} {ifs : List Expr} {it acc : Value} {env : Env} {d : Nat} {act : Sem Fin → Sem Fin}
/-- the loop over one clause, by an invariant and a measure -/
theorem loop_wp (kd : Kd ce) (ht : compTurn ce d it acc env = turnF tg it0 ifs (.compLoop ce d it acc env) it env act) (J : Nat → Shared → Prop)
    (turn : ∀ n s, J n s → wpAny (model prog w) A (pyNext it) (fun r s1 => match r with
      | none => R (.ok .next) s1
      | some v => wpAny (model prog w) A (letOwnedTupleGo tg it v) (fun _ s2 => wpAny (model prog w) A (assign tg env v) (fun _ s3 =>
          wpAny (model prog w) A (forIn ifs true fun c r => if r = true then do let ok ← isTrue c env (eval c env); pure (ForInStep.yield ok) else pure (ForInStep.yield r)) (fun ok s4 =>
            if ok = true then wpAny (model prog w) A (act (again (.compLoop ce d it acc env))) (fun fin s' => match fin with
              | .done f => R (.ok f) s'
              | .again c' => c' = .compLoop ce d it acc env ∧ ∃ m, m < n ∧ J m s') (notedBy (model prog w) A env fun e s' => R (.error e) s') s4
            else ∃ m, m < n ∧ J m s4) (notedBy (model prog w) A env fun e s' => R (.error e) s') s3) (notedBy (model prog w) A env fun e s' => R (.error e) s') s2) (notedBy (model prog w) A env fun e s' => R (.error e) s') s1) (notedBy (model prog w) A env fun e s' => R (.error e) s') s)
    (n : Nat) (h : J n s) : codeAny (model prog w) A (.compLoop ce d it acc env) R s := by
  refine codeAny_loop rfl J (fun n s hJ => ?_) n h
  rw [kd.loop, (kd.under A d it acc env).1]
  refine wpAny_noted ?_
  rw [ht]
  unfold turnF
  refine wpAny_bind (wpAny_standAt (wpAny_bind (wpAny_mono (turn n s hJ) (fun r s1 h1 => ?_) fun _ _ q => q)))
  cases r with
  | none => exact wpAny_pure h1
  | some v =>
    refine wpAny_bind (wpAny_mono h1 (fun _ s2 h2 => ?_) fun _ _ q => q)
    refine wpAny_bind (wpAny_mono h2 (fun _ s3 h3 => wpAny_bind (wpAny_mono h3 (fun ok s4 h4 => ?_) fun _ _ q => q)) fun _ _ q => q)
    cases ok with
    | false => exact wpAny_pure ⟨rfl, h4⟩
    | true => exact h4
/-- a further clause's start -/
theorem start_wp (kd : Kd ce) (h0 : codeAny (model prog w) A (.compLoop ce d it acc env) R s) (ha : ((clausesOf ce)[d]?).elim false (·.is_async != 0) = false)
    (h : wpAny (model prog w) A (pyIter it) (fun it' s' => codeAny (model prog w) A (.compLoop ce d it' acc env) R s') (notedBy (model prog w) A env fun x s' => R (.error x) s') s) :
    codeAny (model prog w) A (.compStart ce d it acc env) R s := by
  refine codeAny_of_tree ?_
  rw [(kd.under A d it acc env).2]
  show wpAny _ A ((model prog w).den (.compStart ce d it acc env)) _ _ s
  rw [kd.start]
  refine wpAny_notedAt ?_
  unfold compStart
  rw [ha]
  show wpAny _ _ (ask >>= _) _ _ s
  refine wpAny_bind (wpAny_askSetting (wpAny_ite ?_))
  split
  · first
      | exact wpAny_bind (wpAny_pure (wpAny_pure (And.intro rfl h0)))
      | exact wpAny_pure (And.intro rfl h0)
  · refine wpAny_bind (wpAny_rule ?_)
    have fin : wpAny (model prog w) A (pyIter it >>= fun it' => again (.compLoop ce d it' acc env)) (fun fin s' => match fin with
      | .done f => R (.ok f) s'
      | .again c' => c'.quiet = true ∧ codeAny (model prog w) A c' R s') (notedBy (model prog w) A env fun x s' => R (.error x) s') s := wpAny_bind (wpAny_mono h (fun it' s' h' => wpAny_pure (And.intro rfl h')) fun _ _ x => x)
    cases (clausesOf ce)[d]? with
    | none => exact fin
    | some g => exact wpAny_bind (wpAny_standAt fin)
end
section
variable {X : Cx} {vs us : List Nat} {ce tg i1 : Expr} {ifs : List Expr} {d : Nat} {act : Sem Fin → Sem Fin} {D : Addr} {wi : TI} {g : TG} {tt : TT} {ta : TM}
theorem pm_gen (kd : Kd ce) (hx : X.xe = fun _ _ => False) (hc : X.calm = true) (ht : ∀ it, compTurn ce d it (.ref D) X.env = turnF tg i1 ifs (.compLoop ce d it (.ref D) X.env) it X.env act)
    (ha : ((clausesOf ce)[d]?).elim false (·.is_async != 0) = false) (hi : PI X tg i1 wi) (hg : PG X tg g) (htt : PTs X ifs tt) (hact : PM X us act ta) (hsub : ∀ i ∈ us, i ∈ vs) (hs : ∀ x, foldedSetIterable i1 X.env x = pure x) :
    PM X vs (actG ce d i1 (.ref D) X.env) (tGen wi g tt ta vs) := by
  refine ⟨fun k pins s σ H Nx Qf E I h hk => ?_⟩
  have h1 := hi.run pins s σ H _ I h
  rw [hx] at h1
  unfold actG
  refine wpAny_bind (thnF h1 fun xv s1 hxv => wpAny_bind (wpAny_standAt (wpAny_bind (wpAny_of_eq (hs xv) (wpAny_bind (wpAny_holding (thnF hxv fun itv s2 h2 => ?_)))))))
  obtain ⟨it, fp, tn, J, H2, e, I2, T, st2, f2, W, ⟨m0, w0⟩, turn⟩ := h2
  subst e
  have stat : ∀ {H' : Hp}, (∀ b ∈ fp, H' b = none) → ∀ b ∈ fp, FpOk X pins H' b := fun hn b hb => ⟨hn b hb, (f2 b hb).2⟩
  have I0 : Inv X pins (wipe σ vs) H2 s2 := I2.weak (wipe_length _ _) (fun j v e => (wipe_some e).1)
  have loop : codeAny (model X.prog X.w) X.A (.compLoop ce d (.ref it) (.ref D) X.env) (fun r s' => match r with
      | .ok _ => wpAny (model X.prog X.w) X.A k Qf E s'
      | .error _ => False) s2 := by
    refine loop_wp kd (ht _) (fun n s' => ∃ j H', Inv X pins (wipe σ vs) H' s' ∧ tn j s'.heap ∧ (∀ b ∈ fp, H' b = none) ∧ W j n H') ?_ m0 ⟨0, H2, I0, st2, fun b hb => (f2 b hb).1, w0⟩
    rintro n s3 ⟨j, H3, I3, st3, n3, w3⟩
    rcases turn j n H3 w3 with ⟨stop, nx⟩ | ⟨go, Nx1, hN1, step⟩
    · refine thnF (T.done X rfl rfl rfl hc j pins s3 (wipe σ vs) H3 (fun _ _ => False) I3 (stat n3) st3 stop) fun r s4 ⟨hr, I4⟩ => ?_
      subst hr
      exact hk _ H3 s4 I4 (wipe_idem σ vs) nx
    · refine thnF (T.item X rfl rfl rfl hc j pins s3 (wipe σ vs) H3 (fun _ _ => False) I3 (stat n3) st3 go) fun r s4 ⟨u, hr, h4⟩ => ?_
      subst hr
      refine thnF h4 fun _ s5 ⟨x, H5, I5, r5, y5, st5, n5⟩ => ?_
      have I5' := I5.pinned (stat n5) (T.obj _ _ st5)
      have hp := hg.run _ s5 (wipe σ vs) H5 x u _ I5' r5 (step x H5 y5)
      rw [hx] at hp
      refine thnF hp fun _ s6 ⟨σ6, H6, I6, hw6, q6⟩ => ?_
      have hq := htt.run _ s6 σ6 H6 _ I6 q6
      rw [hx] at hq
      refine thnF hq fun b s7 ⟨H7, I7, q7⟩ => ?_
      have fin : ∀ {σ' : L2.St} {s' : Shared} {H' : Hp}, Inv X (pins ++ pinsAt fp s5.heap) σ' H' s' → wipe σ' vs = wipe σ vs → Nx1 H' → ∃ m, m < n ∧ ∃ j H', Inv X pins (wipe σ vs) H' s' ∧ tn j s'.heap ∧ (∀ b ∈ fp, H' b = none) ∧ W j m H' := fun {σ' s' H'} I' hw nx => by
        obtain ⟨m', hm, w'⟩ := hN1 H' nx
        have pin' : ∀ b ∈ fp, ∀ o, s5.heap.get? b = some o → s'.heap.get? b = some o ∧ H' b = none := fun b hb o e =>
          let z := I'.pin (b, o) (List.mem_append_right _ (List.mem_append_right _ (mem_pinsAt hb e)))
          ⟨z.1, z.2.1⟩
        refine ⟨m', hm, j + 1, H', I'.unpinned.weak (by rw [← hw, wipe_length]) (fun j v e => by rw [← hw] at e; exact (wipe_some e).1), T.keep _ _ _ st5 fun b hb o e => (pin' b hb o e).1, fun b hb => ?_, w'⟩
        obtain ⟨o, e, _⟩ := T.obj _ _ st5 b hb
        exact (pin' b hb o e).2
      cases b with
      | false =>
        simp only [Bool.false_eq_true, if_false] at q7 ⊢
        exact fin I7 hw6 q7
      | true =>
        simp only [if_true] at q7 ⊢
        exact hact.run _ _ s7 σ6 H7 Nx1 _ _ I7 q7 fun σ' H' s' I' hw nx => wpAny_pure ⟨rfl, fin I' ((wipe_sub hw hsub).trans hw6) nx⟩
  refine wpAny_bind (wpAny_runOwn ?_)
  rw [Around.mark_none]
  refine codeAny_mono (start_wp kd loop ha (T.self X.A 0 _ _ _ st2 loop)) fun r s' hr => ?_
  cases r with
  | ok f => exact hr
  | error e => exact hr.elim
end
/-- D the new object, o0 what it is at first -/
def tCg (o0 : Addr → HO) (wi : TI) (g : TG) (tt : TT) (ta : Addr → TM) (vs : List Nat) : TE := fun σ H Q => wi σ H fun J H1 => ∀ D, H1 D = none → ∃ W : Nat → Nat → Hp → Prop, (∃ m, W 0 m (upd H1 D (o0 D))) ∧ ∀ j k H, W j k H →
  (J.stop j H ∧ Q (.ref D) H) ∨ (J.go j H ∧ ∃ Nx1 : Hp → Prop, (∀ H', Nx1 H' → ∃ k', k' < k ∧ W (j + 1) k' H') ∧ ∀ x H', J.yld j H x H' → g x (wipe σ vs) H' fun σ2 H2 => wipe σ2 vs = wipe σ vs ∧ tt σ2 H2 fun b H3 => if b = true then ta D σ2 H3 Nx1 else Nx1 H3)
theorem cg_core {X : Cx} {pins : List (Addr × Obj)} {s : Shared} {σ : L2.St} {H : Hp} {Q : VK} {pos' : Pos} {use : Option (Value → Sem Unit)} {Qf : Value → Shared → Prop} {ce tg i0 : Expr} {ifs : List Expr} {rest : List Comprehension} {scope : Scope} {own : List (Str × Nat)} {mkN : Sem Value} {ob : Obj} {o0 : Addr → HO} {wi : TI} {g : TG} {tt : TT} {ta : Addr → TM} {act : Value → Env → Sem Fin → Sem Fin} (kd : Kd ce) (hc : X.calm = true) (hN : X.N.Nodup) (hi : PI X tg i0 wi) (ok : BlkOk X.N X.env.scope scope own)
    (ht : ∀ it D env, compTurn ce 0 it (.ref D) env = turnF tg i0 ifs (.compLoop ce 0 it (.ref D) env) it env (act (.ref D) env))
    (hcl : clausesOf ce = ⟨tg, i0, ifs, 0⟩ :: rest) (hnw : ∀ (s : Shared) (Q : Value → Shared → Prop) (E : Value → Shared → Prop), Q (.ref s.heap.objs.size) { s with heap := s.heap.push ob } → wpAny (model X.prog X.w) X.A mkN Q E s) (hfr : ob.isFreed = false)
    (hob : ∀ (H : Hp) (h : Heap) (D : Addr), h.get? D = some ob → ObjOk X.prog X.w H h D (o0 D))
    (hg : ∀ (s : Shared) (H : Hp) (C : Addr) (cl : List (Str × Addr)) (fp : List Addr), PG (X.blk s H scope (compEnvC scope cl C X.env) fp) tg g) (htt : ∀ (s : Shared) (H : Hp) (C : Addr) (cl : List (Str × Addr)) (fp : List Addr), PTs (X.blk s H scope (compEnvC scope cl C X.env) fp) ifs tt)
    (ha : ∀ (s : Shared) (H : Hp) (C : Addr) (cl : List (Str × Addr)) (fp : List Addr) (D : Addr), PM (X.blk s H scope (compEnvC scope cl C X.env) fp) (own.map (·.2)) (act (.ref D) (compEnvC scope cl C X.env)) (ta D)) (hs : ∀ x, foldedSetIterable i0 X.env x = pure x) (I : Inv X pins σ H s) (h : tCg o0 wi g tt ta (own.map (·.2)) σ H Q)
    (out : ∀ D C s' m H', Inv X pins σ H' s' → Q (.ref D) H' → s'.heap.Ns C m → FpOk X pins H' C → compPost (model X.prog X.w) X.A X.xe use Qf (.ref D) C (.ok .next) s') :
    wpAny (model X.prog X.w) X.A (comprehension ce scope X.env pos' mkN false (eval i0 X.env) use) Qf X.xe s := by
  have clos : ∀ y ∈ scope.names, y.2 = .free → ∃ c, X.env.cells.lookup y.1 = some c := fun y hy e => (ok.free y hy e).elim (fun z => I.ok.has _ (.inl z)) fun z => I.ok.has _ (.inr z)
  refine wpAny_comprehension_free (use := use) hcl hs (closure_ok clos) ok.kind (fun y hy e => (ok.uniq y hy).trans (congrArg some e)) (thn (hi.run pins s σ H _ I h) fun xv s1 hxv => thn hxv fun itv s2 got => ?_)
  obtain ⟨it, fp, tn, J, H2, e, I2, T, st2, f2, q⟩ := got
  subst e
  refine hnw _ _ _ (newEnv_comp ?_)
  generalize eD : s2.heap.objs.size = D
  have nD : H2 D = none := I2.hok.fresh (Nat.le_of_eq eD)
  obtain ⟨W, ⟨m0, w0⟩, turn⟩ := q D nD
  generalize es : ({ s2 with heap := s2.heap.push ob } : Shared) = t
  have hh : t.heap = s2.heap.push ob := by rw [← es]
  have It : Inv X pins σ (upd H2 D (o0 D)) t := by
    subst es
    exact I2.laid (t' := s2.toks) (fun b o z => Heap.get?_push_of_some _ z) (Nat.le_of_eq eD) (hob _ _ _ (by rw [← eD]; exact Heap.get?_push_size _ hfr))
  have small : ∀ b ∈ fp, b < s2.heap.objs.size := fun b hb => (T.obj _ _ st2 b hb).elim fun o z => Heap.lt_size z.1
  have fpt : ∀ b ∈ fp, FpOk X pins (upd H2 D (o0 D)) b ∧ b < t.heap.objs.size := fun b hb => by
    refine ⟨⟨?_, (f2 b hb).2⟩, ?_⟩
    · rw [upd_ne fun z => absurd (small b hb) (by rw [z, eD]; exact Nat.lt_irrefl _)]
      exact (f2 b hb).1
    · rw [hh, Heap.size_push]
      exact Nat.lt_succ_of_lt (small b hb)
  have stt : tn 0 t.heap := T.keep _ _ _ st2 fun b _ o z => by
    rw [hh]
    exact Heap.get?_push_of_some _ z
  have Ib := block_start It ok hN fpt
  have g1 := hg t (upd H2 D (o0 D)) t.heap.objs.size (cellsFrom (t.heap.objs.size + 1) scope.names (cloFrom X.env.cells scope.names [])) fp
  have g2 := htt t (upd H2 D (o0 D)) t.heap.objs.size (cellsFrom (t.heap.objs.size + 1) scope.names (cloFrom X.env.cells scope.names [])) fp
  have g3 := ha t (upd H2 D (o0 D)) t.heap.objs.size (cellsFrom (t.heap.objs.size + 1) scope.names (cloFrom X.env.cells scope.names [])) fp D
  show codeAny _ _ (.compStart _ 0 (.ref it) (.ref D) (compEnvC scope (cellsFrom (t.heap.objs.size + 1) scope.names (cloFrom X.env.cells scope.names [])) t.heap.objs.size X.env)) (compPost (model X.prog X.w) X.A X.xe _ _ (.ref D) t.heap.objs.size) { t with heap := pushCells (t.heap.push { cls := .type "dict", data := .dict #[] }) scope.names }
  have off : ∀ b ∈ fp, (upd H2 D (o0 D)) b = none := fun b hb => (fpt b hb).1.1
  generalize ec : compEnvC scope (cellsFrom (t.heap.objs.size + 1) scope.names (cloFrom X.env.cells scope.names [])) t.heap.objs.size X.env = cv at Ib g1 g2 g3 ⊢
  have loc : cv.locals = t.heap.objs.size := by
    rw [← ec]
    rfl
  generalize eH : upd H2 D (o0 D) = Ht at It Ib g1 g2 g3 w0 off fpt
  generalize eu : ({ t with heap := pushCells (t.heap.push { cls := .type "dict", data := .dict #[] }) scope.names } : Shared) = u at Ib ⊢
  have stu : tn 0 u.heap := T.keep _ _ _ stt fun b _ o z => by
    rw [← eu]
    exact pushCells_keeps _ _ _ _ (Heap.get?_push_of_some _ z)
  have stat : ∀ {σ' : L2.St} {H' : Hp} {s' : Shared}, Inv (X.blk t Ht scope cv fp) [] σ' H' s' → (∀ b ∈ fp, H' b = none) → ∀ b ∈ fp, FpOk (X.blk t Ht scope cv fp) [] H' b := fun {σ' H' s'} I' hn b hb =>
    ⟨hn b hb, (I'.ok.exf b hb).1, I'.ok.exfs b hb, .inl hb, fun x c z => (I'.ok.exf b hb).2 x c z, fun p hp => by cases hp⟩
  have loop : codeAny (model X.prog X.w) X.A (.compLoop ce 0 (.ref it) (.ref D) cv) (compPost (model X.prog X.w) X.A X.xe use Qf (.ref D) t.heap.objs.size) u := by
    refine loop_wp kd (ht _ _ _) (fun n s' => ∃ j H', Inv (X.blk t Ht scope cv fp) [] (wipe σ (own.map (·.2))) H' s' ∧ tn j s'.heap ∧ (∀ b ∈ fp, H' b = none) ∧ W j n H') ?_ m0 ⟨0, Ht, Ib, stu, off, w0⟩
    rintro n s3 ⟨j, H3, I3, st3, n3, w3⟩
    rcases turn j n H3 w3 with ⟨stop, qq⟩ | ⟨go, Nx1, hN1, step⟩
    · refine thnF (T.done (X.blk t Ht scope cv fp) rfl rfl rfl hc j [] s3 _ H3 (fun _ _ => False) I3 (stat I3 n3) st3 stop) fun r s4 ⟨hr, I4⟩ => ?_
      subst hr
      have Iout : Inv X pins σ H3 s4 := It.call' (ch := fp) I4.os I4.base I4.hok I4.bare fun b hb => ⟨(fpt b hb).1.2.2.2.1, (fpt b hb).1.2.1, (fpt b hb).1.2.2.2.2.1, (fpt b hb).1.2.2.2.2.2⟩
      have nC : H3 t.heap.objs.size = none := by
        have z : H3 cv.locals = none := I4.free
        rw [loc] at z
        exact z
      obtain ⟨m, hm, _⟩ := I4.loc
      have hm : s4.heap.Ns cv.locals m := hm
      rw [loc] at hm
      exact out D t.heap.objs.size s4 m H3 Iout qq hm (It.fpOk (Nat.le_refl _) nC)
    · refine thnF (T.item (X.blk t Ht scope cv fp) rfl rfl rfl hc j [] s3 _ H3 (fun _ _ => False) I3 (stat I3 n3) st3 go) fun r s4 ⟨v, hr, h4⟩ => ?_
      subst hr
      refine thnF h4 fun _ s5 ⟨x, H5, I5, r5, y5, st5, n5⟩ => ?_
      have I5' := I5.pinned (stat I5 n5) (T.obj _ _ st5)
      refine thnF (g1.run _ s5 _ H5 x v _ I5' r5 (step x H5 y5)) fun _ s6 ⟨σ6, H6, I6, hw6, q6⟩ => ?_
      refine thnF (g2.run _ s6 σ6 H6 _ I6 q6) fun b s7 ⟨H7, I7, q7⟩ => ?_
      have fin : ∀ {σ' : L2.St} {s' : Shared} {H' : Hp}, Inv (X.blk t Ht scope cv fp) ([] ++ pinsAt fp s5.heap) σ' H' s' → wipe σ' (own.map (·.2)) = wipe σ (own.map (·.2)) → Nx1 H' → ∃ m, m < n ∧ ∃ j H', Inv (X.blk t Ht scope cv fp) [] (wipe σ (own.map (·.2))) H' s' ∧ tn j s'.heap ∧ (∀ b ∈ fp, H' b = none) ∧ W j m H' := fun {σ' s' H'} I' hw nx => by
        obtain ⟨m', hm, w'⟩ := hN1 H' nx
        have pin' : ∀ b ∈ fp, ∀ o, s5.heap.get? b = some o → s'.heap.get? b = some o ∧ H' b = none := fun b hb o z =>
          let y := I'.pin (b, o) (List.mem_append_right _ (List.mem_append_right _ (mem_pinsAt hb z)))
          ⟨y.1, y.2.1⟩
        refine ⟨m', hm, j + 1, H', (I'.unpinned (pins := [])).weak (by rw [← hw, wipe_length]) (fun i v z => by rw [← hw] at z; exact (wipe_some z).1), T.keep _ _ _ st5 fun b hb o z => (pin' b hb o z).1, fun b hb => ?_, w'⟩
        obtain ⟨o, z, _⟩ := T.obj _ _ st5 b hb
        exact (pin' b hb o z).2
      cases b with
      | false =>
        simp only [Bool.false_eq_true, if_false] at q7 ⊢
        exact fin I7 hw6 q7
      | true =>
        simp only [if_true] at q7 ⊢
        exact g3.run _ _ s7 σ6 H7 Nx1 _ _ I7 q7 fun σ' H' s' I' hw nx => wpAny_pure ⟨rfl, fin I' (hw.trans hw6) nx⟩
  exact start_wp kd loop (by rw [hcl]; rfl) (T.self X.A 0 _ _ _ stu loop)
theorem kd_set {elt : Expr} {gens : List Comprehension} {scope : Scope} {pos : Pos} : Kd (.SetComp elt gens scope pos) := ⟨fun _ _ _ _ _ _ => rfl, fun _ _ _ _ _ _ => rfl, fun _ _ _ _ _ => ⟨rfl, rfl⟩⟩
theorem kd_dict {k v : Expr} {gens : List Comprehension} {scope : Scope} {pos : Pos} : Kd (.DictComp k v gens scope pos) := ⟨fun _ _ _ _ _ _ => rfl, fun _ _ _ _ _ _ => rfl, fun _ _ _ _ _ => ⟨rfl, rfl⟩⟩
end CgN
namespace NsT
open PySem PySem.Spec PyProof.Rows L2
/-! sets of texts -/
def keyX (e : Int × Value) : Str := match e.2 with | .str k _ => k | _ => default
def GdX (w : World) (e : Int × Value) : Prop := ∃ k u, e.2 = Value.str k u ∧ e.1 = hashStr w k
/-- a set of the texts l, in some order of its own -/
def SetX (w : World) (h : Heap) (a : Addr) (l : List Str) : Prop :=
  ∃ ob es ep t, h.get? a = some ob ∧ ob.ExactSet ∧ ob.data = .set es ep t ∧ (∀ e ∈ es.toList, GdX w e) ∧ (es.toList.map keyX).Perm l ∧ l.Nodup ∧ l.length < scanBound ∧ t.fits es.size = true ∧ Ris t.place.toList ∧ (w.params.followText "set-order" = true ∨ t.led = true)
section
variable {P : Program} {w : World} {h h' : Heap} {a : Addr} {l : List Str}
theorem setX_at (R : SetX w h a l) (k : ∀ o, h.get? a = some o → h'.get? a = some o) : SetX w h' a l := by
  obtain ⟨ob, es, ep, t, ho, r⟩ := R
  exact ⟨ob, es, ep, t, k ob ho, r⟩
theorem gdX_is {e : Int × Value} (g : GdX w e) (k : Str) : (strKind P w).is k e.2 = true ↔ keyX e = k := by
  obtain ⟨k0, u, e1, _⟩ := g
  unfold keyX
  rw [e1]
  show Value.isStrOf k (.str k0 u) = true ↔ k0 = k
  unfold Value.isStrOf
  simp
theorem gdX_elems {m : List (Int × Value)} (g : ∀ e ∈ m, GdX w e) : ElemsOf (strKind P w) m := fun e he => by
  obtain ⟨k, u, e1, e2⟩ := g e he
  exact ⟨⟨k, by rw [e1]; exact strKind_is P w k u, e2⟩, by rw [e1]; rfl⟩
theorem gdX_mem {m : List (Int × Value)} (g : ∀ e ∈ m, GdX w e) (k : Str) : k ∈ m.map keyX ↔ ∃ e ∈ m, (strKind P w).is k e.2 = true :=
  ⟨fun z => by
    obtain ⟨e, he, q⟩ := List.mem_map.mp z
    exact ⟨e, he, (gdX_is (g e he) k).mpr q⟩, fun ⟨e, he, q⟩ => List.mem_map.mpr ⟨e, he, (gdX_is (g e he) k).mp q⟩⟩
theorem setX_size {es : Array (Int × Value)} (p : (es.toList.map keyX).Perm l) : es.size = l.length := by
  have := p.length_eq
  rw [List.length_map, Array.length_toList] at this
  exact this
theorem setX_set (R : SetX w h a l) : h.SetOf (strKind P w) a (fun k => decide (k ∈ l)) l.length := by
  obtain ⟨ob, es, ep, t, ho, hx, hd, g, pm, nd, hb, hf, _⟩ := R
  refine ⟨ob, es, ep, t, ho, hx, hd, gdX_elems g, fun k => ?_, by rw [setX_size pm]; exact hb, hf, setX_size pm⟩
  rw [decide_eq_true_eq, ← pm.mem_iff]
  exact gdX_mem g k
theorem setX_new (w : World) : SetX w (h.push { cls := .type "set", dict := none, data := .set #[] 0 (.fresh 0 0 (!w.params.followText "set-order")) }) h.objs.size [] := by
  refine ⟨_, #[], 0, _, Heap.get?_push_size _ rfl, ⟨rfl, rfl, rfl⟩, rfl, fun e he => (by simp at he), List.Perm.refl _, List.nodup_nil, by decide, by rfl, List.Pairwise.nil, ?_⟩
  show _ ∨ (!w.params.followText "set-order") = true
  cases w.params.followText "set-order" with
  | true => exact .inl rfl
  | false => exact .inr rfl
end
section
variable {P : Program} {w : World} {A : Around} {E : Value → Shared → Prop} {s : Shared} {a : Addr} {l : List Str}
theorem putX {h : Heap} {ob : Obj} {es es' : Array (Int × Value)} {ep : Nat} {t t' : SetTable} (ho : h.get? a = some ob) (hd : ob.data = .set es ep t) : (h.update a (Obj.putSet es' t')).get? a = some { ob with data := .set es' (ep + 1) t' } := by
  have q := Heap.get?_update_self (Obj.putSet es' t') ho (by rw [putSet_of es' t' hd]; rfl)
  rw [putSet_of es' t' hd] at q
  exact q
/-- what comes behind a new member: the table may be laid anew -/
theorem addX_end {f : Bool → Sem Unit} (hf : ∀ (b : Bool) (s' : Shared) (Q : Unit → Shared → Prop), Q () s' → wpAny (model P w) A (f b) Q E s') {ob : Obj} {es : Array (Int × Value)} {ep : Nat} {t : SetTable} (ho : s.heap.get? a = some ob) (hx : ob.ExactSet) (hd : ob.data = .set es ep t)
    {es1 : Array (Int × Value)} {t2 : SetTable} {l' : List Str} (g1 : ∀ e ∈ es1.toList, GdX w e) (p1 : (es1.toList.map keyX).Perm l') (nd : l'.Nodup) (hb : l'.length < scanBound) (ft : t2.fits es1.size = true) (hr : Ris t2.place.toList) (hl : w.params.followText "set-order" = true ∨ t2.led = true) {wd : Bool} {R : Option Bool → Shared → Prop}
    (hR : ∀ h', Heap.SameBut a s.heap h' → SetX w h' a l' → R (some true) { s with heap := h' }) :
    wpAny (model P w) A (do
        storeSet a es1 t2
        if (!wd && t2.tooFull) = true then do
            f (relayAll t2 es1 (SetTable.grown es1.size)).2.2
            storeSet a (relayAll t2 es1 (SetTable.grown es1.size)).1 (relayAll t2 es1 (SetTable.grown es1.size)).2.1
            pure (some true)
          else pure (some true)) R E s := by
  have hb1 : es1.size < scanBound := by rw [setX_size p1]; exact hb
  refine wpAny_bind (wpAny_storeSet_of ho hd ?_ (fits_of_scanBound hb1))
  have ho1 := putX (es' := es1) (t' := t2) ho hd
  have sb := Heap.SameBut.update s.heap a (Obj.putSet es1 t2)
  split
  · have pm := relayAll_perm t2 es1 (SetTable.grown es1.size)
    have f3 := relayAll_fits t2 es1 (SetTable.grown es1.size)
    have r3 := relayAll_ris t2 es1 (SetTable.grown es1.size)
    have l3 := relayAll_led t2 es1 (SetTable.grown es1.size)
    generalize relayAll t2 es1 (SetTable.grown es1.size) = Z at pm f3 r3 l3 ⊢
    obtain ⟨es2, t3, gv⟩ := Z
    dsimp only at pm f3 r3 l3 ⊢
    have p2 : (es2.toList.map keyX).Perm l' := (pm.map keyX).trans p1
    refine wpAny_bind (hf _ _ _ (wpAny_bind (wpAny_storeSet_of ho1 rfl ?_ (fits_of_scanBound (by rw [setX_size p2]; exact hb)))))
    have ho2 := putX (es' := es2) (t' := t3) ho1 rfl
    exact wpAny_pure (hR _ (sb.trans (Heap.SameBut.update _ a _)) ⟨_, es2, _, t3, ho2, hx, rfl, fun e he => g1 e (pm.mem_iff.mp he), p2, nd, hb, f3, r3, hl.imp id fun z => l3.trans z⟩)
  · exact wpAny_pure (hR _ sb ⟨_, es1, _, t2, ho1, hx, rfl, g1, p1, nd, hb, ft, hr, hl⟩)
/-- one text more -/
def addS (l : List Str) (k : Str) : List Str := if k ∈ l then l else l ++ [k]
theorem addX_hashed {k : Str} {u : Tok} {Q : Bool → Shared → Prop} (R : SetX w s.heap a l) (room : l.length + 1 < scanBound) (hQ : ∀ b h', Heap.SameBut a s.heap h' → SetX w h' a (addS l k) → Q b { s with heap := h' }) :
    wpAny (model P w) A (setAddHashed a (.str k u) ((strKind P w).hash k)) Q E s := by
  obtain ⟨ob, es, ep, t, ho, hx, hd, g, pm, nd, hb, ft, hr, hl⟩ := R
  have hsz := setX_size pm
  have hkey : (strKind P w).is k (.str k u) = true := strKind_is P w k u
  have hsc : (Value.str k u).scannable = true := rfl
  have hel : ElemsOf (strKind P w) es.toList := gdX_elems g
  have hbs : es.size < scanBound := by rw [hsz]; exact hb
  unfold setAddHashed setAddHashedIn
  refine wpAny_holding (wpAny_bind (wpAny_setState_of ho hd ft ?_))
  dsimp only
  rw [byScan_of hsc hbs hel]
  simp only [↓reduceIte]
  unfold setAddByScan
  refine wpAny_bind (wpAny_bind (wpAny_rule (wpAny_bind (wpAny_setScan_of hkey ho hd ft hel ?_))))
  cases hfi : List.findIdx? (fun e => (strKind P w).is k e.2) es.toList with
  | some j =>
    dsimp only
    obtain ⟨hj, pj, _⟩ := List.findIdx?_eq_some_iff_getElem.mp hfi
    have hm : k ∈ l := pm.mem_iff.mp ((gdX_mem (P := P) g k).mpr ⟨es.toList[j], List.getElem_mem hj, pj⟩)
    refine wpAny_pure (wpAny_pure (hQ _ s.heap (Heap.SameBut.refl a s.heap) ?_))
    have e : addS l k = l := if_pos hm
    rw [e]
    exact ⟨ob, es, ep, t, ho, hx, hd, g, pm, nd, hb, ft, hr, hl⟩
  | none =>
    dsimp only
    have hn : k ∉ l := fun z => by
      obtain ⟨e, he, q⟩ := (gdX_mem (P := P) g k).mp (pm.mem_iff.mpr z)
      have c := List.findIdx?_eq_none_iff.mp hfi e he
      rw [q] at c
      cases c
    have el : addS l k = l ++ [k] := if_neg hn
    have pl := layNew_perm t es ((strKind P w).hash k) (.str k u)
    have f1 := layNew_fits t es ((strKind P w).hash k) (.str k u)
    have r1 := layNew_ris t es ((strKind P w).hash k) (.str k u) hr
    have l1 := layNew_led t es ((strKind P w).hash k) (.str k u)
    generalize layNew t es ((strKind P w).hash k) (.str k u) = Z at pl f1 r1 l1 ⊢
    obtain ⟨es1, t1, wd, gv⟩ := Z
    dsimp only at pl f1 r1 l1 ⊢
    rw [Array.toList_push] at pl
    have g1 : ∀ e ∈ es1.toList, GdX w e := fun e he => by
      rcases List.mem_append.mp (pl.mem_iff.mp he) with z | z
      · exact g e z
      · rw [List.mem_singleton.mp z]
        exact ⟨k, u, rfl, rfl⟩
    have p1 : (es1.toList.map keyX).Perm (l ++ [k]) := by
      have q := pl.map keyX
      rw [List.map_append] at q
      exact q.trans (pm.append_right [k])
    have nd1 : (l ++ [k]).Nodup := List.nodup_append.mpr ⟨nd, by simp, fun x hx y hy e => hn (by rw [← List.mem_singleton.mp hy, ← e]; exact hx)⟩
    have hb1 : (l ++ [k]).length < scanBound := by rw [List.length_append]; exact room
    have hled : w.params.followText "set-order" = true ∨ t1.led = true := hl.imp id fun z => l1.trans z
    have quiet : ∀ (b : Bool) {s' : Shared} {Q' : Unit → Shared → Prop}, Q' () s' → wpAny (model P w) A (match b with | true => rule "set.scan.the-table-gave-way" | false => pure ()) Q' E s' := fun b s' Q' q => by
      cases b with
      | true => exact wpAny_rule q
      | false => exact wpAny_pure q
    rw [el] at hQ
    refine wpAny_bind (quiet _ ?_)
    split
    · refine wpAny_bind ?_
      rw [hashByValue_scannable 8 hsc]
      refine wpAny_pure (addX_end (fun b s' Q' q => quiet b q) ho hx hd g1 p1 nd1 hb1 ?_ ?_ ?_ fun h' sb r => ?_)
      · first | exact f1 | (split <;> first | exact f1 | exact SetTable.fits_plain_off f1)
      · first | exact r1 | (split <;> exact r1)
      · first | exact hled | (split <;> exact hled)
      · dsimp only
        exact wpAny_pure (hQ _ h' sb r)
    · refine wpAny_bind (wpAny_pure ?_)
      simp only [↓reduceIte]
      exact addX_end (fun b s' Q' q => quiet b q) ho hx hd g1 p1 nd1 hb1 f1 r1 hled fun h' sb r => by
        dsimp only
        exact wpAny_pure (hQ _ h' sb r)
/-- found.add(k) -/
theorem addX {k : Str} {u : Tok} {Q : Value → Shared → Prop} (R : SetX w s.heap a l) (room : l.length + 1 < scanBound) (hQ : ∀ h', Heap.SameBut a s.heap h' → SetX w h' a (addS l k) → Q .none { s with heap := h', toks := s.toks + 1 }) :
    wpAny (model P w) A (call (.builtin "set.add") [.ref a, .str k u]) Q E s := by
  have hS : s.heap.SetOf (strKind P w) a (fun k => decide (k ∈ l)) l.length := setX_set R
  refine wpAny_call_entry F.slot_set_add hS.typeIs F.entry_set_add ?_ (F.args_set_add_2 _ _)
  unfold Builtin.«set.add» Builtin.Frozenset.oneOther
  simp only [List.isEmpty_nil, bind_assoc]
  unfold Builtin.Frozenset.addrOf setAdd
  refine wpAny_bind (wpAny_pure ?_)
  try dsimp only
  refine wpAny_bind (wpAny_pure ?_)
  try dsimp only
  refine wpAny_bind (wpAny_holding (wpAny_bind ((strKind P w).pyHash (strKind_is P w k u) (addX_hashed (s := { s with toks := s.toks + 1 }) R room fun b h' sb r => ?_))))
  show wpAny _ _ (ret Value.none) _ _ _
  exact wpAny_pure ⟨_, rfl, hQ h' sb r⟩
end
end NsT
namespace NsT
open PySem PySem.Spec PyProof.Rows L2 CpN CgN
section
variable {P : Program} {w : World} {A : Around} {E : Value → Shared → Prop} {s : Shared} {a : Addr} {l : List Str}
theorem strs_of_vals : ∀ vs : List Value, (∀ v ∈ vs, ∃ k u, v = Value.str k u) → ∃ ks, StrsAre vs ks ∧ ks = vs.map (fun v => keyX (0, v))
  | [], _ => ⟨[], .nil, rfl⟩
  | v :: vs, h => by
    obtain ⟨k, u, rfl⟩ := h v (.head _)
    obtain ⟨ks, h1, h2⟩ := strs_of_vals vs fun x hx => h x (.tail _ hx)
    exact ⟨k :: ks, .cons k u h1, by rw [List.map_cons, h2] <;> rfl⟩
/-- sorted(S) -/
theorem sortedX {Q : Value → Shared → Prop} (R : SetX w s.heap a l) (hh : A.handled = none) (h64 : l.length < 64)
    (hQ : ∀ s' p (out : Array Value) (c : Nat) (ks : List Str), (∀ b o, s.heap.get? b = some o → s'.heap.get? b = some o) → s'.gens = s.gens → s'.os = s.os → s.heap.objs.size ≤ p → s'.heap.get? p = some (seqObj "list" out c) → StrsAre out.toList ks → ks.Perm l → sortedS ks = true → Q (.ref p) s') :
    wpAny (model P w) A (call (.builtin "sorted") [.ref a]) Q E s := by
  obtain ⟨ob, es, ep, t, ho, hx, hd, g, pm, nd, hb, ft, hr, hl⟩ := R
  refine Calls.call_function_entry kind_sorted plain_sorted entry_sorted (args_sorted1 _) ?_
  unfold Builtin.«sorted»
  refine wpAny_bind (m := checkCount "sorted" 1 1 _) (wpAny_pure (wpAny_bind (collect_set (A := A.in1) hh ⟨ob, ho, hx.1, hd⟩ ft (by rw [setX_size pm]; exact hb) hr hl fun s1 vs k1 hz g1 o1 pv => ?_)))
  have hv : ∀ v ∈ vs, ∃ k u, v = Value.str k u := fun v hv => by
    obtain ⟨e, he, q⟩ := List.mem_map.mp (pv.mem_iff.mp hv)
    obtain ⟨k, u, e1, _⟩ := g e he
    exact ⟨k, u, by rw [← q]; exact e1⟩
  obtain ⟨ks0, S0, ek⟩ := strs_of_vals vs hv
  have pk : ks0.Perm l := by
    rw [ek]
    have q := pv.map (fun v => keyX (0, v))
    rw [List.map_map] at q
    exact q.trans pm
  have hvl : vs.length = l.length := by rw [← pk.length_eq, ek, List.length_map]
  refine wpAny_bind (wpAny_newList ?_ (by rw [hvl, sizeLine_eq]; omega))
  have hoL : (s1.heap.push (seqObj "list" vs.toArray 0)).get? s1.heap.objs.size = some (seqObj "list" vs.toArray 0) := Heap.get?_push_size _ rfl
  refine wpAny_bind (wpAny_holding (wpAny_call_entry slot_list_sort ⟨_, hoL, rfl⟩ entry_list_sort (list_sort_treeK strKind_oneLt hoL S0.keysOf (fun v1 v2 rest e => keyKind_strs (by rw [← e]; exact S0)) (by rw [hvl]; exact h64) fun st hp hs => ⟨_, rfl, ?_⟩) (args_list_sort _)))
  obtain ⟨ks, h1, h2, h3⟩ := sorted_out_str S0 hp hs
  obtain ⟨c, hc⟩ := sortedHeap_at (vs := vs) (out := (arrOf st).map (·.2)) hoL
  refine wpAny_pure ⟨_, rfl, hQ _ s1.heap.objs.size _ c ks (fun b u e => ?_) g1 o1 hz hc h1 (h2.trans pk) h3⟩
  have q := k1 b u e
  have hlt := Heap.lt_size q
  show (sortedHeap (s1.heap.push (seqObj "list" vs.toArray 0)) s1.heap.objs.size vs _).get? b = some u
  rw [sortedHeap_old (Nat.ne_of_lt hlt) (by rw [size_push']; exact Nat.lt_succ_of_lt hlt)]
  exact Heap.get?_push_of_some _ q
end
/-! ### as tracked things -/
def SetXO (w : World) (a : Addr) (l : List Str) : HO := .ext fun h => SetX w h a l
theorem setXO_new {w : World} {P : Program} {H : Hp} {h : Heap} {a : Addr} {l : List Str} (R : SetX w h a l) : ObjOk P w H h a (SetXO w a l) := by
  have ⟨o, _, _, _, ho, _⟩ := R
  exact ⟨R, ⟨o, ho⟩, fun h1 h2 p k => setX_at p k⟩
section
variable {X : Cx} {pins : List (Addr × Obj)} {σ : L2.St} {H : Hp} {s : Shared} {a : Addr} {l : List Str}
theorem setXO_get (I : Inv X pins σ H s) (ha : H a = some (SetXO X.w a l)) : SetX X.w s.heap a l := (I.hok a _ ha).1
theorem addXO_ok {E : Value → Shared → Prop} {y : Str} {u : Value} {Q : Value → Shared → Prop} (I : Inv X pins σ H s) (ha : H a = some (SetXO X.w a l)) (room : l.length + 1 < scanBound) (r : RelV (.str y) u)
    (hQ : ∀ s', Inv X pins σ (upd H a (SetXO X.w a (addS l y))) s' → Q .none s') : wpAny (model X.prog X.w) X.A (call (.builtin "set.add") [.ref a, u]) Q E s := by
  obtain ⟨t, rfl⟩ := r
  refine addX (setXO_get I ha) room fun h' sb new => hQ _ ?_
  have he : ∃ u, h'.get? a = some u := by
    have ⟨o, _, _, _, ho, _⟩ := new
    exact ⟨o, ho⟩
  exact I.write (e := a) (t' := s.toks + 1) (by rw [ha]; trivial) (.inl rfl) (fun b u hb hu => (sb.2 b hb).trans hu) he (setXO_new new)
/-- sorted of it -/
def rSortX (w : World) : List V → Hp → VK → Prop := fun vs H Q => ∃ (a : Addr) (l : List Str), vs = [V.ref a] ∧ H a = some (SetXO w a l) ∧ l.length < 64 ∧ ∀ (ys : List Str) (p : Addr), ys.Perm l → sortedS ys = true → H p = none → Q (.ref p) (upd H p (.lst (ys.map V.str)))
theorem cr_sortX (hc : X.calm = true) : CallR X (.builtin "sorted") (rSortX X.w) := by
  intro pins s σ H vs us Q I r h
  obtain ⟨a, l, rfl, ha, h64, q⟩ := h
  rw [Vals.ref1 r]
  refine sortedX (setXO_get I ha) (I.ok.hd hc) h64 fun s' p out c ks k g o hp hg h1 h2 h3 => ?_
  have hlen : (ks.map V.str).length ≤ sizeLine := by rw [List.length_map, h2.length_eq, sizeLine_eq]; omega
  have hn : H p = none := I.hok.fresh hp
  have J : Inv X pins σ (upd H p (.lst (ks.map V.str))) { s with heap := s'.heap, gens := s'.gens, drawn := s'.drawn, toks := s'.toks } :=
    I.call (ch := []) (Un.laid k hp hn) (I.hok.laid k hp ⟨hlen, out.toList, c, vals_of_strs h1, hg⟩) (by rw [g]; exact I.bare) (fun _ z => nomatch z)
  have e : s' = { s with heap := s'.heap, gens := s'.gens, drawn := s'.drawn, toks := s'.toks } := by
    cases s
    cases s'
    cases o
    rfl
  rw [← e] at J
  exact ⟨.ref p, _, J, rfl, q ks p h2 h3 hn⟩
end
end NsT
namespace CgN
open PySem PySem.Spec PyProof.Rows L2 CpN NsT
/-- the value that a set gets -/
def actS (elt : Expr) (acc : Value) (env : Env) (k : Sem Fin) : Sem Fin := do
  let _ ← (do let v ← eval elt env; standAt elt.pos; let _ ← call (.builtin "set.add") [acc, v] : Sem Unit)
  k
def tEmS (w : World) (te : TE) (D : Addr) : TM := fun σ H Nx => te σ H fun y H1 => ∃ (k : Str) (l : List Str), y = .str k ∧ H1 D = some (SetXO w D l) ∧ l.length + 1 < scanBound ∧ Nx (upd H1 D (SetXO w D (addS l k)))
section
variable {X : Cx} {vs : List Nat} {elt : Expr} {D : Addr} {te : TE}
theorem pm_emitS (hx : X.xe = fun _ _ => False) (he : PE X elt te) : PM X vs (actS elt (.ref D) X.env) (tEmS X.w te D) := by
  refine ⟨fun k pins s σ H Nx Qf E I h hk => ?_⟩
  have h1 := he.run pins s σ H _ I h
  rw [hx] at h1
  unfold actS
  refine wpAny_bind (wpAny_bind (thnF h1 fun z s1 ⟨y, H1, I1, r1, key, l, ey, hD, hz, nx⟩ => wpAny_bind (wpAny_standAt (wpAny_bind ?_))))
  subst ey
  exact addXO_ok I1 hD hz r1 fun s2 I2 => wpAny_pure (hk σ _ s2 I2 rfl nx)
end
theorem eval_setComp {env : Env} (elt : Expr) (gens : List Comprehension) (scope : Scope) (pos : Pos) : eval (.SetComp elt gens scope pos) env = comprehension (.SetComp elt gens scope pos) scope env (firstIterPos gens pos) (newSet (.type "set")) (firstAsync gens) (firstIter gens env) := rfl
theorem newSet_at {P : Program} {w : World} {A : Around} {E : Value → Shared → Prop} {s : Shared} {Q : Value → Shared → Prop} (h : Q (.ref s.heap.objs.size) { s with heap := s.heap.push { cls := .type "set", dict := none, data := .set #[] 0 (.fresh 0 0 (!w.params.followText "set-order")) } }) : wpAny (model P w) A (newSet (.type "set")) Q E s := by
  unfold newSet
  refine wpAny_bind (wpAny_byText ?_)
  dsimp only [newObj]
  exact wpAny_bind (wpAny_alloc (wpAny_pure h))
theorem pe_scX {X : Cx} {elt tg i0 : Expr} {ifs : List Expr} {rest : List Comprehension} {scope : Scope} {own : List (Str × Nat)} {pos : Pos} {wi : TI} {g : TG} {tt : TT} {ta : Addr → TM} {act : Value → Env → Sem Fin → Sem Fin} (hc : X.calm = true) (hN : X.N.Nodup) (hi : PI X tg i0 wi) (ok : BlkOk X.N X.env.scope scope own)
    (ht : ∀ it D env, compTurn (.SetComp elt (⟨tg, i0, ifs, 0⟩ :: rest) scope pos) 0 it (.ref D) env = turnF tg i0 ifs (.compLoop (.SetComp elt (⟨tg, i0, ifs, 0⟩ :: rest) scope pos) 0 it (.ref D) env) it env (act (.ref D) env))
    (hg : ∀ (s : Shared) (H : Hp) (C : Addr) (cl : List (Str × Addr)) (fp : List Addr), PG (X.blk s H scope (compEnvC scope cl C X.env) fp) tg g) (htt : ∀ (s : Shared) (H : Hp) (C : Addr) (cl : List (Str × Addr)) (fp : List Addr), PTs (X.blk s H scope (compEnvC scope cl C X.env) fp) ifs tt)
    (ha : ∀ (s : Shared) (H : Hp) (C : Addr) (cl : List (Str × Addr)) (fp : List Addr) (D : Addr), PM (X.blk s H scope (compEnvC scope cl C X.env) fp) (own.map (·.2)) (act (.ref D) (compEnvC scope cl C X.env)) (ta D)) (hs : ∀ x, foldedSetIterable i0 X.env x = pure x := by intro _; rfl) :
    PE X (.SetComp elt (⟨tg, i0, ifs, 0⟩ :: rest) scope pos) (tCg (fun D => SetXO X.w D []) wi g tt ta (own.map (·.2))) := by
  refine ⟨fun pins s σ H Q I h => ?_⟩
  rw [eval_setComp]
  refine cg_core kd_set hc hN hi ok ht rfl (fun s Q E q => newSet_at q) rfl (fun H h D e => ?_) hg htt ha hs I h fun D C s' m H' I' q hm f => ⟨m, hm, fun h'' sb => ?_⟩
  · refine setXO_new ⟨_, #[], 0, _, e, ⟨rfl, rfl, rfl⟩, rfl, fun e he => (by simp at he), List.Perm.refl _, List.nodup_nil, by decide, by rfl, List.Pairwise.nil, ?_⟩
    show _ ∨ (!X.w.params.followText "set-order") = true
    cases X.w.params.followText "set-order" with
    | true => exact .inl rfl
    | false => exact .inr rfl
  · obtain ⟨p0, p1, p2, p3, p4, p5⟩ := f
    exact ⟨.ref D, H', I'.turned (t' := s'.toks) (fun b o hb z => (sb.2 b hb).trans z) p0 p1 p3 p4 p5, rfl, q⟩
end CgN
namespace LwB
open PySem PySem.Spec PyProof.Rows L2 IqX RvT EnS TL NsT CpN
variable [LwB.KC]
/-! ### comprehensions of several clauses, over trees -/
/-- so many trees more in the list at D -/
def tAp (N : Nat) (env : EnvT) (outs : List Tr) (D : Addr) : TM := fun σ H Nx => ∃ W acc, Vw W H ∧ Ev N env σ W ∧ W D = none ∧ H D = some (.lst acc) ∧ acc.length + outs.length ≤ 1000000 ∧
  ∀ H' vs, LwB.Fr D H H' → H' D = some (.lst (acc ++ vs)) → Paired (It (vw W H H')) outs vs → Nx H'
theorem PM.imp {X : Cx} {vs : List Nat} {act : Sem Fin → Sem Fin} {t t' : TM} (h : PM X vs act t) (i : ∀ σ H Nx, t' σ H Nx → t σ H Nx) : PM X vs act t' := ⟨fun k pins s σ H Nx Qf E I q hk => h.run k pins s σ H Nx Qf E I (i _ _ _ q) hk⟩
theorem PM.sub {X : Cx} {us vs : List Nat} {act : Sem Fin → Sem Fin} {t : TM} (h : PM X us act t) (hs : ∀ i ∈ us, i ∈ vs) : PM X vs act t := ⟨fun k pins s σ H Nx Qf E I q hk => h.run k pins s σ H Nx Qf E I q fun σ' H' s' I' hw => hk σ' H' s' I' (wipe_sub hw hs)⟩
/-- one of many -/
theorem PM.fam {X : Cx} {vs : List Nat} {act : Sem Fin → Sem Fin} {Pr : Tr → Prop} {t : Tr → TM} (h : ∀ T, Pr T → PM X vs act (t T)) : PM X vs act (fun σ H Nx => ∃ T, Pr T ∧ t T σ H Nx) := ⟨fun k pins s σ H Nx Qf E I ⟨T, p, q⟩ hk => (h T p).run k pins s σ H Nx Qf E I q hk⟩
theorem gen_seq {K : PySem.W.Frag} {b : Bool} {a : Addr} {xs : List V} {g : TG} {tt : TT} {ta : TM} {vs : List Nat} {σ : L2.St} {H1 : Hp} {Nx : Hp → Prop} (Pv : Nat → Hp → Prop) (h0 : Pv 0 H1) (hl : ∀ i H, i ≤ xs.length → Pv i H → SqB K b H a xs)
    (hs : ∀ i x H, xs[i]? = some x → Pv i H → g x (wipe σ vs) H fun σ2 H2 => wipe σ2 vs = wipe σ vs ∧ tt σ2 H2 fun c H3 => if c = true then ta σ2 H3 (Pv (i + 1)) else Pv (i + 1) H3) (hd : ∀ H, Pv xs.length H → Nx H) :
    ∃ W : Nat → Nat → Hp → Prop, (∃ m, W 0 m H1) ∧ ∀ j k H, W j k H → ((if b = true then Itl K a else Itt K a).stop j H ∧ Nx H) ∨ ((if b = true then Itl K a else Itt K a).go j H ∧ ∃ Nx1 : Hp → Prop, (∀ H', Nx1 H' → ∃ k', k' < k ∧ W (j + 1) k' H') ∧
      ∀ x H', (if b = true then Itl K a else Itt K a).yld j H x H' → g x (wipe σ vs) H' fun σ2 H2 => wipe σ2 vs = wipe σ vs ∧ tt σ2 H2 fun c H3 => if c = true then ta σ2 H3 Nx1 else Nx1 H3) := by
  have h := for_seq (K := K) (b := b) (a := a) (xs := xs) (g := fun x _ H Q => g x (wipe σ vs) H fun σ2 H2 => wipe σ2 vs = wipe σ vs ∧ tt σ2 H2 fun c H3 => if c = true then ta σ2 H3 (fun H' => Q σ H') else Q σ H3) (tb := fun D σ H => D.nx σ H)
    (D := { nx := fun _ H => Nx H, rt := fun _ _ => False }) (σ := σ) (H := H1) (fun i _ H => Pv i H) h0 (fun i _ H hi p => hl i H hi p) (fun i x _ H hx p => hs i x H hx p) (fun _ H p => hd H p)
  obtain ⟨W, ⟨m, hm⟩, st⟩ := h
  refine ⟨fun j k H => W j k σ H, ⟨m, hm⟩, fun j k H w => ?_⟩
  rcases st j k σ H w with h1 | ⟨h1, N, h2, h3⟩
  · exact .inl h1
  · exact .inr ⟨h1, fun H' => N σ H', fun H' n => h2 σ H' n, fun x H' y => h3 x H' y⟩
/-- what a clause's turn may do: its tree, its test, what follows -/
theorem ap_loop {K : PySem.W.Frag} {t : Bool} {a : Addr} {xs : List V} {ts : List Tr} {k N : Nat} {env : EnvT} {Pr : Tr → Prop} {c : Tr → Bool} {outs : Tr → List Tr} {D : Addr} {σ : L2.St} {H1 W1 : Hp} {acc : List V} {tt : TT} {vs : List Nat} {Nx : Hp → Prop}
    (x1 : Vw W1 H1) (ev : Ev N env σ W1) (wD : W1 D = none) (eD : H1 D = some (.lst acc)) (hl : acc.length + ((ts.filter c).flatMap outs).length ≤ 1000000) (hs : Sq t W1 a xs) (pr : Paired (It W1) ts xs) (hP : ∀ T ∈ ts, Pr T) (hk : k < N) (hkv : k ∈ vs) (hne : ∀ p ∈ env, p.1 ∉ vs)
    (htt : ∀ σ H T (Kb : Bool → Hp → Prop) W, Pr T → Vw W H → Ev N ((k, T) :: env) σ W → (∀ H', Same H H' → Kb (c T) H') → tt σ H Kb)
    (q : ∀ H' vs, LwB.Fr D H1 H' → H' D = some (.lst (acc ++ vs)) → Paired (It (vw W1 H1 H')) ((ts.filter c).flatMap outs) vs → Nx H') :
    ∃ W : Nat → Nat → Hp → Prop, (∃ m, W 0 m H1) ∧ ∀ j k1 H, W j k1 H → ((if t = true then Itl K a else Itt K a).stop j H ∧ Nx H) ∨ ((if t = true then Itl K a else Itt K a).go j H ∧ ∃ Nx1 : Hp → Prop, (∀ H', Nx1 H' → ∃ k', k' < k1 ∧ W (j + 1) k' H') ∧
      ∀ x H', (if t = true then Itl K a else Itt K a).yld j H x H' → gName k x (wipe σ vs) H' fun σ2 H2 => wipe σ2 vs = wipe σ vs ∧ tt σ2 H2 fun b H3 => if b = true then (fun σ H Nx => ∃ T, Pr T ∧ tAp N ((k, T) :: env) (outs T) D σ H Nx) σ2 H3 Nx1 else Nx1 H3) := by
  have neD : ∀ b o, W1 b = some o → b ≠ D := fun b o h e => by
    rw [e, wD] at h
    cases h
  have hmono : ∀ {H'}, LwB.Fr D H1 H' → Same W1 (vw W1 H1 H') := fun {H'} f => vw_keep x1
  have hV : ∀ {H' ys}, LwB.Fr D H1 H' → H' D = some (.lst ys) → Vw (vw W1 H1 H') H' := fun {H' ys} f e => by
    refine ⟨fun b o h => ?_, fun b o h => ?_, x1.good.drawn f eD⟩
    · rcases dom_cases H1 b with z | ⟨u, z⟩
      · rw [vw_new z] at h
        exact h
      · rw [vw_old z] at h
        exact f b o (x1.sub b o h) (neD b o h)
    · rcases dom_cases H1 b with z | ⟨u, z⟩
      · rw [vw_new z]
        exact .inl h
      · by_cases hb : b = D
        · subst hb
          rw [e] at h
          cases h
          exact .inr ⟨ys, rfl⟩
        · have := f b u z hb
          rw [h] at this
          cases this
          rw [vw_old z]
          exact x1.all b o z
  have hvw : ∀ {H' H''}, LwB.Fr D H1 H' → LwB.Fr D H' H'' → (∃ ys, H' D = some (.lst ys)) → vw (vw W1 H1 H') H' H'' = vw W1 H1 H'' := fun {H' H''} f f' ⟨ys, e⟩ => funext fun b => by
    rcases dom_cases H1 b with z | ⟨u, z⟩
    · rw [vw_new z]
      rcases dom_cases H' b with z' | ⟨u', z'⟩
      · rw [vw_new z']
      · rw [vw_old z', vw_new z]
        have hb : b ≠ D := fun hb => by
          rw [hb, eD] at z
          cases z
        rw [z', f' b u' z' hb]
    · rw [vw_old z]
      by_cases hb : b = D
      · rw [vw_old (o := .lst ys) (by rw [hb]; exact e), vw_old z]
      · rw [vw_old (f b u z hb), vw_old z]
  have hkeep : ∀ {H' H''}, LwB.Fr D H1 H' → LwB.Fr D H' H'' → (∃ ys, H' D = some (.lst ys)) → Same (vw W1 H1 H') (vw W1 H1 H'') := fun {H' H''} f f' e b o h => by
    rw [← hvw f f' e]
    obtain ⟨ys, e'⟩ := e
    exact vw_keep (hV f e') b o h
  have hlen := paired_len pr
  refine gen_seq (K := K) (b := t) (a := a) (xs := xs) (fun j H => ∃ ws, LwB.Fr D H1 H ∧ H D = some (.lst (acc ++ ws)) ∧ Paired (It (vw W1 H1 H)) (((ts.take j).filter c).flatMap outs) ws) ⟨[], Fr.refl D H1, by rw [List.append_nil]; exact eD, .nil⟩
    (fun j H _ ⟨ws, f, e, p⟩ => (hs.mv fun o h => (hV f e).sub a o (hmono f a o h)).B) ?_ ?_
  · rintro j x H hx ⟨ws, f, e, p⟩
    obtain ⟨T, hT, iT⟩ := paired_get pr hx
    have V := hV f e
    have hp := hP T (List.mem_of_getElem? hT)
    have etk : ts.take (j + 1) = ts.take j ++ [T] := by
      obtain ⟨hj, eT⟩ := List.getElem?_eq_some_iff.mp hT
      rw [List.take_succ_eq_append_getElem hj, eT]
    have evk : Ev N ((k, T) :: env) ((wipe σ vs).set k (some x)) (vw W1 H1 H) := by
      have h1 : Ev N env (wipe σ vs) (vw W1 H1 H) := by
        refine ⟨by rw [wipe_length]; exact ev.1, fun r hr => ?_⟩
        obtain ⟨v, ev1, iv⟩ := ev.2 r hr
        exact ⟨v, by rw [wipe_out (hne r hr)]; exact ev1, iv.mv (hmono f)⟩
      exact h1.set hk (fun r hr e => hne r hr (by rw [e]; exact hkv)) (iT.mv (hmono f))
    refine ⟨?_, htt _ H T _ _ hp V evk fun H3 s3 => ?_⟩
    · refine wipe_ext (by show ((wipe σ vs).set k (some x)).length = _; rw [List.length_set, wipe_length]) fun i hi => ?_
      show ((wipe σ vs).set k (some x))[i]? = _
      rw [List.getElem?_set_ne (fun e => hi (by rw [← e]; exact hkv)), wipe_out hi]
    · have e3 := s3 _ _ e
      have f3 : LwB.Fr D H H3 := Fr.same s3
      have f13 : LwB.Fr D H1 H3 := f.trans f3
      have p3 : Paired (It (vw W1 H1 H3)) (((ts.take j).filter c).flatMap outs) ws := paired_imp p fun _ _ r => r.mv (hkeep f f3 ⟨_, e⟩)
      rw [etk, List.filter_append, List.flatMap_append]
      by_cases hc : c T = true
      · rw [hc]
        have el : [T].filter c = [T] := by simp [hc]
        rw [el]
        refine iteT ⟨T, hp, vw W1 H1 H3, acc ++ ws, hV f13 e3, evk.mv (hkeep f f3 ⟨_, e⟩), by rw [vw_old eD]; exact wD, e3, ?_, fun H' us f' e' p' => ?_⟩
        · have hw := paired_len p3
          have hle : (((ts.take j).filter c).flatMap outs).length + (outs T).length ≤ ((ts.filter c).flatMap outs).length := by
            have hsub : (((ts.take (j + 1)).filter c).flatMap outs).length ≤ ((ts.filter c).flatMap outs).length := by
              have : (ts.filter c).flatMap outs = ((ts.take (j + 1)).filter c).flatMap outs ++ ((ts.drop (j + 1)).filter c).flatMap outs := by
                rw [← List.flatMap_append, ← List.filter_append, List.take_append_drop]
              rw [this, List.length_append]
              omega
            rw [etk, List.filter_append, List.flatMap_append, el, List.length_append] at hsub
            simpa using hsub
          rw [List.length_append]
          omega
        · refine ⟨ws ++ us, f13.trans f', by rw [e', List.append_assoc], ?_⟩
          have e1 : [T].flatMap outs = outs T := by simp
          rw [e1]
          refine paired_append (paired_imp p3 fun _ _ r => r.mv (hkeep f13 f' ⟨_, e3⟩)) ?_
          rw [hvw f13 f' ⟨_, e3⟩] at p'
          exact p'
      · have hc' : c T = false := by simpa using hc
        rw [hc']
        have el : [T].filter c = [] := by simp [hc]
        rw [el]
        refine iteF ⟨ws, f13, e3, ?_⟩
        rw [List.flatMap_nil, List.append_nil]
        exact p3
  · rintro H ⟨ws, f, e, p⟩
    rw [← hlen, List.take_length] at p
    exact q H ws f e p
end LwB
namespace LwB
open PySem PySem.Spec PyProof.Rows L2 IqX RvT EnS TL NsT CpN
variable [LwB.KC]
def memN (i : Nat) : List Nat → Bool
  | [] => false
  | v :: vs => match Nat.beq v i with
    | true => true
    | false => memN i vs
theorem memN_of : ∀ {vs : List Nat} {i : Nat}, i ∈ vs → memN i vs = true
  | v :: vs, i, h => by
    unfold memN
    split
    · rfl
    · rename_i e
      rcases List.mem_cons.mp h with e2 | h
      · exact absurd e2.symm (Nat.ne_of_beq_eq_false e)
      · exact memN_of h
theorem memN_mem : ∀ {vs : List Nat} {i : Nat}, memN i vs = true → i ∈ vs
  | v :: vs, i, h => by
    unfold memN at h
    split at h
    · rename_i e
      rw [Nat.eq_of_beq_eq_true e]
      exact .head _
    · exact .tail _ (memN_mem h)
def freeE (vs : List Nat) : EnvT → Bool
  | [] => true
  | p :: r => match memN p.1 vs with
    | true => false
    | false => freeE vs r
theorem freeE_ne : ∀ {env : EnvT} {vs : List Nat}, freeE vs env = true → ∀ p ∈ env, p.1 ∉ vs
  | q :: r, vs, h, p, hp => by
    unfold freeE at h
    split at h
    · cases h
    · rename_i e
      rcases List.mem_cons.mp hp with rfl | hp
      · exact fun z => by rw [memN_of z] at e; cases e
      · exact freeE_ne h p hp
def delL : List Nat → EnvT → EnvT
  | [], env => env
  | v :: vs, env => del v (delL vs env)
theorem delL_sub : ∀ {vs : List Nat} {env : EnvT} {p : Nat × Tr}, p ∈ delL vs env → p ∈ env
  | [], _, _, h => h
  | v :: vs, env, p, h => delL_sub (vs := vs) (del_sub (show p ∈ del v (delL vs env) from h))
theorem delL_ne : ∀ {vs : List Nat} {env : EnvT} {p : Nat × Tr}, p ∈ delL vs env → p.1 ∉ vs
  | [], _, _, _ => fun h => by cases h
  | v :: vs, env, p, h => fun z => by
    have h' : p ∈ del v (delL vs env) := h
    rcases List.mem_cons.mp z with e | z
    · exact del_ne h' e
    · exact delL_ne (vs := vs) (del_sub h') z
section
variable {X : Cx} {N : Nat} {env : EnvT} {vs : List Nat} {elt i1 : Expr} {gens rest : List Comprehension} {scope : Scope} {pos tp : Pos} {d k : Nat} {y : Str} {ifs : List Expr} {D : Addr} {t : Bool} {ts : List Tr} {act : Sem Fin → Sem Fin} {us : List Nat}
theorem ap_emit {T : Tr} (he : PE X elt (tLe N env T)) (hx : X.xe = fun _ _ => False := by rfl) : PM X vs (actL elt (.ref D) X.env) (tAp N env [T] D) :=
  PM.imp (pm_emit hx he) fun σ H Nx ⟨W, acc, x, ev, wD, eD, hl, q⟩ => ⟨W, x, ev, fun H1 v s1 i1 => by
    have e1 := s1 _ _ eD
    refine ⟨acc, e1, Nat.lt_of_lt_of_le (by simp at hl; omega : acc.length < 1000000) (by decide), q _ [v] (Fr.trans (Fr.same s1) Fr.put) upd_same (.cons (i1.mv fun b o h => ?_) .nil)⟩
    rcases dom_cases H b with z | ⟨u, z⟩
    · rw [vw_new z] at h ⊢
      rw [upd_ne fun hb => by rw [hb, eD] at z; cases z]
      exact h
    · rw [vw_old z] at h ⊢
      exact h⟩
/-- tests of a clause: none, or one -/
inductive Ts1 (N k : Nat) (env : EnvT) (Pr : Tr → Prop) (c : Tr → Bool) : Cx → List Expr → Prop where
  | no {X : Cx} : (∀ T, c T = true) → Ts1 N k env Pr c X []
  | one {X : Cx} {e : Expr} : (∀ T, Pr T → PT X e (tKn N ((k, T) :: env) (c T))) → Ts1 N k env Pr c X [e]
def tTs (N k : Nat) (env : EnvT) (Pr : Tr → Prop) (c : Tr → Bool) : List Expr → TT
  | [] => tYes
  | _ => tFamT N k env Pr c
theorem Ts1.pts {Pr : Tr → Prop} {c : Tr → Bool} (h : Ts1 N k env Pr c X ifs) : PTs X ifs (tTs N k env Pr c ifs) := by
  cases h with
  | no _ => exact pts_nil
  | one h => exact pts_one (kn_fam h)
theorem tTs_ok {Pr : Tr → Prop} {c : Tr → Bool} (h : (ifs = [] ∧ ∀ T, c T = true) ∨ ∃ e, ifs = [e]) : ∀ σ H T (Kb : Bool → Hp → Prop) W, Pr T → Vw W H → Ev N ((k, T) :: env) σ W → (∀ H', Same H H' → Kb (c T) H') → tTs N k env Pr c ifs σ H Kb := by
  intro σ H T Kb W p x ev q
  rcases h with ⟨rfl, hc⟩ | ⟨e, rfl⟩
  · have := q H (Same.refl H)
    rw [hc T] at this
    exact this
  · exact ⟨W, T, p, x, ev, q⟩
theorem Ts1.tt {Pr : Tr → Prop} {c : Tr → Bool} (h : Ts1 N k env Pr c X ifs) : ∀ σ H T (Kb : Bool → Hp → Prop) W, Pr T → Vw W H → Ev N ((k, T) :: env) σ W → (∀ H', Same H H' → Kb (c T) H') → tTs N k env Pr c ifs σ H Kb := by
  intro σ H T Kb W p x ev q
  cases h with
  | no hc =>
    have := q H (Same.refl H)
    rw [hc T] at this
    exact this
  | one h => exact ⟨W, T, p, x, ev, q⟩
/-- a further clause -/
theorem ap_gen (Pr : Tr → Prop) (c : Tr → Bool) (outs : Tr → List Tr) (hit : PE X i1 (tLe N env (.sq t ts))) (hg : PG X (.Name y tp) (gName k)) (htt : Ts1 N k env Pr c X ifs) (hP : ∀ T ∈ ts, Pr T) (hact : ∀ T, Pr T → PM X us act (tAp N ((k, T) :: env) (outs T) D))
    (hc : X.calm = true := by rfl) (hx : X.xe = fun _ _ => False := by rfl) (hk : k < N := by decide) (hne : freeE (k :: us) env = true := by rfl)
    (ht : ∀ it, compTurn (.ListComp elt gens scope pos) d it (.ref D) X.env = turnF (.Name y tp) i1 ifs (.compLoop (.ListComp elt gens scope pos) d it (.ref D) X.env) it X.env act := by intro _; rfl)
    (ha : ((clausesOf (.ListComp elt gens scope pos))[d]?).elim false (·.is_async != 0) = false := by rfl) (hs : ∀ x, foldedSetIterable i1 X.env x = pure x := by intro _; rfl) :
    PM X (k :: us) (actG (.ListComp elt gens scope pos) d i1 (.ref D) X.env) (tAp N env ((ts.filter c).flatMap outs) D) :=
  PM.imp (pm_gen (vs := k :: us) (us := us) hx hc ht ha (pi_seq hit) hg htt.pts (PM.fam hact) (fun _ h => .tail _ h) hs) fun σ H Nx ⟨W, acc, x, ev, wD, eD, hl, q⟩ => ⟨W, x, ev, fun H1 v s1 i1 => by
    obtain ⟨a, xs, rfl, hs, la, pr⟩ := i1.sq_inv
    have x1 := x.next s1
    refine ⟨t, a, rfl, ⟨xs, (hs.1.mv fun o e => x1.sub a o e).B⟩, ?_⟩
    refine ap_loop x1 (ev.mv (vw_keep x)) (by rw [vw_old eD]; exact wD) (s1 _ _ eD) hl hs.1 pr hP hk (.head _) (freeE_ne hne) htt.tt fun H' ws f e p => q H' ws (Fr.trans (Fr.same s1) f) e ?_
    have ev2 : vw (vw W H H1) H1 H' = vw W H H' := funext fun b => by
      rcases dom_cases H b with z | ⟨u, z⟩
      · rw [vw_new z]
        rcases dom_cases H1 b with z' | ⟨u', z'⟩
        · rw [vw_new z']
        · rw [vw_old z', vw_new z]
          have hb : b ≠ D := fun hb => by
            rw [hb, eD] at z
            cases z
          rw [z', f b u' z' hb]
      · rw [vw_old z, vw_old (s1 b u z), vw_old z]
    rw [ev2] at p
    exact p⟩
theorem lfN_core {K : PySem.W.Frag} {vs : List Nat} (Pr : Tr → Prop) (c : Tr → Bool) (outs : Tr → List Tr) {tt : TT} (hP : ∀ T ∈ ts, Pr T) (hlen : ((ts.filter c).flatMap outs).length ≤ 1000000) (hk : k < N) (hkv : memN k vs = true)
    (htt : ∀ σ H T (Kb : Bool → Hp → Prop) W, Pr T → Vw W H → Ev N ((k, T) :: delL vs env) σ W → (∀ H', Same H H' → Kb (c T) H') → tt σ H Kb) {σ : L2.St} {H : Hp} {Q : VK} (h : tLf N env ((ts.filter c).flatMap outs) σ H Q) :
    tLcN (iSeq K (tLe N env (.sq t ts))) (gName k) tt (fun D σ H Nx => ∃ T, Pr T ∧ tAp N ((k, T) :: delL vs env) (outs T) D σ H Nx) vs σ H Q := by
  obtain ⟨W, x, ev, q⟩ := h
  refine ⟨W, x, ev, fun H1 v s1 i1 => ?_⟩
  obtain ⟨a, xs, rfl, hs, la, pr⟩ := i1.sq_inv
  have x1 := x.next s1
  refine ⟨t, a, rfl, ⟨xs, (hs.1.mv fun o e => x1.sub a o e).B⟩, fun D nD => ?_⟩
  have sD := same_new (o := HO.lst []) nD
  have nDH : H D = none := s1.free nD
  have wD : vw W H H1 D = none := x1.off nD
  have x2 : Vw (vw W H H1) (upd H1 D (.lst [])) := by
    refine ⟨fun b o h => sD b o (x1.sub b o h), fun b o h => ?_, x1.good.mv sD⟩
    by_cases hb : b = D
    · subst hb
      rw [upd_same] at h
      cases h
      exact .inr ⟨[], rfl⟩
    · rw [upd_ne hb] at h
      exact x1.all b o h
  refine ap_loop (acc := []) x2 ((ev.sub fun _ h => delL_sub h).mv (vw_keep x)) wD upd_same (by simpa using hlen) hs.1 pr hP hk (memN_mem hkv) (fun _ h => delL_ne h) htt fun H' ws f e p => ?_
  have fs : Same H1 H' := fun b o z => f b o (sD b o z) (fun hb => by rw [hb, nD] at z; cases z)
  have hwl := paired_len p
  refine q H' D ws (s1.trans fs) nDH (by simpa using e) (by omega) (paired_imp p fun _ _ r => r.mv fun b o h => ?_)
  have hbD : b ≠ D := fun hb => by
    rw [hb, vw_old (o := .lst []) upd_same, wD] at h
    cases h
  rw [rm_ne hbD, ← vw_trans s1 fs]
  rcases dom_cases H1 b with z | ⟨u, z⟩
  · rw [vw_new (by rw [upd_ne hbD]; exact z)] at h
    rw [vw_new z]
    exact h
  · rw [vw_old (o := u) (by rw [upd_ne hbD]; exact z)] at h
    rw [vw_old z]
    exact h
/-- the list comprehension itself -/
theorem lf_N {acts : Value → Env → Sem Fin → Sem Fin} {i0 : Expr} (own : List (Str × Nat)) (Pr : Tr → Prop) (c : Tr → Bool) (outs : Tr → List Tr) (hc : X.calm = true) (hN : X.N.Nodup) (hit : PE X i0 (tLe N env (.sq t ts))) (ok : BlkOk X.N X.env.scope scope own)
    (hg : ∀ (s : Shared) (H : Hp) (C : Addr) (cl : List (Str × Addr)) (fp : List Addr), PG (X.blk s H scope (compEnvC scope cl C X.env) fp) (.Name y tp) (gName k))
    (htt : ∀ (s : Shared) (H : Hp) (C : Addr) (cl : List (Str × Addr)) (fp : List Addr), Ts1 N k (delL (own.map (·.2)) env) Pr c (X.blk s H scope (compEnvC scope cl C X.env) fp) ifs) (hP : ∀ T ∈ ts, Pr T)
    (hact : ∀ (s : Shared) (H : Hp) (C : Addr) (cl : List (Str × Addr)) (fp : List Addr) (D : Addr) T, Pr T → PM (X.blk s H scope (compEnvC scope cl C X.env) fp) (own.map (·.2)) (acts (.ref D) (compEnvC scope cl C X.env)) (tAp N ((k, T) :: delL (own.map (·.2)) env) (outs T) D))
    (hlen : ((ts.filter c).flatMap outs).length ≤ 1000000) (hifs : (ifs = [] ∧ ∀ T, c T = true) ∨ ∃ e, ifs = [e] := by first | exact .inl ⟨rfl, fun _ => rfl⟩ | exact .inr ⟨_, rfl⟩) (hk : k < N := by decide) (hkv : memN k (own.map (·.2)) = true := by rfl)
    (ht : ∀ it D env, compTurn (.ListComp elt (⟨.Name y tp, i0, ifs, 0⟩ :: rest) scope pos) 0 it (.ref D) env = turnF (.Name y tp) i0 ifs (.compLoop (.ListComp elt (⟨.Name y tp, i0, ifs, 0⟩ :: rest) scope pos) 0 it (.ref D) env) it env (acts (.ref D) env) := by intro _ _ _; rfl)
    (hs : ∀ x, foldedSetIterable i0 X.env x = pure x := by intro _; rfl) :
    PE X (.ListComp elt (⟨.Name y tp, i0, ifs, 0⟩ :: rest) scope pos) (tLf N env ((ts.filter c).flatMap outs)) :=
  PE.imp (pe_lcN hc hN (pi_seq hit) ok ht hg (fun s H C cl fp => (htt s H C cl fp).pts) (fun s H C cl fp D => PM.fam (hact s H C cl fp D)) hs) fun σ H Q h => lfN_core (K := X.K) Pr c outs hP hlen hk hkv (tTs_ok hifs) h
/-- name = a list comprehension, on one line: a list that changes no more -/
theorem s_lcN {o : Oc} {ow : OwnT} {after : List Stmt} {i : Nat} {z : Str} {py spos : Pos} {acts : Value → Env → Sem Fin → Sem Fin} {i0 : Expr} (own : List (Str × Nat)) (Pr : Tr → Prop) (c : Tr → Bool) (outs : Tr → List Tr) (hc : X.calm = true) (hN : X.N.Nodup) (hz : X.N[i]? = some z) (hzl : X.env.scope.names.lookup z = some .local) (hsw : swapsWith (.ListComp elt (⟨.Name y tp, i0, ifs, 0⟩ :: rest) scope pos) (some (.Name z py)) spos.line X.env = pure true) (hit : PE X i0 (tLe N env (.sq t ts))) (ok : BlkOk X.N X.env.scope scope own)
    (hg : ∀ (s : Shared) (H : Hp) (C : Addr) (cl : List (Str × Addr)) (fp : List Addr), PG (X.blk s H scope (compEnvC scope cl C X.env) fp) (.Name y tp) (gName k))
    (htt : ∀ (s : Shared) (H : Hp) (C : Addr) (cl : List (Str × Addr)) (fp : List Addr), Ts1 N k (delL (own.map (·.2)) env) Pr c (X.blk s H scope (compEnvC scope cl C X.env) fp) ifs) (hP : ∀ T ∈ ts, Pr T)
    (hact : ∀ (s : Shared) (H : Hp) (C : Addr) (cl : List (Str × Addr)) (fp : List Addr) (D : Addr) T, Pr T → PM (X.blk s H scope (compEnvC scope cl C X.env) fp) (own.map (·.2)) (acts (.ref D) (compEnvC scope cl C X.env)) (tAp N ((k, T) :: delL (own.map (·.2)) env) (outs T) D))
    (hrest : PSs X after (tS N ((i, .sq true ((ts.filter c).flatMap outs)) :: del i env) ow o)) (hlen : ((ts.filter c).flatMap outs).length ≤ 1000000) (hifs : (ifs = [] ∧ ∀ T, c T = true) ∨ ∃ e, ifs = [e] := by first | exact .inl ⟨rfl, fun _ => rfl⟩ | exact .inr ⟨_, rfl⟩) (hk : k < N := by decide) (hkv : memN k (own.map (·.2)) = true := by rfl)
    (ht : ∀ it D env, compTurn (.ListComp elt (⟨.Name y tp, i0, ifs, 0⟩ :: rest) scope pos) 0 it (.ref D) env = turnF (.Name y tp) i0 ifs (.compLoop (.ListComp elt (⟨.Name y tp, i0, ifs, 0⟩ :: rest) scope pos) 0 it (.ref D) env) it env (acts (.ref D) env) := by intro _ _ _; rfl)
    (hs : ∀ x, foldedSetIterable i0 X.env x = pure x := by intro _; rfl) (hiN : i < N := by decide) (hf : freeO i ow = true := by rfl) :
    PSs X (.Assign [.Name z py] (.ListComp elt (⟨.Name y tp, i0, ifs, 0⟩ :: rest) scope pos) spos :: after) (tS N env ow o) :=
  PSs.imp (pss_cons (ps_lcN (i := i) hc hN hz hzl hsw (pi_seq hit) ok ht hg (fun s H C cl fp => (htt s H C cl fp).pts) (fun s H C cl fp D => PM.fam (hact s H C cl fp D)) hs) hrest) fun D σ H ⟨W, S, q⟩ => lfN_core (K := X.K) (t := t) (Q := fun x H1 => tS N ((i, .sq true ((ts.filter c).flatMap outs)) :: del i env) ow o D (σ.set i (some x)) H1) Pr c outs hP hlen hk hkv (tTs_ok hifs) ⟨W, S.vw, S.ev, fun H1 g vs s1 ng eg hl p => by
    have e1 : LwB.vw W H H1 g = some (.lst vs) := by rw [vw_new ng]; exact eg
    exact ⟨_, (S.step s1).set hiN hf (It.sq (.lst e1) hl (paired_imp p fun _ _ r => r.mv fun a o e => rm_sub e)), q.mono S.keep⟩⟩
end
end LwB
namespace LwB
open PySem PySem.Spec PyProof.Rows L2 IqX RvT EnS TL NsT CpN
variable [LwB.KC]
section
variable {X : Cx} {N : Nat} {env : EnvT} {elt i0 : Expr} {rest : List Comprehension} {scope : Scope} {pos tp : Pos} {k : Nat} {y : Str} {ifs : List Expr} {t : Bool} {ts : List Tr}
/-- name = [elt for y in iter if ..], on one line -/
theorem s_lc1 {o : Oc} {ow : OwnT} {after : List Stmt} {i : Nat} {z : Str} {py spos : Pos} (own : List (Str × Nat)) (Pr : Tr → Prop) (c : Tr → Bool) (F : Tr → Tr) (hc : X.calm = true) (hN : X.N.Nodup) (hz : X.N[i]? = some z) (hzl : X.env.scope.names.lookup z = some .local) (hsw : swapsWith (.ListComp elt (⟨.Name y tp, i0, ifs, 0⟩ :: []) scope pos) (some (.Name z py)) spos.line X.env = pure true) (hit : PE X i0 (tLe N env (.sq t ts))) (ok : BlkOk X.N X.env.scope scope own)
    (hg : ∀ (s : Shared) (H : Hp) (C : Addr) (cl : List (Str × Addr)) (fp : List Addr), PG (X.blk s H scope (compEnvC scope cl C X.env) fp) (.Name y tp) (gName k))
    (htt : ∀ (s : Shared) (H : Hp) (C : Addr) (cl : List (Str × Addr)) (fp : List Addr), Ts1 N k (delL (own.map (·.2)) env) Pr c (X.blk s H scope (compEnvC scope cl C X.env) fp) ifs) (hP : ∀ T ∈ ts, Pr T)
    (he : ∀ (s : Shared) (H : Hp) (C : Addr) (cl : List (Str × Addr)) (fp : List Addr) T, Pr T → PE (X.blk s H scope (compEnvC scope cl C X.env) fp) elt (tLe N ((k, T) :: delL (own.map (·.2)) env) (F T)))
    (hrest : PSs X after (tS N ((i, .sq true ((ts.filter c).map F)) :: del i env) ow o)) (hlen : ts.length ≤ 1000000) (hifs : (ifs = [] ∧ ∀ T, c T = true) ∨ ∃ e, ifs = [e] := by first | exact .inl ⟨rfl, fun _ => rfl⟩ | exact .inr ⟨_, rfl⟩) (hk : k < N := by decide) (hkv : memN k (own.map (·.2)) = true := by rfl)
    (hs : ∀ x, foldedSetIterable i0 X.env x = pure x := by intro _; rfl) (hiN : i < N := by decide) (hf : freeO i ow = true := by rfl) :
    PSs X (.Assign [.Name z py] (.ListComp elt (⟨.Name y tp, i0, ifs, 0⟩ :: []) scope pos) spos :: after) (tS N env ow o) := by
  have e : (ts.filter c).map F = (ts.filter c).flatMap fun T => [F T] := by
    generalize ts.filter c = l
    induction l with
    | nil => rfl
    | cons a l ih => rw [List.map_cons, List.flatMap_cons, ih]; rfl
  rw [e] at hrest
  refine s_lcN (acts := fun acc env => actL elt acc env) own Pr c (fun T => [F T]) hc hN hz hzl hsw hit ok hg htt hP (fun s H C cl fp D T p => ap_emit (he s H C cl fp T p)) hrest ?_ hifs hk hkv (by intro _ _ _; rfl) hs hiN hf
  rw [← e, List.length_map]
  exact Nat.le_trans (List.length_filter_le _ _) hlen
/-- [elt for y in iter if .. for ..] -/
theorem lf_M {g1 : Comprehension} (own : List (Str × Nat)) (Pr : Tr → Prop) (c : Tr → Bool) (outs : Tr → List Tr) (hc : X.calm = true) (hN : X.N.Nodup) (hit : PE X i0 (tLe N env (.sq t ts))) (ok : BlkOk X.N X.env.scope scope own)
    (hg : ∀ (s : Shared) (H : Hp) (C : Addr) (cl : List (Str × Addr)) (fp : List Addr), PG (X.blk s H scope (compEnvC scope cl C X.env) fp) (.Name y tp) (gName k))
    (htt : ∀ (s : Shared) (H : Hp) (C : Addr) (cl : List (Str × Addr)) (fp : List Addr), Ts1 N k (delL (own.map (·.2)) env) Pr c (X.blk s H scope (compEnvC scope cl C X.env) fp) ifs) (hP : ∀ T ∈ ts, Pr T)
    (hact : ∀ (s : Shared) (H : Hp) (C : Addr) (cl : List (Str × Addr)) (fp : List Addr) (D : Addr) T, Pr T → PM (X.blk s H scope (compEnvC scope cl C X.env) fp) (own.map (·.2)) (actG (.ListComp elt (⟨.Name y tp, i0, ifs, 0⟩ :: g1 :: rest) scope pos) 1 g1.iter (.ref D) (compEnvC scope cl C X.env)) (tAp N ((k, T) :: delL (own.map (·.2)) env) (outs T) D))
    (hlen : ((ts.filter c).flatMap outs).length ≤ 1000000) (ht : ∀ it D env, compTurn (.ListComp elt (⟨.Name y tp, i0, ifs, 0⟩ :: g1 :: rest) scope pos) 0 it (.ref D) env = turnF (.Name y tp) i0 ifs (.compLoop (.ListComp elt (⟨.Name y tp, i0, ifs, 0⟩ :: g1 :: rest) scope pos) 0 it (.ref D) env) it env (actG (.ListComp elt (⟨.Name y tp, i0, ifs, 0⟩ :: g1 :: rest) scope pos) 1 g1.iter (.ref D) env) := by intro _ _ _; rfl)
    (hifs : (ifs = [] ∧ ∀ T, c T = true) ∨ ∃ e, ifs = [e] := by first | exact .inl ⟨rfl, fun _ => rfl⟩ | exact .inr ⟨_, rfl⟩) (hk : k < N := by decide) (hkv : memN k (own.map (·.2)) = true := by rfl) (hs : ∀ x, foldedSetIterable i0 X.env x = pure x := by intro _; rfl) :
    PE X (.ListComp elt (⟨.Name y tp, i0, ifs, 0⟩ :: g1 :: rest) scope pos) (tLf N env ((ts.filter c).flatMap outs)) :=
  lf_N (acts := fun acc env => actG (.ListComp elt (⟨.Name y tp, i0, ifs, 0⟩ :: g1 :: rest) scope pos) 1 g1.iter acc env) own Pr c outs hc hN hit ok hg htt hP hact hlen hifs hk hkv ht hs
theorem s_lcM {g1 : Comprehension} {o : Oc} {ow : OwnT} {after : List Stmt} {i : Nat} {z : Str} {py spos : Pos} (own : List (Str × Nat)) (Pr : Tr → Prop) (c : Tr → Bool) (outs : Tr → List Tr) (hc : X.calm = true) (hN : X.N.Nodup) (hz : X.N[i]? = some z) (hzl : X.env.scope.names.lookup z = some .local) (hsw : swapsWith (.ListComp elt (⟨.Name y tp, i0, ifs, 0⟩ :: g1 :: rest) scope pos) (some (.Name z py)) spos.line X.env = pure true) (hit : PE X i0 (tLe N env (.sq t ts))) (ok : BlkOk X.N X.env.scope scope own)
    (hg : ∀ (s : Shared) (H : Hp) (C : Addr) (cl : List (Str × Addr)) (fp : List Addr), PG (X.blk s H scope (compEnvC scope cl C X.env) fp) (.Name y tp) (gName k))
    (htt : ∀ (s : Shared) (H : Hp) (C : Addr) (cl : List (Str × Addr)) (fp : List Addr), Ts1 N k (delL (own.map (·.2)) env) Pr c (X.blk s H scope (compEnvC scope cl C X.env) fp) ifs) (hP : ∀ T ∈ ts, Pr T)
    (hact : ∀ (s : Shared) (H : Hp) (C : Addr) (cl : List (Str × Addr)) (fp : List Addr) (D : Addr) T, Pr T → PM (X.blk s H scope (compEnvC scope cl C X.env) fp) (own.map (·.2)) (actG (.ListComp elt (⟨.Name y tp, i0, ifs, 0⟩ :: g1 :: rest) scope pos) 1 g1.iter (.ref D) (compEnvC scope cl C X.env)) (tAp N ((k, T) :: delL (own.map (·.2)) env) (outs T) D))
    (hrest : PSs X after (tS N ((i, .sq true ((ts.filter c).flatMap outs)) :: del i env) ow o)) (hlen : ((ts.filter c).flatMap outs).length ≤ 1000000)
    (ht : ∀ it D env, compTurn (.ListComp elt (⟨.Name y tp, i0, ifs, 0⟩ :: g1 :: rest) scope pos) 0 it (.ref D) env = turnF (.Name y tp) i0 ifs (.compLoop (.ListComp elt (⟨.Name y tp, i0, ifs, 0⟩ :: g1 :: rest) scope pos) 0 it (.ref D) env) it env (actG (.ListComp elt (⟨.Name y tp, i0, ifs, 0⟩ :: g1 :: rest) scope pos) 1 g1.iter (.ref D) env) := by intro _ _ _; rfl)
    (hifs : (ifs = [] ∧ ∀ T, c T = true) ∨ ∃ e, ifs = [e] := by first | exact .inl ⟨rfl, fun _ => rfl⟩ | exact .inr ⟨_, rfl⟩) (hk : k < N := by decide) (hkv : memN k (own.map (·.2)) = true := by rfl) (hs : ∀ x, foldedSetIterable i0 X.env x = pure x := by intro _; rfl) (hiN : i < N := by decide) (hf : freeO i ow = true := by rfl) :
    PSs X (.Assign [.Name z py] (.ListComp elt (⟨.Name y tp, i0, ifs, 0⟩ :: g1 :: rest) scope pos) spos :: after) (tS N env ow o) :=
  s_lcN (acts := fun acc env => actG (.ListComp elt (⟨.Name y tp, i0, ifs, 0⟩ :: g1 :: rest) scope pos) 1 g1.iter acc env) own Pr c outs hc hN hz hzl hsw hit ok hg htt hP hact hrest hlen hifs hk hkv ht hs hiN hf
end
end LwB
namespace LwB
open PySem PySem.Spec PyProof.Rows L2 IqX RvT EnS TL NsT
variable [LwB.KC]
/-! ### words that no other one is a part of -/
def AC (l : Words) : Prop := ∀ x ∈ l, ∀ y ∈ l, x.Sublist y → x = y
theorem lst_mem {l : Words} {x : List Str} : x ∈ lst l ↔ x ∈ l ∧ ∀ u ∈ l, u.Sublist x → u = x := by
  unfold lst
  rw [List.mem_filter, List.isEmpty_iff, List.filter_eq_nil_iff]
  refine and_congr_right fun _ => ⟨fun h u hu s => ?_, fun h u hu q => ?_⟩
  · have := h u hu
    rw [Bool.and_eq_true] at this
    exact Classical.byContradiction fun ne => this ⟨decide_eq_true ne, (isPart_iff _ _).mpr s⟩
  · rw [Bool.and_eq_true] at q
    exact of_decide_eq_true q.1 (h u hu ((isPart_iff _ _).mp q.2))
theorem lst_ac (l : Words) : AC (lst l) := fun x hx y hy s => (lst_mem.mp hy).2 x (lst_mem.mp hx).1 s
theorem lst_self {l : Words} (h : AC l) : lst l = l := by
  unfold lst
  rw [List.filter_eq_self]
  intro x hx
  rw [List.isEmpty_iff, List.filter_eq_nil_iff]
  intro u hu q
  rw [Bool.and_eq_true] at q
  exact of_decide_eq_true q.1 (h u hu x hx ((isPart_iff _ _).mp q.2))
theorem lst_srt {l : Words} (h : Srt l) : Srt (lst l) := h.sublist List.filter_sublist
theorem lst_cov {l : Words} : ∀ (n : Nat) {u : List Str}, u.length ≤ n → u ∈ l → ∃ v ∈ lst l, v.Sublist u := by
  intro n
  induction n with
  | zero =>
    intro u hn hu
    refine ⟨u, lst_mem.mpr ⟨hu, fun v _ s => ?_⟩, List.Sublist.refl _⟩
    have := s.length_le
    exact s.eq_of_length_le (by omega)
  | succ n ih =>
    intro u hn hu
    by_cases h : ∀ v ∈ l, v.Sublist u → v = u
    · exact ⟨u, lst_mem.mpr ⟨hu, h⟩, List.Sublist.refl _⟩
    · obtain ⟨v, hv⟩ := Classical.not_forall.mp h
      obtain ⟨hvl, hv⟩ := Classical.not_imp.mp hv
      obtain ⟨s, ne⟩ := Classical.not_imp.mp hv
      have hlt : v.length < u.length := Nat.lt_of_not_le fun hle => ne (s.eq_of_length_le hle)
      obtain ⟨w, hw, s'⟩ := ih (by omega) hvl
      exact ⟨w, hw, s'.trans s⟩
theorem dn_iff {l : Words} {es : List Str} : dn l es = true ↔ ∃ w ∈ l, w.Sublist es := by
  unfold dn
  rw [List.any_eq_true]
  exact ⟨fun ⟨w, h, p⟩ => ⟨w, h, (isPart_iff _ _).mp p⟩, fun ⟨w, h, p⟩ => ⟨w, h, (isPart_iff _ _).mpr p⟩⟩
theorem dn_congr {l m : Words} {es : List Str} (h : (∃ w ∈ l, w.Sublist es) ↔ ∃ w ∈ m, w.Sublist es) : dn l es = dn m es := by
  rw [Bool.eq_iff_iff, dn_iff, dn_iff]
  exact h
theorem dn_lst (l : Words) (es : List Str) : dn (lst l) es = dn l es := dn_congr ⟨fun ⟨w, h, s⟩ => ⟨w, (lst_mem.mp h).1, s⟩, fun ⟨w, h, s⟩ => by
  obtain ⟨v, hv, s'⟩ := lst_cov _ (Nat.le_refl _) h
  exact ⟨v, hv, s'.trans s⟩⟩
theorem dn_canon (l : Words) (es : List Str) : dn (canon l) es = dn l es := dn_congr ⟨fun ⟨w, h, s⟩ => ⟨w, canon_mem.mp h, s⟩, fun ⟨w, h, s⟩ => ⟨w, canon_mem.mpr h, s⟩⟩
theorem dn_append (l m : Words) (es : List Str) : dn (l ++ m) es = (dn l es || dn m es) := by
  unfold dn
  rw [List.any_append]
/-! ### base_of: those words that no word ahead of them is a part of -/
def bsStep (kept : Words) (w : List Str) : Words := if dn kept w = true then kept else kept ++ [w]
def bsF (l : Words) : Words := l.foldl bsStep []
theorem lst_snoc {p : Words} {w : List Str} (h : ∀ u ∈ p, wLt u w = true) : lst (p ++ [w]) = bsStep (lst p) w := by
  have hne : ∀ u ∈ p, u ≠ w := fun u hu e => by
    have := h u hu
    rw [e, wLt_irr] at this
    cases this
  have hnp : ∀ u ∈ p, isPart w u = false := fun u hu => by
    cases e : isPart w u with
    | false => rfl
    | true =>
      have s := (isPart_iff _ _).mp e
      exact absurd (s.eq_of_length_le (wLt_len (h u hu))).symm (hne u hu)
  unfold lst
  rw [List.filter_append]
  have e1 : p.filter (fun x => ((p ++ [w]).filter fun u => decide (u ≠ x) && isPart u x).isEmpty) = p.filter fun x => (p.filter fun u => decide (u ≠ x) && isPart u x).isEmpty := by
    refine List.filter_congr fun x hx => ?_
    rw [List.filter_append]
    have : [w].filter (fun u => decide (u ≠ x) && isPart u x) = [] := by simp [hnp x hx]
    rw [this, List.append_nil]
  rw [e1]
  show lst p ++ _ = bsStep (lst p) w
  have e2 : ((p ++ [w]).filter fun u => decide (u ≠ w) && isPart u w).isEmpty = !dn (lst p) w := by
    rw [dn_lst, List.filter_append]
    have : [w].filter (fun u => decide (u ≠ w) && isPart u w) = [] := by simp
    rw [this, List.append_nil]
    have e3 : p.filter (fun u => decide (u ≠ w) && isPart u w) = p.filter fun u => isPart u w := List.filter_congr fun u hu => by simp [hne u hu]
    rw [e3]
    unfold dn
    rw [Bool.eq_iff_iff, List.isEmpty_iff, List.filter_eq_nil_iff]
    simp
  unfold bsStep
  by_cases hd : dn (lst p) w = true
  · rw [if_pos hd]
    have : [w].filter (fun x => ((p ++ [w]).filter fun u => decide (u ≠ x) && isPart u x).isEmpty) = [] := by
      rw [List.filter_eq_nil_iff]
      intro x hx
      rw [List.mem_singleton.mp hx, e2, hd]
      decide
    rw [this, List.append_nil]
  · rw [if_neg hd]
    have : [w].filter (fun x => ((p ++ [w]).filter fun u => decide (u ≠ x) && isPart u x).isEmpty) = [w] := by
      rw [List.filter_eq_self]
      intro x hx
      rw [List.mem_singleton.mp hx, e2]
      simpa using hd
    rw [this]
theorem bsF_take {l : Words} (h : Srt l) : ∀ n, (l.take n).foldl bsStep [] = lst (l.take n)
  | 0 => by rw [List.take_zero]; rfl
  | n + 1 => by
    by_cases hn : n < l.length
    · rw [List.take_succ_eq_append_getElem hn, List.foldl_append, bsF_take h n]
      show bsStep (lst (l.take n)) l[n] = _
      refine (lst_snoc fun u hu => ?_).symm
      obtain ⟨i, hi, e⟩ := List.mem_iff_getElem.mp hu
      rw [List.length_take] at hi
      rw [← e, List.getElem_take]
      exact List.pairwise_iff_getElem.mp h i n (by omega) hn (by omega)
    · have q := bsF_take h n
      rw [List.take_of_length_le (by omega)] at q
      rw [List.take_of_length_le (by omega)]
      exact q
theorem bsF_lst {l : Words} (h : Srt l) : bsF l = lst l := by
  have := bsF_take h l.length
  rw [List.take_length] at this
  exact this
/-- the base of words -/
def bs (Ws : Words) : Words := lst (canon Ws)
theorem bs_self {l : Words} (h : Srt l) (a : AC l) : bs l = l := by
  unfold bs
  rw [canon_self h, lst_self a]
theorem dn_bs (Ws : Words) (es : List Str) : dn (bs Ws) es = dn Ws es := by
  unfold bs
  rw [dn_lst, dn_canon]
theorem bs_srt (Ws : Words) : Srt (bs Ws) := lst_srt (canon_srt Ws)
theorem bs_ac (Ws : Words) : AC (bs Ws) := lst_ac _
theorem bs_len (Ws : Words) : (bs Ws).length ≤ Ws.length := Nat.le_trans (lst_len _) (canon_len Ws)
theorem bs_sub {Ws : Words} {w : List Str} (h : w ∈ bs Ws) : w ∈ Ws := canon_mem.mp (lst_mem.mp h).1
/-! ### least logs of two -/
def llRow (a : Str) (u : List Str) (f : List Str → Words) : List Str → Words
  | [] => [a :: u]
  | b :: w => if a = b then (f w).map (a :: ·) else ((f (b :: w)).filter fun x => !isPart (a :: u) x).map (a :: ·) ++ ((llRow a u f w).filter fun x => !isPart (b :: w) x).map (b :: ·)
def ll : List Str → List Str → Words
  | [], es => [es]
  | a :: u, es => llRow a u (ll u) es
theorem ll_nil (es : List Str) : ll [] es = [es] := rfl
theorem ll_end (u : List Str) : ll u [] = [u] := by cases u <;> rfl
theorem ll_cons (a b : Str) (u w : List Str) : ll (a :: u) (b :: w) = if a = b then (ll u w).map (a :: ·) else ((ll u (b :: w)).filter fun x => !isPart (a :: u) x).map (a :: ·) ++ ((ll (a :: u) w).filter fun x => !isPart (b :: w) x).map (b :: ·) := rfl
theorem ll_parts : ∀ (n : Nat) (u w : List Str), u.length + w.length ≤ n → ∀ x ∈ ll u w, u.Sublist x ∧ w.Sublist x
  | _, [], es, _, x, hx => by
    rw [List.mem_singleton.mp hx]
    exact ⟨List.nil_sublist _, List.Sublist.refl _⟩
  | _, a :: u, [], _, x, hx => by
    rw [ll_end] at hx
    rw [List.mem_singleton.mp hx]
    exact ⟨List.Sublist.refl _, List.nil_sublist _⟩
  | 0, a :: u, b :: w, h, _, _ => by
    rw [List.length_cons] at h
    omega
  | n + 1, a :: u, b :: w, h, x, hx => by
    rw [List.length_cons, List.length_cons] at h
    rw [ll_cons] at hx
    by_cases e : a = b
    · subst e
      rw [if_pos rfl] at hx
      obtain ⟨y, hy, rfl⟩ := List.mem_map.mp hx
      have := ll_parts n u w (by omega) y hy
      exact ⟨.cons₂ _ this.1, .cons₂ _ this.2⟩
    · rw [if_neg e] at hx
      rcases List.mem_append.mp hx with hx | hx
      · obtain ⟨y, hy, rfl⟩ := List.mem_map.mp hx
        have := ll_parts n u (b :: w) (by rw [List.length_cons]; omega) y (List.mem_filter.mp hy).1
        exact ⟨.cons₂ _ this.1, .cons _ this.2⟩
      · obtain ⟨y, hy, rfl⟩ := List.mem_map.mp hx
        have := ll_parts n (a :: u) w (by rw [List.length_cons]; omega) y (List.mem_filter.mp hy).1
        exact ⟨.cons _ this.1, .cons₂ _ this.2⟩
theorem ll_cov : ∀ (r u w : List Str), u.Sublist r → w.Sublist r → ∃ x ∈ ll u w, x.Sublist r
  | r, [], w, _, h => ⟨w, .head _, h⟩
  | r, a :: u, [], h, _ => ⟨a :: u, by rw [ll_end]; exact .head _, h⟩
  | [], a :: u, b :: w, h, _ => by cases h
  | c :: r, a :: u, b :: w, h1, h2 => by
    rw [ll_cons]
    by_cases ea : a = c
    · subst ea
      have h1' : u.Sublist r := List.cons_sublist_cons.mp h1
      by_cases e : a = b
      · subst e
        rw [if_pos rfl]
        obtain ⟨x, hx, s⟩ := ll_cov r u w h1' (List.cons_sublist_cons.mp h2)
        exact ⟨a :: x, List.mem_map.mpr ⟨x, hx, rfl⟩, .cons₂ _ s⟩
      · rw [if_neg e]
        have h2' : (b :: w).Sublist r := by
          cases h2 with
          | cons _ h => exact h
          | cons_cons _ h => exact absurd rfl e
        obtain ⟨x, hx, s⟩ := ll_cov r u (b :: w) h1' h2'
        by_cases hp : isPart (a :: u) x = true
        · obtain ⟨y, hy, s'⟩ := ll_cov r (a :: u) (b :: w) (((isPart_iff _ _).mp hp).trans s) h2'
          rw [ll_cons, if_neg e] at hy
          exact ⟨y, hy, .cons _ s'⟩
        · exact ⟨a :: x, List.mem_append_left _ (List.mem_map.mpr ⟨x, List.mem_filter.mpr ⟨hx, by simpa using hp⟩, rfl⟩), .cons₂ _ s⟩
    · have h1' : (a :: u).Sublist r := by
        cases h1 with
        | cons _ h => exact h
        | cons_cons _ h => exact absurd rfl ea
      by_cases eb : b = c
      · subst eb
        rw [if_neg ea]
        have h2' : w.Sublist r := List.cons_sublist_cons.mp h2
        obtain ⟨x, hx, s⟩ := ll_cov r (a :: u) w h1' h2'
        by_cases hp : isPart (b :: w) x = true
        · obtain ⟨y, hy, s'⟩ := ll_cov r (a :: u) (b :: w) h1' (((isPart_iff _ _).mp hp).trans s)
          rw [ll_cons, if_neg ea] at hy
          exact ⟨y, hy, .cons _ s'⟩
        · exact ⟨b :: x, List.mem_append_right _ (List.mem_map.mpr ⟨x, List.mem_filter.mpr ⟨hx, by simpa using hp⟩, rfl⟩), .cons₂ _ s⟩
      · have h2' : (b :: w).Sublist r := by
          cases h2 with
          | cons _ h => exact h
          | cons_cons _ h => exact absurd rfl eb
        obtain ⟨y, hy, s'⟩ := ll_cov r (a :: u) (b :: w) h1' h2'
        rw [ll_cons] at hy
        exact ⟨y, hy, .cons _ s'⟩
theorem ll_len_le : ∀ (n : Nat) (u w : List Str), u.length + w.length ≤ n → ∀ x ∈ ll u w, x.length ≤ u.length + w.length
  | _, [], es, _, x, hx => by
    rw [List.mem_singleton.mp hx]
    omega
  | _, a :: u, [], _, x, hx => by
    rw [ll_end] at hx
    rw [List.mem_singleton.mp hx]
    exact Nat.le_refl _
  | 0, a :: u, b :: w, h, _, _ => by
    rw [List.length_cons] at h
    omega
  | n + 1, a :: u, b :: w, h, x, hx => by
    rw [List.length_cons, List.length_cons] at h ⊢
    rw [ll_cons] at hx
    by_cases e : a = b
    · subst e
      rw [if_pos rfl] at hx
      obtain ⟨y, hy, rfl⟩ := List.mem_map.mp hx
      have := ll_len_le n u w (by omega) y hy
      rw [List.length_cons]
      omega
    · rw [if_neg e] at hx
      rcases List.mem_append.mp hx with hx | hx
      · obtain ⟨y, hy, rfl⟩ := List.mem_map.mp hx
        have := ll_len_le n u (b :: w) (by rw [List.length_cons]; omega) y (List.mem_filter.mp hy).1
        rw [List.length_cons] at this ⊢
        omega
      · obtain ⟨y, hy, rfl⟩ := List.mem_map.mp hx
        have := ll_len_le n (a :: u) w (by rw [List.length_cons]; omega) y (List.mem_filter.mp hy).1
        rw [List.length_cons] at this ⊢
        omega
/-- how many there are at most -/
def bin : Nat → Nat → Nat
  | 0, _ => 1
  | m + 1, n => binRow (bin m) n
where binRow (f : Nat → Nat) : Nat → Nat
  | 0 => 1
  | n + 1 => f (n + 1) + binRow f n
theorem bin_s (m n : Nat) : bin (m + 1) (n + 1) = bin m (n + 1) + bin (m + 1) n := rfl
theorem bin_mono : ∀ m n, bin m n ≤ bin (m + 1) n ∧ bin m n ≤ bin m (n + 1)
  | 0, 0 => ⟨Nat.le_refl _, Nat.le_refl _⟩
  | 0, n + 1 => ⟨by rw [bin_s]; omega, Nat.le_refl _⟩
  | m + 1, 0 => ⟨Nat.le_refl _, by rw [bin_s]; have : bin (m + 1) 0 = 1 := rfl; omega⟩
  | m + 1, n + 1 => by
    have h1 := bin_mono m (n + 1)
    have h2 := bin_mono (m + 1) n
    refine ⟨?_, ?_⟩
    · rw [bin_s (m + 1) n]
      omega
    · rw [bin_s m (n + 1)]
      omega
theorem ll_count : ∀ (n : Nat) (u w : List Str), u.length + w.length ≤ n → (ll u w).length ≤ bin u.length w.length
  | _, [], es, _ => Nat.le_refl _
  | _, a :: u, [], _ => by
    rw [ll_end]
    exact Nat.le_refl _
  | 0, a :: u, b :: w, h => by
    rw [List.length_cons] at h
    omega
  | n + 1, a :: u, b :: w, h => by
    rw [List.length_cons, List.length_cons] at h
    rw [ll_cons, List.length_cons, List.length_cons, bin_s]
    by_cases e : a = b
    · subst e
      rw [if_pos rfl, List.length_map]
      have := ll_count n u w (by omega)
      have h2 := (bin_mono u.length w.length).2
      omega
    · rw [if_neg e, List.length_append, List.length_map, List.length_map]
      have h1 := ll_count n u (b :: w) (by rw [List.length_cons]; omega)
      have h2 := ll_count n (a :: u) w (by rw [List.length_cons]; omega)
      have h3 := List.length_filter_le (fun x => !isPart (a :: u) x) (ll u (b :: w))
      have h4 := List.length_filter_le (fun x => !isPart (b :: w) x) (ll (a :: u) w)
      rw [List.length_cons] at h1 h2
      omega
theorem bin_le {m n M N : Nat} (h1 : m ≤ M) (h2 : n ≤ N) : bin m n ≤ bin M N := by
  have a : ∀ {m M n}, m ≤ M → bin m n ≤ bin M n := fun {m M n} h => by
    induction h with
    | refl => exact Nat.le_refl _
    | step _ ih => exact Nat.le_trans ih (bin_mono _ n).1
  have b : ∀ {m n N}, n ≤ N → bin m n ≤ bin m N := fun {m n N} h => by
    induction h with
    | refl => exact Nat.le_refl _
    | step _ ih => exact Nat.le_trans ih (bin_mono m _).2
  exact Nat.le_trans (a h1) (b h2)
/-! ### both -/
/-- without the event at this place -/
def lessAt (log : List Str) (at_ : Nat) : List Str := log.take at_ ++ log.drop (at_ + 1)
def needs (one other : Words) (log : List Str) : Bool := !(List.range log.length).any fun i => dn one (lessAt log i) && dn other (lessAt log i)
def bothL (one other : Words) : Words := one.flatMap fun u => other.flatMap fun v => canon (ll u v)
def both (one other : Words) : Words := (canon (bothL one other)).filter (needs one other)
theorem lessAt_sub (log : List Str) (i : Nat) : (lessAt log i).Sublist log := by
  have h : log = log.take i ++ log.drop i := (List.take_append_drop i log).symm
  have h2 : (log.drop (i + 1)).Sublist (log.drop i) := by
    rw [show log.drop (i + 1) = (log.drop i).drop 1 by rw [List.drop_drop]]
    exact List.drop_sublist _ _
  have : (log.take i ++ log.drop (i + 1)).Sublist (log.take i ++ log.drop i) := List.Sublist.append (List.Sublist.refl _) h2
  rw [List.take_append_drop] at this
  exact this
theorem lessAt_len {log : List Str} {i : Nat} (h : i < log.length) : (lessAt log i).length + 1 = log.length := by
  unfold lessAt
  rw [List.length_append, List.length_take, List.length_drop]
  omega
theorem less_of_sub : ∀ {x y : List Str}, x.Sublist y → x.length < y.length → ∃ i, i < y.length ∧ x.Sublist (lessAt y i)
  | _, _, .slnil, h => by cases h
  | x, _, .cons a (l₂ := y) s, _ => ⟨0, Nat.succ_pos _, s⟩
  | _, _, .cons_cons a (l₁ := x) (l₂ := y) s, h => by
    obtain ⟨i, hi, s'⟩ := less_of_sub s (by rw [List.length_cons, List.length_cons] at h; omega)
    exact ⟨i + 1, by rw [List.length_cons]; omega, .cons₂ a s'⟩
theorem needs_iff {one other : Words} {log : List Str} : needs one other log = true ↔ ∀ i, i < log.length → ¬ (dn one (lessAt log i) = true ∧ dn other (lessAt log i) = true) := by
  unfold needs
  rw [Bool.not_eq_true', ← Bool.not_eq_true, List.any_eq_true]
  constructor
  · intro h i hi q
    exact h ⟨i, List.mem_range.mpr hi, by rw [q.1, q.2]; rfl⟩
  · rintro h ⟨i, hi, q⟩
    rw [Bool.and_eq_true] at q
    exact h i (List.mem_range.mp hi) q
theorem bothL_mem {one other : Words} {x : List Str} : x ∈ bothL one other ↔ ∃ u ∈ one, ∃ v ∈ other, x ∈ ll u v := by
  unfold bothL
  rw [List.mem_flatMap]
  constructor
  · rintro ⟨u, hu, h⟩
    obtain ⟨v, hv, h⟩ := List.mem_flatMap.mp h
    exact ⟨u, hu, v, hv, canon_mem.mp h⟩
  · rintro ⟨u, hu, v, hv, h⟩
    exact ⟨u, hu, List.mem_flatMap.mpr ⟨v, hv, canon_mem.mpr h⟩⟩
theorem bothL_dn {one other : Words} {x : List Str} (h : x ∈ bothL one other) : dn one x = true ∧ dn other x = true := by
  obtain ⟨u, hu, v, hv, hx⟩ := bothL_mem.mp h
  have := ll_parts _ u v (Nat.le_refl _) x hx
  exact ⟨dn_iff.mpr ⟨u, hu, this.1⟩, dn_iff.mpr ⟨v, hv, this.2⟩⟩
theorem bothL_cov {one other : Words} {r : List Str} (h1 : dn one r = true) (h2 : dn other r = true) : ∃ x ∈ bothL one other, x.Sublist r := by
  obtain ⟨u, hu, s1⟩ := dn_iff.mp h1
  obtain ⟨v, hv, s2⟩ := dn_iff.mp h2
  obtain ⟨x, hx, s⟩ := ll_cov r u v s1 s2
  exact ⟨x, bothL_mem.mpr ⟨u, hu, v, hv, hx⟩, s⟩
theorem both_cov {one other : Words} : ∀ (n : Nat) {x : List Str}, x.length ≤ n → x ∈ bothL one other → ∃ y ∈ both one other, y.Sublist x := by
  intro n
  induction n with
  | zero =>
    intro x hn hx
    refine ⟨x, List.mem_filter.mpr ⟨canon_mem.mpr hx, needs_iff.mpr fun i hi => ?_⟩, List.Sublist.refl _⟩
    omega
  | succ n ih =>
    intro x hn hx
    by_cases h : needs one other x = true
    · exact ⟨x, List.mem_filter.mpr ⟨canon_mem.mpr hx, h⟩, List.Sublist.refl _⟩
    · rw [needs_iff] at h
      obtain ⟨i, hi⟩ := Classical.not_forall.mp h
      obtain ⟨hi, q⟩ := Classical.not_imp.mp hi
      obtain ⟨q1, q2⟩ := Classical.not_not.mp q
      obtain ⟨y, hy, s⟩ := bothL_cov q1 q2
      have := s.length_le
      have hl := lessAt_len hi
      obtain ⟨z, hz, s'⟩ := ih (by omega) hy
      exact ⟨z, hz, s'.trans (s.trans (lessAt_sub x i))⟩
theorem dn_both (one other : Words) (r : List Str) : dn (both one other) r = (dn one r && dn other r) := by
  rw [Bool.eq_iff_iff, Bool.and_eq_true]
  constructor
  · intro h
    obtain ⟨x, hx, s⟩ := dn_iff.mp h
    have := bothL_dn (canon_mem.mp (List.mem_filter.mp hx).1)
    obtain ⟨u, hu, s1⟩ := dn_iff.mp this.1
    obtain ⟨v, hv, s2⟩ := dn_iff.mp this.2
    exact ⟨dn_iff.mpr ⟨u, hu, s1.trans s⟩, dn_iff.mpr ⟨v, hv, s2.trans s⟩⟩
  · rintro ⟨h1, h2⟩
    obtain ⟨x, hx, s⟩ := bothL_cov h1 h2
    obtain ⟨y, hy, s'⟩ := both_cov _ (Nat.le_refl _) hx
    exact dn_iff.mpr ⟨y, hy, s'.trans s⟩
theorem both_srt (one other : Words) : Srt (both one other) := (canon_srt _).sublist List.filter_sublist
theorem both_ac (one other : Words) : AC (both one other) := fun x hx y hy s => by
  refine Classical.byContradiction fun ne => ?_
  have hlt : x.length < y.length := Nat.lt_of_not_le fun hle => ne (s.eq_of_length_le hle)
  obtain ⟨i, hi, s'⟩ := less_of_sub s hlt
  have hx' := bothL_dn (canon_mem.mp (List.mem_filter.mp hx).1)
  obtain ⟨u, hu, s1⟩ := dn_iff.mp hx'.1
  obtain ⟨v, hv, s2⟩ := dn_iff.mp hx'.2
  exact needs_iff.mp (List.mem_filter.mp hy).2 i hi ⟨dn_iff.mpr ⟨u, hu, s1.trans s'⟩, dn_iff.mpr ⟨v, hv, s2.trans s'⟩⟩
theorem both_bs (one other : Words) : bs (both one other) = both one other := bs_self (both_srt _ _) (both_ac _ _)
/-! ### one behind the other -/
def thenL (one other : Words) : Words := one.flatMap fun u => other.map fun v => u ++ v
def thn2 (one other : Words) : Words := canon (thenL one other)
theorem thenL_mem {one other : Words} {x : List Str} : x ∈ thenL one other ↔ ∃ u ∈ one, ∃ v ∈ other, x = u ++ v := by
  unfold thenL
  rw [List.mem_flatMap]
  constructor
  · rintro ⟨u, hu, h⟩
    obtain ⟨v, hv, e⟩ := List.mem_map.mp h
    exact ⟨u, hu, v, hv, e.symm⟩
  · rintro ⟨u, hu, v, hv, e⟩
    exact ⟨u, hu, List.mem_map.mpr ⟨v, hv, e.symm⟩⟩
theorem dn_then (one other : Words) (r : List Str) : dn (thn2 one other) r = true ↔ ∃ k, k ≤ r.length ∧ dn one (r.take k) = true ∧ dn other (r.drop k) = true := by
  unfold thn2
  rw [dn_canon, dn_iff]
  constructor
  · rintro ⟨x, hx, s⟩
    obtain ⟨u, hu, v, hv, rfl⟩ := thenL_mem.mp hx
    obtain ⟨r1, r2, e, s1, s2⟩ := List.append_sublist_iff.mp s
    subst e
    refine ⟨r1.length, by rw [List.length_append]; omega, dn_iff.mpr ⟨u, hu, ?_⟩, dn_iff.mpr ⟨v, hv, ?_⟩⟩
    · rw [List.take_left]
      exact s1
    · rw [List.drop_left]
      exact s2
  · rintro ⟨k, _, h1, h2⟩
    obtain ⟨u, hu, s1⟩ := dn_iff.mp h1
    obtain ⟨v, hv, s2⟩ := dn_iff.mp h2
    refine ⟨u ++ v, thenL_mem.mpr ⟨u, hu, v, hv, rfl⟩, ?_⟩
    have := List.Sublist.append s1 s2
    rw [List.take_append_drop] at this
    exact this
theorem then_one {one other : Words} (a1 : AC one) (a2 : AC other) {u1 u2 v1 v2 : List Str} (h1 : u1 ∈ one) (h2 : u2 ∈ one) (k1 : v1 ∈ other) (k2 : v2 ∈ other) (s : (u1 ++ v1).Sublist (u2 ++ v2)) : u1 = u2 ∧ v1 = v2 := by
  obtain ⟨r1, r2, e, s1, s2⟩ := List.append_sublist_iff.mp s
  rcases List.append_eq_append_iff.mp e with ⟨z, e1, e2⟩ | ⟨z, e1, e2⟩
  · -- r1 = u2 ++ z, v2 = z ++ r2
    have hv : v1.Sublist v2 := by
      rw [e2]
      exact s2.trans (List.sublist_append_right _ _)
    have hv' := a2 _ k1 _ k2 hv
    have hl := s2.length_le
    have hz : z = [] := by
      rw [hv', e2, List.length_append] at hl
      exact List.length_eq_zero_iff.mp (by omega)
    rw [hz, List.append_nil] at e1
    rw [e1] at s1
    exact ⟨a1 _ h1 _ h2 s1, hv'⟩
  · -- u2 = r1 ++ z, r2 = z ++ v2
    have hu : u1.Sublist u2 := by
      rw [e1]
      exact s1.trans (List.sublist_append_left _ _)
    have hu' := a1 _ h1 _ h2 hu
    have hl := s1.length_le
    have hz : z = [] := by
      rw [hu', e1, List.length_append] at hl
      exact List.length_eq_zero_iff.mp (by omega)
    rw [hz, List.nil_append] at e2
    rw [e2] at s2
    exact ⟨hu', a2 _ k1 _ k2 s2⟩
theorem then_ac {one other : Words} (a1 : AC one) (a2 : AC other) : AC (thn2 one other) := fun x hx y hy s => by
  obtain ⟨u1, h1, v1, k1, rfl⟩ := thenL_mem.mp (canon_mem.mp hx)
  obtain ⟨u2, h2, v2, k2, rfl⟩ := thenL_mem.mp (canon_mem.mp hy)
  obtain ⟨e1, e2⟩ := then_one a1 a2 h1 h2 k1 k2 s
  rw [e1, e2]
theorem then_bs {one other : Words} (a1 : AC one) (a2 : AC other) : bs (thn2 one other) = thn2 one other := bs_self (canon_srt _) (then_ac a1 a2)
/-! ### so many times -/
def tms (base : Words) : Nat → Words
  | 0 => [[]]
  | n + 1 => thn2 (tms base n) base
theorem ac_one : AC [[]] := fun x hx y hy _ => by rw [List.mem_singleton.mp hx, List.mem_singleton.mp hy]
theorem tms_ac {base : Words} (a : AC base) : ∀ n, AC (tms base n)
  | 0 => ac_one
  | n + 1 => then_ac (tms_ac a n) a
theorem tms_srt (base : Words) : ∀ n, Srt (tms base n)
  | 0 => List.pairwise_singleton _ _
  | n + 1 => canon_srt _
/-- all products, one behind the other -/
def prods (base : Words) : Nat → Words
  | 0 => [[]]
  | n + 1 => thenL (prods base n) base
theorem tms_prods (base : Words) : ∀ n, ∀ x, x ∈ tms base n ↔ x ∈ prods base n
  | 0, x => Iff.rfl
  | n + 1, x => by
    show x ∈ canon (thenL (tms base n) base) ↔ x ∈ thenL (prods base n) base
    rw [canon_mem, thenL_mem, thenL_mem]
    constructor
    · rintro ⟨u, hu, r⟩
      exact ⟨u, (tms_prods base n u).mp hu, r⟩
    · rintro ⟨u, hu, r⟩
      exact ⟨u, (tms_prods base n u).mpr hu, r⟩
theorem tms_canon (base : Words) (n : Nat) : tms base n = canon (prods base n) := canon_unique (tms_srt base n) (tms_prods base n)
theorem thenL_len (one other : Words) : (thenL one other).length = one.length * other.length := by
  unfold thenL
  induction one with
  | nil => simp
  | cons u one ih =>
    rw [List.flatMap_cons, List.length_append, List.length_map, ih, List.length_cons, Nat.succ_mul]
    omega
end LwB
namespace LwB
open PySem PySem.Spec PyProof.Rows L2 IqX RvT EnS TL NsT CpN
variable [LwB.KC]
/-! ### the bases' defs, as trees -/
/-- words, in a list or a tuple (t), each a list or a tuple (u) -/
def trowsX (t u : Bool) (Ws : Words) : Tr := .sq t (Ws.map (trs u))
theorem paired_rows {H : Hp} {u : Bool} : ∀ {Ws : Words} {xs : List V}, Paired (It H) (Ws.map (trs u)) xs → Paired (RowX H) Ws xs
  | [], _, .nil => .nil
  | w :: Ws, _, .cons r p => by
    obtain ⟨a, rfl, ha, hl⟩ := sx_of_it r
    exact .cons ⟨u, a, rfl, ha, hl⟩ (paired_rows p)
theorem basx_it {H : Hp} {t u : Bool} {Ws : Words} {v : V} (h : It H (trowsX t u Ws) v) : ∃ a, v = .ref a ∧ BasX t H a Ws := by
  obtain ⟨a, xs, rfl, hs, hl, pr⟩ := h.sq_inv
  exact ⟨a, rfl, xs, hs.1, hl, paired_rows pr⟩
theorem bas_new {H H' : Hp} {p : Addr} {Ws : Words} (s : Same H H') (h : Bas false H' p Ws) : It (nv H H') (trows false Ws) (.ref p) := It.nolA (nv_all s) (trows_nol _) (It.of (h.is (n := 0)))
def TCopied (t u : Bool) : Sp := spT (fun Ws : Words => [trowsX t u Ws]) (fun _ => True) fun Ws => trows false Ws
theorem tcopied {t u : Bool} : ∀ vs H (Q : VK) (E : XK), TCopied t u vs H Q E → spCopied vs H Q E := fun vs H Q E ⟨gd, Ws, _, p, q⟩ => by
  obtain ⟨v, rfl, i⟩ := its_one p
  obtain ⟨a, rfl, b⟩ := basx_it i
  exact ⟨t, a, Ws, rfl, b, fun H' p s h => q H' _ s (bas_new s h)⟩
def TDoes (t u b : Bool) : Sp := spT (fun i : Words × List Str => [trowsX t u i.1, trs b i.2]) (fun _ => True) fun i => .bl (dn i.1 i.2)
theorem tdoes {t u b : Bool} : ∀ vs H (Q : VK) (E : XK), TDoes t u b vs H Q E → spDoes vs H Q E := fun vs H Q E ⟨gd, ⟨Ws, es⟩, _, p, q⟩ => by
  obtain ⟨x, y, rfl, i1, i2⟩ := two_its p
  obtain ⟨a, rfl, ha⟩ := basx_it i1
  obtain ⟨c, rfl, hc, _⟩ := sx_of_it i2
  exact ⟨t, b, a, c, Ws, es, rfl, ha, hc, fun H' s => q H' _ s ⟨0, .bl⟩⟩
def TLeast (t : Bool) : Sp := spT (fun Ws : Words => [trows t Ws]) (fun Ws => Ws.length < 77 ∧ ∀ w ∈ Ws, w.length ≤ 1000) fun Ws => trows false (bs Ws)
theorem tleast {t : Bool} : ∀ vs H (Q : VK) (E : XK), TLeast t vs H Q E → spLeast vs H Q E := fun vs H Q E ⟨gd, Ws, ⟨hf, hw⟩, p, q⟩ => by
  obtain ⟨v, rfl, i⟩ := its_one p
  obtain ⟨a, rfl, b⟩ := bas_of_it i
  refine ⟨t, a, Ws, rfl, b, hf, hw, fun H' p Us s hb so => q H' _ s ?_⟩
  rw [so.canon] at hb
  exact bas_new s hb
def TDone (t b : Bool) : Sp := spT (fun i : Words × List Str => [trows t i.1, trs b i.2]) (fun i => ∀ w ∈ i.1, w.length ≤ 1000) fun i => .bl (dn i.1 i.2)
theorem tdone {t b : Bool} : ∀ vs H (Q : VK) (E : XK), TDone t b vs H Q E → spDone vs H Q E := fun vs H Q E ⟨gd, ⟨Ws, es⟩, hw, p, q⟩ => by
  obtain ⟨x, y, rfl, i1, i2⟩ := two_its p
  obtain ⟨a, rfl, ha⟩ := bas_of_it i1
  obtain ⟨c, rfl, hc, _⟩ := sx_of_it i2
  exact ⟨t, b, a, c, Ws, es, rfl, ha, hc, hw, fun H' s => q H' _ s ⟨0, .bl⟩⟩
theorem off_nv (H H' : Hp) : Same (off H H') (nv H H') := fun a o h => by
  rw [nv_not fun xs e => by rw [off_none h] at e; cases e]
  exact off_le h
def TLists (n : Nat) : Sp := spT (fun T : Tr => [T]) (fun T => T.dep ≤ n) Tr.lists
theorem tlists {n : Nat} : ∀ vs H (Q : VK) (E : XK), TLists n vs H Q E → spLists (n + 1) vs H Q E := fun vs H Q E ⟨gd, T, hd, p, q⟩ => by
  obtain ⟨v, rfl, i⟩ := its_one p
  exact ⟨v, T, rfl, i.to hd, fun H' v' s i' => q H' v' s ((It.of i').mv (off_nv H H'))⟩
/-- a drawn base -/
def isBase (ss : List Str) (k m : Nat) (T : Tr) : Prop := ∃ Ws, T = trows false Ws ∧ Srt Ws ∧ AC Ws ∧ Ws.length ≤ k ∧ ∀ w ∈ Ws, Gd ss m w
theorem kd_drawn {n k m : Nat} {b : Addr} {ss : List Str} {R : List Tr → Prop} (hR : ∀ Ts, R Ts → Ts = [trs true ss, .int k, .int m]) (hn : n < 600000000) (hs : ss.length ≤ 1000000) (hs0 : 0 < ss.length) (hm : m ≤ 1000) (hk : k ≤ 60) :
    ∀ H us Ts (Q : VK), Bx n H b → R Ts → Paired (It (rm H b)) Ts us → (∀ H' v T, LwB.Fr b H H' → Bx (n + 1 + k * (1 + m) + k) H' b → isBase ss k m T → It (nv H H') T v → Q v H') → spDrawn (.ref b :: us) H Q E0 := fun H us Ts Q bx r p q => by
  rw [hR Ts r] at p
  cases p with
  | cons i1 p => cases p with
    | cons i2 p => cases p with
      | cons i3 p =>
        cases p
        rw [i2.int_eq, i3.int_eq]
        obtain ⟨l, xs, rfl, hl, ll, pl⟩ := i1.sq_inv
        have ex := strs_its pl
        subst ex
        have e1 := hl.2 rfl
        have hlb : l ≠ b := by
          rintro rfl
          rw [rm_self] at e1
          cases e1
        refine ⟨b, l, n, k, m, ss, rfl, bx, hn, hlb, .lst (rm_sub e1), hs, hs0, hm, hk, fun H' p Ws Us f b' hb hpb so hle hes => q H' _ (trows false (lst Us)) f b' ?_ (It.nolA (nv_allF f b') (trows_nol _) (It.of (hb.is (n := 0))))⟩
        have ec := so.canon
        exact ⟨lst Us, rfl, by rw [ec]; exact lst_srt (canon_srt _), lst_ac _, Nat.le_trans (lst_len Us) (Nat.le_trans (sorted_len so) hle), fun w hw => hes w (lst_sub so hw)⟩
/-! ### slices by numbers that are told -/
section
variable {X : Cx} {N : Nat} {env : EnvT} {pos : Pos}
theorem po_int {X : Cx} {e : Expr} {te : TE} (h : PE X e te) : PO X (some e) (tPart te) := po_some h
theorem le_fromE {e i : Expr} {t : Bool} {ts : List Tr} {n : Nat} {spos} (he : PE X e (tLe N env (.sq t ts))) (hi : PE X i (tLe N env (.int (n : Nat)))) : PE X (.Subscript e (.Slice (some i) none none spos) pos) (tLe N env (.sq t (ts.drop n))) :=
  PE.imp (pe_slice sl_sq he (po_some hi) po_none) fun σ H Q ⟨W, x, ev, q⟩ => ⟨W, x, ev, fun H1 v s1 i1 => by
    refine ⟨vw W H H1, x.next s1, ev.mv (vw_keep x), fun H2 u s2 i2 => ?_⟩
    rw [vw_trans s1 s2] at i2
    have xn := x.next (s1.trans s2)
    have i1' := i1.mv (vw_mono s2)
    obtain ⟨a, xs, rfl, hs, hl, pr⟩ := i1'.sq_inv
    have hq : Sq t H2 a xs := hs.1.mv fun o e => xn.sub a o e
    rw [i2.int_eq]
    refine ⟨_, rfl, t, a, xs, rfl, hq, fun H' p s hn h => q H' _ ((s1.trans s2).trans s) ?_⟩
    rw [cut_from] at hn h
    rw [← vw_trans (s1.trans s2) s]
    exact le_cut (a := a) xn s hn h (by rw [List.length_drop]; omega) (paired_drop n (paired_imp pr fun _ _ r => r.mv (vw_keep xn)))⟩
theorem le_toE {e i : Expr} {t : Bool} {ts : List Tr} {n : Nat} {spos} (he : PE X e (tLe N env (.sq t ts))) (hi : PE X i (tLe N env (.int (n : Nat)))) : PE X (.Subscript e (.Slice none (some i) none spos) pos) (tLe N env (.sq t (ts.take n))) :=
  PE.imp (pe_slice sl_sq he po_none (po_some hi)) fun σ H Q ⟨W, x, ev, q⟩ => ⟨W, x, ev, fun H1 v s1 i1 => by
    refine ⟨vw W H H1, x.next s1, ev.mv (vw_keep x), fun H2 u s2 i2 => ?_⟩
    rw [vw_trans s1 s2] at i2
    have xn := x.next (s1.trans s2)
    have i1' := i1.mv (vw_mono s2)
    obtain ⟨a, xs, rfl, hs, hl, pr⟩ := i1'.sq_inv
    have hq : Sq t H2 a xs := hs.1.mv fun o e => xn.sub a o e
    rw [i2.int_eq]
    refine ⟨_, rfl, t, a, xs, rfl, hq, fun H' p s hn h => q H' _ ((s1.trans s2).trans s) ?_⟩
    rw [cut_to] at hn h
    rw [← vw_trans (s1.trans s2) s]
    exact le_cut (a := a) xn s hn h (by rw [List.length_take]; omega) (paired_take n (paired_imp pr fun _ _ r => r.mv (vw_keep xn)))⟩
/-- i + j -/
theorem le_add {a b : Expr} {i j : Int} (h1 : PE X a (tLe N env (.int i))) (h2 : PE X b (tLe N env (.int j))) : PE X (.BinOp a .Add b pos) (tLe N env (.int (i + j))) :=
  PE.imp (pe_op op_add h1 h2) fun σ H Q ⟨W, x, ev, q⟩ => ⟨W, x, ev, fun H1 v s1 i1 => ⟨vw W H H1, x.next s1, ev.mv (vw_keep x), fun H2 u s2 i2 => by
    rw [i1.int_eq, i2.int_eq]
    exact ⟨i, j, rfl, rfl, q H2 _ (s1.trans s2) ⟨0, .int⟩⟩⟩⟩
/-- return e where lists of one's own are looked at and none is handed on -/
theorem le_catW {e1 e2 : Expr} {u w : List Str} (h1 : PE X e1 (tLe N env (trs false u))) (h2 : PE X e2 (tLe N env (trs false w))) (hl : u.length + w.length ≤ 1000000) : PE X (.BinOp e1 .Add e2 pos) (tLe N env (trs false (u ++ w))) :=
  le_eq (le_catT (Ts := u.map Tr.str) (Us := w.map Tr.str) h1 h2 (by have := trs_nol (u ++ w); unfold trs at this; rw [List.map_append] at this; exact this) (by rw [List.length_map, List.length_map]; exact hl)) (by unfold trs; rw [List.map_append])
end
theorem trs_drop (t : Bool) (w : List Str) (n : Nat) : Tr.sq t ((w.map Tr.str).drop n) = trs t (w.drop n) := by unfold trs; rw [List.map_drop]
theorem trs_take (t : Bool) (w : List Str) (n : Nat) : Tr.sq t ((w.map Tr.str).take n) = trs t (w.take n) := by unfold trs; rw [List.map_take]
theorem fm_sing {α β : Type} (f : α → β) : ∀ l : List α, l.flatMap (fun x => [f x]) = l.map f
  | [] => rfl
  | x :: l => by rw [List.flatMap_cons, fm_sing f l]; rfl
theorem filter_true {α : Type} (l : List α) : l.filter (fun _ => true) = l := List.filter_eq_self.mpr fun _ _ => rfl
end LwB
namespace LwB
open PySem PySem.Spec PyProof.Rows L2 IqX RvT EnS TL NsT CpN
variable [LwB.KC]
/-! ### loops that may end the def -/
def Oc.isRet : Oc → Bool
  | .ret _ _ => true
  | .retL _ _ => true
  | _ => false
section
variable {X : Cx} {N : Nat} {env : EnvT} {own : OwnT} {o : Oc} {rest body : List Stmt} {pos tp : Pos} {iter : Expr} {y : Str} {k : Nat}
theorem s_forE {t : Bool} {ts : List Tr} (st : Nat → Bool) (I : Nat → EnvT) (O : Nat → OwnT) (hc : X.calm = true) (hp : PassesOwn (model X.prog X.w) X.A X.env X.xe) (hi : PE X iter (tLe N env (.sq t ts))) (hg : PG X (.Name y tp) (gName k)) (h0 : SubE (I 0) env) (hO : O 0 = own)
    (hb : ∀ j T, ts[j]? = some T → st j = false → Turn X N body o ((k, T) :: del k (I j)) (O j) (I (j + 1)) (O (j + 1))) (he : ∀ j T, ts[j]? = some T → st j = true → PSs X body (tS N ((k, T) :: del k (I j)) (O j) o))
    (hrest : (∀ j, j < ts.length → st j = false) → PSs X rest (tS N (I ts.length) (O ts.length) o)) (ho : o.isRet = true := by rfl) (hk : k < N := by decide) (hf : ∀ j, freeO k (O j) = true := by intro _; rfl)
    (hs : ∀ x, foldedSetIterable iter X.env x = pure x := by intro _; rfl) : PSs X (.For (.Name y tp) iter body [] pos :: rest) (tS N env own o) :=
  PSs.imp (pss_cons (ps_for hp hc (pi_seq hi) hg pss_any hs) pss_any) fun D σ H ⟨W, S, q⟩ => ⟨W, S.vw, S.ev, fun H1 v s1 i1 => by
    obtain ⟨a, xs, rfl, ha, la, pa⟩ := i1.sq_inv
    have S1 := S.step s1
    have hq1 : Sq t (LwB.vw W H H1) a xs := ha.1
    subst hO
    refine ⟨t, a, rfl, ⟨xs, (hq1.mv fun o e => S1.vw.sub a o e).B⟩, ?_⟩
    refine for_seq (g := gName k) (tb := fun D σ H => ∃ t, PSs X body t ∧ t D σ H) (D := { D with nx := fun σ H => ∃ t, PSs X rest t ∧ t D σ H }) (K := X.K) (b := t) (a := a) (xs := xs) (fun j σ' H' => (∀ i, i < j → st i = false) ∧ ∃ W', Same (LwB.vw W H H1) W' ∧ Sv N (I j) (O j) σ' W' H') ⟨fun i h => absurd h (Nat.not_lt_zero _), _, Same.refl _, S1.sub h0.mem fun _ h => h⟩ (fun j σ' H' _ ⟨_, W', s', S'⟩ => (hq1.mv fun o e => S'.vw.sub a o (s' a o e)).B) ?_ ?_
    · rintro j x σ' H' hx ⟨hst, W', s', S'⟩
      obtain ⟨T, hT, iT⟩ := paired_get pa hx
      cases hj : st j with
      | true =>
        refine ⟨_, he j T hT hj, W', S'.set hk (hf j) (iT.mv s'), ?_⟩
        have q' := q.mono (S.keep.trans s')
        cases o with
        | go _ _ => cases ho
        | ret _ _ => exact q'
        | retL _ _ => exact q'
        | ct _ _ => cases ho
        | bk _ _ => cases ho
        | any _ _ => first | exact q' | cases ho
      | false =>
        exact (hb j T hT hj).meets (S'.set hk (hf j) (iT.mv s')) q (S.keep.trans s') fun σ2 W2 H2 s2 S2 => ⟨fun i hi => (Nat.lt_succ_iff_lt_or_eq.mp hi).elim (hst i) fun e => e ▸ hj, W2, s'.trans s2, S2⟩
    · rintro σ' H' ⟨hst, W', s', S'⟩
      rw [← paired_len pa] at S' hst
      exact ⟨_, hrest hst, W', S', q.mono (S.keep.trans s')⟩⟩
theorem s_forRE {e : Expr} {n : Nat} {p rpos : Pos} (st : Nat → Bool) (I : Nat → EnvT) (O : Nat → OwnT) (hc : X.calm = true) (hp : PassesOwn (model X.prog X.w) X.A X.env X.xe) (hm : X.mg "range" = none) (he : PE X e (tLe N (fullE own env) (.int (n : Nat)))) (hn : n < 1000000) (hg : PG X (.Name y tp) (gName k)) (h0 : SubE (I 0) env) (hO : O 0 = own)
    (hb : ∀ j, j < n → st j = false → Turn X N body o ((k, .int (j : Nat)) :: del k (I j)) (O j) (I (j + 1)) (O (j + 1))) (hr : ∀ j, j < n → st j = true → PSs X body (tS N ((k, .int (j : Nat)) :: del k (I j)) (O j) o)) (hrest : (∀ j, j < n → st j = false) → PSs X rest (tS N (I n) (O n) o)) (ho : o.isRet = true := by rfl) (hk : k < N := by decide) (hf : ∀ j, freeO k (O j) = true := by intro _; rfl) (hgl : Gl X "range" := by rfl)
    (hse : starEach [e] X.env = [(false, eval e X.env)] := by rfl) (hse2 : starEach [e] X.env = (false, eval e X.env) :: starEach [] X.env := by rfl) (hs : ∀ x, foldedSetIterable (.Call (.Name "range" p) [e] [] rpos) X.env x = pure x := by intro _; rfl) : PSs X (.For (.Name y tp) (.Call (.Name "range" p) [e] [] rpos) body [] pos :: rest) (tS N env own o) :=
  PSs.imp (pss_cons (ps_for hp hc (pi_range1 hgl hm (pa_cons (hs := hse2) he pa_nil) hse) hg pss_any hs) pss_any) fun D σ H ⟨W, S, q⟩ => ⟨H, S.vw.self, S.full, fun H1 v s1 i1 => by
    rw [i1.int_eq]
    have S1 := S.step s1
    subst hO
    refine ⟨(n : Int), rfl, by omega, by omega, ?_⟩
    refine for_range (g := gName k) (tb := fun D σ H => ∃ t, PSs X body t ∧ t D σ H) (D := { D with nx := fun σ H => ∃ t, PSs X rest t ∧ t D σ H }) (lo := 0) (n := ((n : Int) - 0).toNat) (fun j σ' H' => (∀ i, i < j → st i = false) ∧ ∃ W', Same (LwB.vw W H H1) W' ∧ Sv N (I j) (O j) σ' W' H') ⟨fun i h => absurd h (Nat.not_lt_zero _), _, Same.refl _, S1.sub h0.mem fun _ h => h⟩ ?_ ?_
    · rintro j σ' H' hj ⟨hst, W', s', S'⟩
      have hx : (V.int (0 + (j : Int))) = V.int (j : Nat) := by rw [Int.zero_add]
      rw [hx]
      have hjn : j < n := by omega
      cases hs : st j with
      | true =>
        refine ⟨_, hr j hjn hs, W', S'.set hk (hf j) ⟨0, .int⟩, ?_⟩
        have q' := q.mono (S.keep.trans s')
        cases o with
        | go _ _ => cases ho
        | ret _ _ => exact q'
        | retL _ _ => exact q'
        | ct _ _ => cases ho
        | bk _ _ => cases ho
        | any _ _ => first | exact q' | cases ho
      | false =>
        exact (hb j hjn hs).meets (S'.set hk (hf j) ⟨0, .int⟩) q (S.keep.trans s') fun σ2 W2 H2 s2 S2 => ⟨fun i hi => (Nat.lt_succ_iff_lt_or_eq.mp hi).elim (hst i) fun e => e ▸ hs, W2, s'.trans s2, S2⟩
    · rintro σ' H' ⟨hst, W', s', S'⟩
      have e : ((n : Int) - 0).toNat = n := by omega
      rw [e] at S' hst
      exact ⟨_, hrest hst, W', S', q.mono (S.keep.trans s')⟩⟩
end
section
variable {X : Cx} {N : Nat} {env : EnvT} {elt i1 : Expr} {t0 j0 t1 j1 t2 j2 : Expr} {f0 f1 f2 : List Expr} {scope : Scope} {pos tp : Pos} {k : Nat} {y : Str} {ifs : List Expr} {D : Addr} {t : Bool} {ts : List Tr} {us : List Nat}
/-- the second of two clauses -/
theorem ap_end2 (Pr : Tr → Prop) (c : Tr → Bool) (outs : Tr → List Tr) (hit : PE X i1 (tLe N env (.sq t ts))) (hg : PG X (.Name y tp) (gName k)) (htt : Ts1 N k env Pr c X ifs) (hP : ∀ T ∈ ts, Pr T) (hact : ∀ T, Pr T → PM X us (actL elt (.ref D) X.env) (tAp N ((k, T) :: env) (outs T) D))
    (hc : X.calm = true := by rfl) (hx : X.xe = fun _ _ => False := by rfl) (hk : k < N := by decide) (hne : freeE (k :: us) env = true := by rfl) (hs : ∀ x, foldedSetIterable i1 X.env x = pure x := by intro _; rfl) :
    PM X (k :: us) (actG (.ListComp elt [⟨t0, j0, f0, 0⟩, ⟨.Name y tp, i1, ifs, 0⟩] scope pos) 1 i1 (.ref D) X.env) (tAp N env ((ts.filter c).flatMap outs) D) := ap_gen Pr c outs hit hg htt hP hact hc hx hk hne (fun _ => rfl) rfl hs
/-- the third of three -/
theorem ap_end3 (Pr : Tr → Prop) (c : Tr → Bool) (outs : Tr → List Tr) (hit : PE X i1 (tLe N env (.sq t ts))) (hg : PG X (.Name y tp) (gName k)) (htt : Ts1 N k env Pr c X ifs) (hP : ∀ T ∈ ts, Pr T) (hact : ∀ T, Pr T → PM X us (actL elt (.ref D) X.env) (tAp N ((k, T) :: env) (outs T) D))
    (hc : X.calm = true := by rfl) (hx : X.xe = fun _ _ => False := by rfl) (hk : k < N := by decide) (hne : freeE (k :: us) env = true := by rfl) (hs : ∀ x, foldedSetIterable i1 X.env x = pure x := by intro _; rfl) :
    PM X (k :: us) (actG (.ListComp elt [⟨t0, j0, f0, 0⟩, ⟨t1, j1, f1, 0⟩, ⟨.Name y tp, i1, ifs, 0⟩] scope pos) 2 i1 (.ref D) X.env) (tAp N env ((ts.filter c).flatMap outs) D) := ap_gen Pr c outs hit hg htt hP hact hc hx hk hne (fun _ => rfl) rfl hs
/-- the second of three -/
theorem ap_mid3 (Pr : Tr → Prop) (c : Tr → Bool) (outs : Tr → List Tr) (hit : PE X i1 (tLe N env (.sq t ts))) (hg : PG X (.Name y tp) (gName k)) (htt : Ts1 N k env Pr c X ifs) (hP : ∀ T ∈ ts, Pr T) (hact : ∀ T, Pr T → PM X us (actG (.ListComp elt [⟨t0, j0, f0, 0⟩, ⟨.Name y tp, i1, ifs, 0⟩, ⟨t2, j2, f2, 0⟩] scope pos) 2 j2 (.ref D) X.env) (tAp N ((k, T) :: env) (outs T) D))
    (hc : X.calm = true := by rfl) (hx : X.xe = fun _ _ => False := by rfl) (hk : k < N := by decide) (hne : freeE (k :: us) env = true := by rfl) (hs : ∀ x, foldedSetIterable i1 X.env x = pure x := by intro _; rfl) :
    PM X (k :: us) (actG (.ListComp elt [⟨t0, j0, f0, 0⟩, ⟨.Name y tp, i1, ifs, 0⟩, ⟨t2, j2, f2, 0⟩] scope pos) 1 i1 (.ref D) X.env) (tAp N env ((ts.filter c).flatMap outs) D) := ap_gen Pr c outs hit hg htt hP hact hc hx hk hne (fun _ => rfl) rfl hs
end
end LwB
namespace LwB
open PySem PySem.Spec PyProof.Rows L2 IqX RvT EnS TL NsT CpN
variable [LwB.KC]
/-! ### == and != of any trees -/
mutual
def dataT : Tr → PyData
  | .non => .none
  | .bl b => .bool b
  | .int i => .int i
  | .str z => .str z
  | .sq t ts => if t = true then .list (dataTs ts) else .tuple (dataTs ts)
def dataTs : List Tr → List PyData
  | [] => []
  | t :: ts => dataT t :: dataTs ts
end
mutual
theorem dp_is {K : PySem.W.Frag} {H : Hp} : ∀ {n : Nat} (T : Tr) {v : V}, Is H n T v → Dp K H v (dataT T)
  | n, .non, v, h => by
    rw [h.non_eq]
    exact .non
  | n, .bl b, v, h => by
    rw [h.bl_eq]
    exact .bl b
  | n, .int i, v, h => by
    rw [h.int_eq]
    exact .int i
  | n, .str z, v, h => by
    rw [h.str_eq]
    exact .str z
  | n, .sq t ts, v, h => by
    obtain ⟨m, a, xs, e, rfl, hs, hl, pr⟩ := h.sq_eq
    cases t with
    | true => exact .lst hs.1.L (dps_is ts pr)
    | false => exact .tup hs.1.T (dps_is ts pr)
theorem dps_is {K : PySem.W.Frag} {H : Hp} : ∀ {n : Nat} (ts : List Tr) {xs : List V}, Paired (Is H n) ts xs → DpAll K H xs (dataTs ts)
  | n, [], _, .nil => .nil
  | n, t :: ts, _, .cons r p => .cons (dp_is t r) (dps_is ts p)
end
mutual
/-- its texts are such as may stand there -/
def okS : Tr → Bool
  | .str z => PyData.strOk z
  | .sq _ ts => okSs ts
  | _ => true
def okSs : List Tr → Bool
  | [] => true
  | t :: ts => okS t && okSs ts
end
mutual
theorem lay_of : ∀ T : Tr, okS T = true → (dataT T).canLay0 = true
  | .non, _ => rfl
  | .bl _, _ => rfl
  | .int _, _ => rfl
  | .str z, h => h
  | .sq t ts, h => by
    have := lays_of ts h
    cases t <;> simpa [dataT, PyData.canLay0] using this
theorem lays_of : ∀ ts : List Tr, okSs ts = true → PyData.canLayAll0 (dataTs ts) = true
  | [], _ => rfl
  | t :: ts, h => by
    have h' : (okS t && okSs ts) = true := h
    rw [Bool.and_eq_true] at h'
    simp [dataTs, PyData.canLayAll0, lay_of t h'.1, lays_of ts h'.2]
end
mutual
theorem depth_of : ∀ T : Tr, (dataT T).depth ≤ T.dep
  | .non => Nat.zero_le _
  | .bl _ => Nat.zero_le _
  | .int _ => Nat.zero_le _
  | .str _ => Nat.zero_le _
  | .sq t ts => by
    have h := depths_of ts
    have e : (Tr.sq t ts).dep = Tr.depAll ts + 1 := rfl
    rw [e]
    cases t <;> simp [dataT, PyData.depth] <;> omega
theorem depths_of : ∀ ts : List Tr, PyData.depthAll (dataTs ts) ≤ Tr.depAll ts
  | [] => Nat.le_refl _
  | t :: ts => by
    have h1 := depth_of t
    have h2 := depths_of ts
    have e : Tr.depAll (t :: ts) = max t.dep (Tr.depAll ts) := rfl
    rw [e]
    simp [dataTs, PyData.depthAll]
    omega
end
theorem shaped_of {T : Tr} (h : okS T = true) (hd : T.dep ≤ 60) : SeqAt.shaped (dataT T) = true := by
  unfold SeqAt.shaped
  rw [lay_of T h, Bool.true_and]
  have := depth_of T
  exact decide_eq_true (by omega)
theorem r_eqD {K : PySem.W.Frag} {T1 T2 : Tr} (h1 : okS T1 = true) (h2 : okS T2 = true) (d1 : T1.dep ≤ 60) (d2 : T2.dep ≤ 60) : ∀ H x y (Q : VK), It H T1 x → It H T2 y → Q (.bl (PyData.eqv (dataT T1) (dataT T2))) H → rEqD K x y H Q := fun H x y Q ⟨_, i1⟩ ⟨_, i2⟩ q => ⟨_, _, dp_is T1 i1, dp_is T2 i2, shaped_of h1 d1, shaped_of h2 d2, q⟩
theorem r_neD {K : PySem.W.Frag} {T1 T2 : Tr} (h1 : okS T1 = true) (h2 : okS T2 = true) (d1 : T1.dep ≤ 60) (d2 : T2.dep ≤ 60) : ∀ H x y (Q : VK), It H T1 x → It H T2 y → Q (.bl (!PyData.eqv (dataT T1) (dataT T2))) H → rNeD K x y H Q := fun H x y Q ⟨_, i1⟩ ⟨_, i2⟩ q => ⟨_, _, dp_is T1 i1, dp_is T2 i2, shaped_of h1 d1, shaped_of h2 d2, q⟩
theorem eqvT_refl {T : Tr} (h : okS T = true) : PyData.eqv (dataT T) (dataT T) = true := SeqAt.eqv_refl _ (lay_of T h)
/-- names are such texts -/
theorem name_ok {z : Str} (h : NameOk z) : PyData.strOk z = true := by
  unfold PyData.strOk
  rw [Array.all_eq_true]
  intro i hi
  have := h.2.2 z.cps[i] (by
    show z.cps[i] ∈ z.cps.toList
    exact Array.getElem_mem_toList hi)
  have h2 : Letter z.cps[i] := this
  exact decide_eq_true (Nat.lt_of_le_of_lt h2.2 (by decide))
theorem okSs_strs : ∀ {w : List Str}, (∀ e ∈ w, NameOk e) → okSs (w.map Tr.str) = true
  | [], _ => rfl
  | z :: w, h => by
    show (PyData.strOk z && okSs (w.map Tr.str)) = true
    rw [name_ok (h z (.head _)), okSs_strs fun e he => h e (.tail _ he)]
    rfl
theorem okS_trs {t : Bool} {w : List Str} (h : ∀ e ∈ w, NameOk e) : okS (trs t w) = true := okSs_strs h
def NmW (Ws : Words) : Prop := ∀ w ∈ Ws, ∀ e ∈ w, NameOk e
theorem okSs_rows {u : Bool} : ∀ {Ws : Words}, NmW Ws → okSs (Ws.map (trs u)) = true
  | [], _ => rfl
  | w :: Ws, h => by
    show (okS (trs u w) && okSs (Ws.map (trs u))) = true
    rw [okS_trs (h w (.head _)), okSs_rows fun x hx => h x (.tail _ hx)]
    rfl
theorem okS_rows {t u : Bool} {Ws : Words} (h : NmW Ws) : okS (trowsX t u Ws) = true := okSs_rows h
theorem nmw_gd {ss : List Str} {m : Nat} {Ws : Words} (hs : NamesOk ss) (h : ∀ w ∈ Ws, Gd ss m w) : NmW Ws := fun w hw e he => hs.1 e ((h w hw).2 e he)
/-! ### pairs of values stored at once -/
section
variable {X : Cx} {N : Nat} {env : EnvT} {own : OwnT} {o : Oc} {rest : List Stmt} {pos : Pos} {i j : Nat} {x y : Str} {a b : Expr} {px py pt : Pos} {kt k2 : _} {pt2 : _}
/-- a, b = two things that are told -/
theorem s_par {T1 T2 : Tr} (hc : X.calm = true) (hN : X.N.Nodup) (hi : X.N[i]? = some x) (hj : X.N[j]? = some y) (hij : i ≠ j) (hx : X.env.scope.names.lookup x = some .local) (hy : X.env.scope.names.lookup y = some .local)
    (ha : PE X a (tLe N env T1)) (hb : PE X b (tLe N env T2)) (hw : swappedStores [.Tuple [.Name x px, .Name y py] kt pt] (.Tuple [a, b] k2 pt2) X.env = pure (some [x, y])) (hrest : PSs X rest (tS N ((j, T2) :: del j ((i, T1) :: del i env)) own o)) (hiN : i < N := by decide) (hjN : j < N := by decide) (hfi : freeO i own = true := by rfl) (hfj : freeO j own = true := by rfl)
    (hs : swapsWithSole [.Tuple [.Name x px, .Name y py] kt pt] (.Tuple [a, b] k2 pt2) pos.line X.env = pure false := by rfl) (hse : starEach [a, b] X.env = (false, eval a X.env) :: starEach [b] X.env := by rfl) (hse2 : starEach [b] X.env = (false, eval b X.env) :: starEach [] X.env := by rfl) :
    PSs X (.Assign [.Tuple [.Name x px, .Name y py] kt pt] (.Tuple [a, b] k2 pt2) pos :: rest) (tS N env own o) :=
  PSs.imp (pss_cons (ps_par (i := i) (j := j) hc hN hi hj hij hx hy (les_cons (hs := hse) ha (les_cons (hs := hse2) hb les_nil)) hw hs) hrest) fun D σ H ⟨W, S, q⟩ => ⟨W, S.vw, S.ev, fun H1 vs s1 i1 => by
    obtain ⟨v1, v2, rfl, r1, r2⟩ := two_its i1
    exact ⟨v1, v2, rfl, _, ((S.step s1).set hiN hfi r1).set hjN hfj r2, q.mono S.keep⟩⟩
theorem Sv.new {σ : L2.St} {W H : Hp} {g : Addr} {vs : List V} {ts : List Tr} (S : Sv N env own σ W H) (hi : i < N) (hf : freeO i own = true) (ng : W g = none) (eg : H g = some (.lst vs)) (hl : vs.length ≤ 1000000) (p : Paired (It W) ts vs) (hn : ∀ q ∈ own, ∀ c : Cn, σ[q.1]? ≠ some (some (.ref g))) : Sv N (del i env) ((i, .lst ts) :: own) (σ.set i (some (.ref g))) W H := by
  refine ⟨S.vw, (S.ev.sub fun _ h => del_sub h).put fun _ h => del_ne h, ?_⟩
  obtain ⟨ad, h1, h2⟩ := S.ow
  have hne := freeO_ne hf
  have hadn : ∀ p ∈ own, ad p.1 ≠ g := fun p hp e => hn p hp p.2 (by rw [(h1 p hp).1, e])
  obtain ⟨ad', e1, e2⟩ : ∃ ad' : Nat → Addr, ad' i = g ∧ ∀ j, j ≠ i → ad' j = ad j := ⟨fun j => if j = i then g else ad j, if_pos rfl, fun j hj => if_neg hj⟩
  refine ⟨ad', fun p hp => ?_, fun p hp r hr e => ?_⟩
  · rcases List.mem_cons.mp hp with rfl | hp
    · show (σ.set i (some (.ref g)))[i]? = some (some (.ref (ad' i))) ∧ W (ad' i) = none ∧ ∃ us, H (ad' i) = some (.lst us) ∧ us.length ≤ 1000000 ∧ Paired (It W) ts us
      rw [e1]
      exact ⟨by rw [List.getElem?_set_self (by rw [S.ev.1]; exact hi)], ng, vs, eg, hl, ‹_›⟩
    · rw [e2 _ (hne p hp)]
      obtain ⟨a1, r⟩ := h1 p hp
      exact ⟨by rw [List.getElem?_set_ne fun e => hne p hp e.symm]; exact a1, r⟩
  · rcases List.mem_cons.mp hp with rfl | hp <;> rcases List.mem_cons.mp hr with rfl | hr
    · rfl
    · have e : ad' i = ad' r.1 := e
      rw [e1, e2 _ (hne r hr)] at e
      exact absurd e.symm (hadn r hr)
    · have e : ad' p.1 = ad' i := e
      rw [e1, e2 _ (hne p hp)] at e
      exact absurd e (hadn p hp)
    · rw [e2 _ (hne p hp), e2 _ (hne r hr)] at e
      exact h2 p hp r hr e
end
end LwB
namespace LwB
open PySem PySem.Spec PyProof.Rows L2 IqX RvT EnS TL NsT CpN
variable [LwB.KC]
section
variable {N : Nat} {env : EnvT} {own : OwnT}
/-- a new list, left out of the view -/
theorem Sv.hide {σ : L2.St} {W H H1 : Hp} {g : Addr} {vs : List V} (S : Sv N env own σ W H) (s1 : Same H H1) (ng : H g = none) (eg : H1 g = some (.lst vs)) : Sv N env own σ (rm (LwB.vw W H H1) g) H1 ∧ ∀ q ∈ own, ∀ c : Cn, σ[q.1]? ≠ some (some (.ref g)) := by
  have kp : Same W (rm (LwB.vw W H H1) g) := keep_rm S.vw ng
  have S1 := S.step s1
  obtain ⟨ad, h1, h2⟩ := S.ow
  have hadn : ∀ p ∈ own, ad p.1 ≠ g := fun p hp e => by
    obtain ⟨_, _, vs', a3, _⟩ := h1 p hp
    rw [e, ng] at a3
    cases a3
  refine ⟨⟨S1.vw.rm eg, S.ev.mv kp, ad, fun p hp => ?_, h2⟩, fun q hq _ e => ?_⟩
  · obtain ⟨a1, a2, us, a3, a4⟩ := h1 p hp
    exact ⟨a1, by rw [rm_ne (hadn p hp), vw_old a3]; exact a2, us, s1 _ _ a3, Cn.ok_mv kp a4⟩
  · rw [(h1 q hq).1] at e
    exact hadn q hq (V.ref.inj (Option.some.inj (Option.some.inj e)))
end
section
variable {X : Cx} {N : Nat} {env : EnvT} {own : OwnT} {o : Oc} {rest : List Stmt} {pos : Pos} {i j : Nat} {x y : Str} {a b : Expr} {px py pt : Pos} {kt k2 : _} {pt2 : _}
/-- a, b = a new list, a thing that is told -/
theorem s_parFL {ts : List Tr} {T2 : Tr} (hc : X.calm = true) (hN : X.N.Nodup) (hi : X.N[i]? = some x) (hj : X.N[j]? = some y) (hij : i ≠ j) (hx : X.env.scope.names.lookup x = some .local) (hy : X.env.scope.names.lookup y = some .local)
    (ha : PE X a (tLf N env ts)) (hb : PE X b (tLe N env T2)) (hw : swappedStores [.Tuple [.Name x px, .Name y py] kt pt] (.Tuple [a, b] k2 pt2) X.env = pure (some [x, y])) (hrest : PSs X rest (tS N ((j, T2) :: del j (del i env)) ((i, .lst ts) :: own) o)) (hiN : i < N := by decide) (hjN : j < N := by decide) (hfi : freeO i own = true := by rfl) (hfj : freeO j ((i, Cn.lst ts) :: own) = true := by rfl)
    (hs : swapsWithSole [.Tuple [.Name x px, .Name y py] kt pt] (.Tuple [a, b] k2 pt2) pos.line X.env = pure false := by rfl) (hse : starEach [a, b] X.env = (false, eval a X.env) :: starEach [b] X.env := by rfl) (hse2 : starEach [b] X.env = (false, eval b X.env) :: starEach [] X.env := by rfl) :
    PSs X (.Assign [.Tuple [.Name x px, .Name y py] kt pt] (.Tuple [a, b] k2 pt2) pos :: rest) (tS N env own o) :=
  PSs.imp (pss_cons (ps_par (i := i) (j := j) hc hN hi hj hij hx hy (pa_cons (hs := hse) ha (pa_cons (hs := hse2) hb pa_nil)) hw hs) hrest) fun D σ H ⟨W, S, q⟩ => ⟨W, S.vw, S.ev, fun H1 g vs s1 ng eg hl p => by
    obtain ⟨S1, hn⟩ := S.hide s1 ng eg
    refine ⟨_, S1.vw, S1.ev, fun H2 v2 s2 i2 => ⟨_, _, rfl, ?_⟩⟩
    have S2 := S1.step s2
    have S3 := S2.new (i := i) hiN hfi (by rw [vw_old eg]; exact rm_self) (s2 _ _ eg) hl (paired_imp p fun _ _ r => r.mv S1.keep) hn
    exact ⟨_, S3.set hjN hfj i2, q.mono fun a o h => S1.keep a o (keep_rm S.vw ng a o h)⟩⟩
/-- a, b = a thing that is told, a new list (of lists of one's own, too); b may have been one -/
theorem s_parLF {ts : List Tr} {T1 : Tr} (hc : X.calm = true) (hN : X.N.Nodup) (hi : X.N[i]? = some x) (hj : X.N[j]? = some y) (hij : i ≠ j) (hx : X.env.scope.names.lookup x = some .local) (hy : X.env.scope.names.lookup y = some .local)
    (ha : PE X a (tLe N env T1)) (hb : PE X b (tLf N (fullE own env) ts)) (hts : Tr.nolAll ts = true) (hw : swappedStores [.Tuple [.Name x px, .Name y py] kt pt] (.Tuple [a, b] k2 pt2) X.env = pure (some [x, y])) (hrest : PSs X rest (tS N (del j ((i, T1) :: del i env)) ((j, .lst ts) :: delO j own) o)) (hiN : i < N := by decide) (hjN : j < N := by decide) (hfi : freeO i own = true := by rfl) (hfi2 : freeO i (delO j own) = true := by rfl) (hfj : freeO j (delO j own) = true := by rfl)
    (hs : swapsWithSole [.Tuple [.Name x px, .Name y py] kt pt] (.Tuple [a, b] k2 pt2) pos.line X.env = pure false := by rfl) (hse : starEach [a, b] X.env = (false, eval a X.env) :: starEach [b] X.env := by rfl) (hse2 : starEach [b] X.env = (false, eval b X.env) :: starEach [] X.env := by rfl) :
    PSs X (.Assign [.Tuple [.Name x px, .Name y py] kt pt] (.Tuple [a, b] k2 pt2) pos :: rest) (tS N env own o) :=
  PSs.imp (pss_cons (ps_par (i := i) (j := j) hc hN hi hj hij hx hy (pa_cons (hs := hse) ha (pa_cons (hs := hse2) hb pa_nil)) hw hs) hrest) fun D σ H ⟨W, S, q⟩ => ⟨W, S.vw, S.ev, fun H1 v1 s1 i1 => by
    have S1 := S.step s1
    refine ⟨H1, S1.vw.self, S1.full, fun H2 g vs s2 ng eg hl p => ⟨_, _, rfl, ?_⟩⟩
    obtain ⟨S2, hn⟩ := S1.hide s2 ng eg
    have S2' : Sv N env (delO j own) σ _ H2 := S2.sub (fun _ h => h) fun _ h => delO_sub h
    have i1' : It (rm (LwB.vw (LwB.vw W H H1) H1 H2) g) T1 v1 := i1.mv (keep_rm S1.vw ng)
    have S3 := S2'.set (i := i) hiN hfi2 i1'
    have hn' : ∀ r ∈ delO j own, ∀ c : Cn, (σ.set i (some v1))[r.1]? ≠ some (some (.ref g)) := fun r hr c e => by
      rw [List.getElem?_set_ne fun e2 => freeO_ne hfi2 r hr e2.symm] at e
      exact hn r (delO_sub hr) c e
    have p' : Paired (It (rm (LwB.vw (LwB.vw W H H1) H1 H2) g)) ts vs := paired_mem p fun a b ha r => It.nol S2.vw (nol_mem hts ha) (r.mv fun b o h => (S1.vw.self.next s2).sub b o (rm_sub h))
    exact ⟨_, S3.new (i := j) hjN hfj rm_self eg hl p' hn', q.mono fun a o h => keep_rm S1.vw ng a o (S.keep a o h)⟩⟩
theorem le_or {p q : Bool} (ha : PE X a (tLe N env (.bl p))) (hb : p = false → PE X b (tLe N env (.bl q))) : PE X (.BoolOp .Or [a, b] pos) (tLe N env (.bl (p || q))) :=
  PE.imp (pe_or ha (pe_one (pe_when hb))) fun σ H Q ⟨W, x, ev, k⟩ => ⟨W, x, ev, fun H1 v s1 i1 => ⟨p, i1.bl_eq, by
    cases p with
    | true => exact iteT (k H1 _ s1 ⟨0, .bl⟩)
    | false => exact iteF ⟨rfl, LwB.vw W H H1, x.next s1, ev.mv (vw_keep x), fun H2 u s2 i2 => k H2 u (s1.trans s2) (by rw [vw_trans s1 s2] at i2; exact i2)⟩⟩⟩
theorem its_three {H : Hp} {T U V' : Tr} {vs : List V} (p : Paired (It H) [T, U, V'] vs) : ∃ a b c, vs = [a, b, c] ∧ It H T a ∧ It H U b ∧ It H V' c := by
  cases p with
  | cons r1 p => cases p with
    | cons r2 p => cases p with
      | cons r3 p =>
        cases p
        exact ⟨_, _, _, rfl, r1, r2, r3⟩
/-- a, b, c = three things that are told -/
theorem s_par3 {l : Nat} {z : Str} {c : Expr} {pz : Pos} {T1 T2 T3 : Tr} (hc : X.calm = true) (hN : X.N.Nodup) (hi : X.N[i]? = some x) (hj : X.N[j]? = some y) (hl : X.N[l]? = some z) (hij : i ≠ j) (hil : i ≠ l) (hjl : j ≠ l) (hx : X.env.scope.names.lookup x = some .local) (hy : X.env.scope.names.lookup y = some .local) (hz : X.env.scope.names.lookup z = some .local)
    (ha : PE X a (tLe N env T1)) (hb : PE X b (tLe N env T2)) (hcc : PE X c (tLe N env T3)) (hw : swappedStores [.Tuple [.Name x px, .Name y py, .Name z pz] kt pt] (.Tuple [a, b, c] k2 pt2) X.env = pure (some [x, y, z]))
    (hrest : PSs X rest (tS N ((l, T3) :: del l ((j, T2) :: del j ((i, T1) :: del i env))) own o)) (hiN : i < N := by decide) (hjN : j < N := by decide) (hlN : l < N := by decide) (hfi : freeO i own = true := by rfl) (hfj : freeO j own = true := by rfl) (hfl : freeO l own = true := by rfl)
    (hs : swapsWithSole [.Tuple [.Name x px, .Name y py, .Name z pz] kt pt] (.Tuple [a, b, c] k2 pt2) pos.line X.env = pure false := by rfl) (hse : starEach [a, b, c] X.env = (false, eval a X.env) :: starEach [b, c] X.env := by rfl) (hse2 : starEach [b, c] X.env = (false, eval b X.env) :: starEach [c] X.env := by rfl) (hse3 : starEach [c] X.env = (false, eval c X.env) :: starEach [] X.env := by rfl) :
    PSs X (.Assign [.Tuple [.Name x px, .Name y py, .Name z pz] kt pt] (.Tuple [a, b, c] k2 pt2) pos :: rest) (tS N env own o) :=
  PSs.imp (pss_cons (ps_par3 (i := i) (j := j) (l := l) hc hN hi hj hl hij hil hjl hx hy hz (les_cons (hs := hse) ha (les_cons (hs := hse2) hb (les_cons (hs := hse3) hcc les_nil))) hw hs) hrest) fun D σ H ⟨W, S, q⟩ => ⟨W, S.vw, S.ev, fun H1 vs s1 i1 => by
    obtain ⟨v1, v2, v3, rfl, r1, r2, r3⟩ := its_three i1
    exact ⟨v1, v2, v3, rfl, _, (((S.step s1).set hiN hfi r1).set hjN hfj r2).set hlN hfl r3, q.mono S.keep⟩⟩
/-- a, b, c = a tuple of three -/
theorem s_unp3 {l : Nat} {z : Str} {e : Expr} {pz : Pos} {T1 T2 T3 : Tr} (hc : X.calm = true) (hN : X.N.Nodup) (hi : X.N[i]? = some x) (hj : X.N[j]? = some y) (hl : X.N[l]? = some z) (hx : Loc X.env.scope x) (hy : Loc X.env.scope y) (hz : Loc X.env.scope z)
    (he : PE X e (tLe N env (.sq false [T1, T2, T3]))) (hrest : PSs X rest (tS N ((l, T3) :: del l ((j, T2) :: del j ((i, T1) :: del i env))) own o)) (hg1 : PG X (.Name x px) (gName i)) (hg2 : PG X (.Name y py) (gName j)) (hg3 : PG X (.Name z pz) (gName l)) (hiN : i < N := by decide) (hjN : j < N := by decide) (hlN : l < N := by decide) (hfi : freeO i own = true := by rfl) (hfj : freeO j own = true := by rfl) (hfl : freeO l own = true := by rfl)
    (hs : swapsWithSole [.Tuple [.Name x px, .Name y py, .Name z pz] kt pt] e pos.line X.env = pure false := by rfl) (hw : swappedStores [.Tuple [.Name x px, .Name y py, .Name z pz] kt pt] e X.env = pure none := by rfl) (h1 : (assignEach [.Tuple [.Name x px, .Name y py, .Name z pz] kt pt] X.env).map (·.2) = [assign (.Tuple [.Name x px, .Name y py, .Name z pz] kt pt) X.env] := by rfl)
    (ha1 : (assignEach (.Name x px :: [.Name y py, .Name z pz]) X.env).map (·.2) = assign (.Name x px) X.env :: (assignEach [.Name y py, .Name z pz] X.env).map (·.2) := by rfl) (ha2 : (assignEach (.Name y py :: [.Name z pz]) X.env).map (·.2) = assign (.Name y py) X.env :: (assignEach [.Name z pz] X.env).map (·.2) := by rfl) (ha3 : (assignEach (.Name z pz :: []) X.env).map (·.2) = assign (.Name z pz) X.env :: (assignEach [] X.env).map (·.2) := by rfl)
    (hn : (assignEach [.Name x px, .Name y py, .Name z pz] X.env).length = 3 := by rfl) (hst : (assignEach [.Name x px, .Name y py, .Name z pz] X.env).findIdx? (·.1) = none := by rfl) :
    PSs X (.Assign [.Tuple [.Name x px, .Name y py, .Name z pz] kt pt] e pos :: rest) (tS N env own o) :=
  PSs.imp (pss_cons (ps_asg he (pg_tup (n := 3) hc (pgs_cons (hs := ha1) hg1 (pgs_cons (hs := ha2) hg2 (pgs_cons (hs := ha3) hg3 pgs_nil))) hn hst) hs hw h1) hrest) fun D σ H ⟨W, S, q⟩ => ⟨W, S.vw, S.ev, fun H1 v s1 i1 => by
    obtain ⟨g, xs, rfl, hq, hl, pr⟩ := i1.sq_inv
    obtain ⟨v1, v2, v3, rfl, r1, r2, r3⟩ := its_three pr
    have S1 := S.step s1
    have hq1 : Sq false H1 g [v1, v2, v3] := hq.1.mv fun o h => S1.vw.sub g o h
    exact ⟨g, _, rfl, hq1.T, rfl, v1, _, rfl, v2, _, rfl, v3, _, rfl, rfl, _, ((S1.set hiN hfi r1).set hjN hfj r2).set hlN hfl r3, q.mono S.keep⟩⟩
end
end LwB
namespace LwB
open PySem PySem.Spec PyProof.Rows L2 IqX RvT EnS TL NsT CpN
variable [LwB.KC]
section
variable {X : Cx} {N : Nat} {env : EnvT} {own : OwnT} {o : Oc} {rest body : List Stmt} {pos : Pos}
theorem pt_any {c : Expr} : PT X c (fun σ H Q => ∃ t, PT X c t ∧ t σ H Q) := ⟨fun pins s σ H Q I ⟨t, h, q⟩ => h.run pins s σ H Q I q⟩
/-- while c: body, n turns -/
theorem s_while {c : Expr} {n : Nat} (I : Nat → EnvT) (O : Nat → OwnT) (hp : PassesOwn (model X.prog X.w) X.A X.env X.xe) (h0 : SubE (I 0) env) (hO : O 0 = own) (hc : ∀ j, j ≤ n → PT X c (tKn N (fullE (O j) (I j)) (decide (j < n))))
    (hb : ∀ j, j < n → Turn X N body o (I j) (O j) (I (j + 1)) (O (j + 1))) (hrest : PSs X rest (tS N (I n) (O n) o)) : PSs X (.While c body [] pos :: rest) (tS N env own o) :=
  PSs.imp (pss_cons (ps_while hp pt_any pss_any) pss_any) fun D σ H ⟨W, S, q⟩ => by
    subst hO
    refine ⟨fun m σ' H' => ∃ j, j ≤ n ∧ m = n - j ∧ ∃ W', Same W W' ∧ Sv N (I j) (O j) σ' W' H', ⟨n, 0, Nat.zero_le _, rfl, W, Same.refl _, S.sub h0.mem fun _ h => h⟩, ?_⟩
    rintro m σ' H' ⟨j, hj, rfl, W', s', S'⟩
    refine ⟨_, hc j hj, H', S'.vw.self, S'.full, fun H2 s2 => ?_⟩
    have S2 := S'.step s2
    by_cases hjn : j < n
    · rw [decide_eq_true hjn]
      refine iteT ?_
      refine ⟨fun σ3 H3 => ∃ W3, Same W W3 ∧ Sv N (I (j + 1)) (O (j + 1)) σ3 W3 H3, fun σ3 H3 ⟨W3, s3, S3⟩ => ⟨n - (j + 1), by omega, j + 1, hjn, rfl, W3, s3, S3⟩, ?_⟩
      exact (hb j hjn).meets S2 q (s'.trans S'.keep) fun σ3 W3 H3 s3 S3 => ⟨W3, (s'.trans S'.keep).trans s3, S3⟩
    · have e : j = n := by omega
      subst e
      rw [decide_eq_false hjn]
      refine iteF ?_
      exact ⟨_, hrest, _, S2, q.mono (s'.trans S'.keep)⟩
end
section
variable {X : Cx} {N : Nat} {env : EnvT} {own : OwnT} {o : Oc} {rest body : List Stmt} {pos px py pt : Pos} {i j k : Nat} {x y : Str} {kt : _}
/-- a, b = a tuple of two -/
theorem s_unp2 {e : Expr} {T1 T2 : Tr} (hc : X.calm = true) (hN : X.N.Nodup) (hi : X.N[i]? = some x) (hj : X.N[j]? = some y) (hx : Loc X.env.scope x) (hy : Loc X.env.scope y)
    (he : PE X e (tLe N env (.sq false [T1, T2]))) (hrest : PSs X rest (tS N ((j, T2) :: del j ((i, T1) :: del i env)) own o)) (hg1 : PG X (.Name x px) (gName i)) (hg2 : PG X (.Name y py) (gName j)) (hiN : i < N := by decide) (hjN : j < N := by decide) (hfi : freeO i own = true := by rfl) (hfj : freeO j own = true := by rfl)
    (hs : swapsWithSole [.Tuple [.Name x px, .Name y py] kt pt] e pos.line X.env = pure false := by rfl) (hw : swappedStores [.Tuple [.Name x px, .Name y py] kt pt] e X.env = pure none := by rfl) (h1 : (assignEach [.Tuple [.Name x px, .Name y py] kt pt] X.env).map (·.2) = [assign (.Tuple [.Name x px, .Name y py] kt pt) X.env] := by rfl)
    (ha1 : (assignEach (.Name x px :: [.Name y py]) X.env).map (·.2) = assign (.Name x px) X.env :: (assignEach [.Name y py] X.env).map (·.2) := by rfl) (ha2 : (assignEach (.Name y py :: []) X.env).map (·.2) = assign (.Name y py) X.env :: (assignEach [] X.env).map (·.2) := by rfl)
    (hn : (assignEach [.Name x px, .Name y py] X.env).length = 2 := by rfl) (hst : (assignEach [.Name x px, .Name y py] X.env).findIdx? (·.1) = none := by rfl) :
    PSs X (.Assign [.Tuple [.Name x px, .Name y py] kt pt] e pos :: rest) (tS N env own o) :=
  PSs.imp (pss_cons (ps_asg he (pg_tup (n := 2) hc (pgs_cons (hs := ha1) hg1 (pgs_cons (hs := ha2) hg2 pgs_nil)) hn hst) hs hw h1) hrest) fun D σ H ⟨W, S, q⟩ => ⟨W, S.vw, S.ev, fun H1 v s1 i1 => by
    obtain ⟨g, xs, rfl, hq, hl, pr⟩ := i1.sq_inv
    obtain ⟨v1, v2, rfl, r1, r2⟩ := two_its pr
    have S1 := S.step s1
    have hq1 : Sq false H1 g [v1, v2] := hq.1.mv fun o h => S1.vw.sub g o h
    exact ⟨g, _, rfl, hq1.T, rfl, v1, _, rfl, v2, _, rfl, rfl, _, (S1.set hiN hfi r1).set hjN hfj r2, q.mono S.keep⟩⟩
theorem le_neg {a : Expr} {z : Int} (h : PE X a (tLe N env (.int z))) : PE X (.UnaryOp .USub a pos) (tLe N env (.int (-z))) :=
  PE.imp (pe_un un_neg h) fun σ H Q ⟨W, x, ev, q⟩ => ⟨W, x, ev, fun H1 v s1 i1 => ⟨z, i1.int_eq, q _ _ s1 ⟨0, .int⟩⟩⟩
theorem cut_fromN (xs : List V) (n : Nat) (h : 0 < n) : cutV xs (some (-(n : Int))) none = xs.drop (xs.length - n) := by
  unfold cutV
  have e : HT.sIx xs.length 0 (some (-(n : Int))) = xs.length - n := by
    show (if -(n : Int) < 0 then (-(n : Int) + (xs.length : Int)).toNat else _) = _
    rw [if_pos (by omega)]
    omega
  rw [e, HT.sIx_none, List.take_of_length_le (by rw [List.length_drop]; exact Nat.le_refl _)]
theorem le_fromN {e i : Expr} {t : Bool} {ts : List Tr} {n : Nat} {z : Int} {spos} (he : PE X e (tLe N env (.sq t ts))) (hi : PE X i (tLe N env (.int z))) (hz : z = -(n : Int)) (hn : 0 < n) : PE X (.Subscript e (.Slice (some i) none none spos) pos) (tLe N env (.sq t (ts.drop (ts.length - n)))) :=
  PE.imp (pe_slice sl_sq he (po_some hi) po_none) fun σ H Q ⟨W, x, ev, q⟩ => ⟨W, x, ev, fun H1 v s1 i1 => by
    refine ⟨vw W H H1, x.next s1, ev.mv (vw_keep x), fun H2 u s2 i2 => ?_⟩
    rw [vw_trans s1 s2] at i2
    have xn := x.next (s1.trans s2)
    have i1' := i1.mv (vw_mono s2)
    obtain ⟨a, xs, rfl, hs, hl, pr⟩ := i1'.sq_inv
    have hq : Sq t H2 a xs := hs.1.mv fun o e => xn.sub a o e
    rw [i2.int_eq]
    refine ⟨_, rfl, t, a, xs, rfl, hq, fun H' p s hn' h => q H' _ ((s1.trans s2).trans s) ?_⟩
    rw [hz, cut_fromN _ _ hn] at hn' h
    rw [← vw_trans (s1.trans s2) s]
    have := le_cut (a := a) xn s hn' h (by rw [List.length_drop]; omega) (paired_drop (xs.length - n) (paired_imp pr fun _ _ r => r.mv (vw_keep xn)))
    rw [← paired_len pr] at this
    exact this⟩
/-- for y in range(lo, n), with an early end -/
theorem s_forR2E {e1 e2 : Expr} {lo n : Nat} {tp p rpos : Pos} (st : Nat → Bool) (I : Nat → EnvT) (O : Nat → OwnT) (hc : X.calm = true) (hp : PassesOwn (model X.prog X.w) X.A X.env X.xe) (hm : X.mg "range" = none) (he1 : PE X e1 (tLe N (fullE own env) (.int (lo : Nat)))) (he2 : PE X e2 (tLe N (fullE own env) (.int (n : Nat)))) (hlo : lo < 1000000) (hn : n < 1000000) (hg : PG X (.Name y tp) (gName k)) (h0 : SubE (I 0) env) (hO : O 0 = own)
    (hb : ∀ j, j < n - lo → st j = false → (∀ i, i < j → st i = false) → Turn X N body o ((k, .int ((lo + j : Nat) : Int)) :: del k (I j)) (O j) (I (j + 1)) (O (j + 1))) (hr : ∀ j, j < n - lo → st j = true → (∀ i, i < j → st i = false) → PSs X body (tS N ((k, .int ((lo + j : Nat) : Int)) :: del k (I j)) (O j) o)) (hrest : (∀ j, j < n - lo → st j = false) → PSs X rest (tS N (I (n - lo)) (O (n - lo)) o)) (ho : o.isRet = true := by rfl) (hk : k < N := by decide) (hf : ∀ j, freeO k (O j) = true := by intro _; rfl) (hgl : Gl X "range" := by rfl)
    (hse : starEach [e1, e2] X.env = [(false, eval e1 X.env), (false, eval e2 X.env)] := by rfl) (hse1 : starEach [e2] X.env = [(false, eval e2 X.env)] := by rfl) (hse2 : starEach [e1, e2] X.env = (false, eval e1 X.env) :: starEach [e2] X.env := by rfl) (hse3 : starEach [e2] X.env = (false, eval e2 X.env) :: starEach [] X.env := by rfl) (hs : ∀ x, foldedSetIterable (.Call (.Name "range" p) [e1, e2] [] rpos) X.env x = pure x := by intro _; rfl) : PSs X (.For (.Name y tp) (.Call (.Name "range" p) [e1, e2] [] rpos) body [] pos :: rest) (tS N env own o) :=
  PSs.imp (pss_cons (ps_for hp hc (pi_range2 hgl hm (les_cons (hs := hse2) he1 (les_cons (hs := hse3) he2 les_nil)) hse hse1) hg pss_any hs) pss_any) fun D σ H ⟨W, S, q⟩ => ⟨H, S.vw.self, S.full, fun H1 vs s1 i1 => by
    obtain ⟨v1, v2, rfl, r1, r2⟩ := two_its i1
    rw [r1.int_eq, r2.int_eq]
    have S1 := S.step s1
    subst hO
    refine ⟨(lo : Int), (n : Int), rfl, ⟨by omega, by omega, by omega, by omega⟩, ?_⟩
    refine for_range (g := gName k) (tb := fun D σ H => ∃ t, PSs X body t ∧ t D σ H) (D := { D with nx := fun σ H => ∃ t, PSs X rest t ∧ t D σ H }) (lo := (lo : Int)) (n := ((n : Int) - lo).toNat) (fun j σ' H' => (∀ i, i < j → st i = false) ∧ ∃ W', Same (LwB.vw W H H1) W' ∧ Sv N (I j) (O j) σ' W' H') ⟨fun i h => absurd h (Nat.not_lt_zero _), _, Same.refl _, S1.sub h0.mem fun _ h => h⟩ ?_ ?_
    · rintro j σ' H' hj ⟨hst, W', s', S'⟩
      have hx : (V.int ((lo : Int) + (j : Int))) = V.int ((lo + j : Nat) : Int) := by congr 1
      rw [hx]
      have hjn : j < n - lo := by omega
      cases hs : st j with
      | true =>
        refine ⟨_, hr j hjn hs hst, W', S'.set hk (hf j) ⟨0, .int⟩, ?_⟩
        have q' := q.mono (S.keep.trans s')
        cases o with
        | go _ _ => cases ho
        | ret _ _ => exact q'
        | retL _ _ => exact q'
        | ct _ _ => cases ho
        | bk _ _ => cases ho
        | any _ _ => first | exact q' | cases ho
      | false =>
        exact (hb j hjn hs hst).meets (S'.set hk (hf j) ⟨0, .int⟩) q (S.keep.trans s') fun σ2 W2 H2 s2 S2 => ⟨fun i hi => (Nat.lt_succ_iff_lt_or_eq.mp hi).elim (hst i) fun e => e ▸ hs, W2, s'.trans s2, S2⟩
    · rintro σ' H' ⟨hst, W', s', S'⟩
      have e : ((n : Int) - lo).toNat = n - lo := by omega
      rw [e] at S' hst
      exact ⟨_, hrest hst, W', S', q.mono (S.keep.trans s')⟩⟩
end
end LwB
namespace LwB
open PySem PySem.Spec PyProof.Rows L2 IqX RvT EnS TL NsT
variable [LwB.KC]
/-! ### comprehensions over range(n) -/
theorem lc_mfR {α β : Type} {n : Nat} {g : TG} {tt : TT} {te : TE} {vs : List Nat} {σ : L2.St} {H1 : Hp} {D : Addr} {Qd : Hp → Prop} (as : List α) (out : α → Option β) (R : Hp → β → V → Prop)
    (nD : H1 D = none) (hl : n ≤ 1000000) (hlen : as.length = n)
    (mono : ∀ H H' z v, Same H H' → R H z v → R H' z v) (put : ∀ H z v ys o, Same H1 H → H D = some (.lst ys) → R H z v → R (upd H D o) z v)
    (step : ∀ (i : Nat) z H (C : V → Hp → Prop) (C0 : Hp → Prop), as[i]? = some z → Same H1 H → (∃ ys, H D = some (.lst ys)) → (∀ y H4 z', Same H H4 → out z = some z' → R H4 z' y → C y H4) → (∀ H3, Same H H3 → out z = none → C0 H3) →
      g (.int (0 + (i : Int))) (wipe σ vs) H fun σ2 H2 => wipe σ2 vs = wipe σ vs ∧ tt σ2 H2 fun b H3 => if b = true then te σ2 H3 C else C0 H3)
    (hd : ∀ H ys, Same H1 H → H D = some (.lst ys) → Paired (R H) (as.filterMap out) ys → ys.length ≤ n → Qd H) :
    ∃ W : Nat → Nat → Hp → Prop, (∃ m, W 0 m (upd H1 D (.lst []))) ∧ ∀ i m H, W i m H →
      ((Itr 0 n).stop i H ∧ Qd H) ∨ ((Itr 0 n).go i H ∧ ∃ Nx : Hp → Prop, (∀ H', Nx H' → ∃ m', m' < m ∧ W (i + 1) m' H') ∧ ∀ x H', (Itr 0 n).yld i H x H' → g x (wipe σ vs) H' fun σ2 H2 => wipe σ2 vs = wipe σ vs ∧ tt σ2 H2 fun b H3 =>
        if b = true then te σ2 H3 fun y H4 => ∃ acc, H4 D = some (.lst acc) ∧ acc.length < sizeLine ∧ Nx (upd H4 D (.lst (acc ++ [y]))) else Nx H3) := by
  refine lc_range (fun i H => Same H1 H ∧ ∃ ys, H D = some (.lst ys) ∧ Paired (R H) ((as.take i).filterMap out) ys) ⟨same_new nD, [], upd_same, .nil⟩ ?_ ?_
  · rintro i H hix ⟨sm, ys, eD, pr⟩
    obtain ⟨z, hz⟩ : ∃ z, as[i]? = some z := ⟨as[i]'(by omega), List.getElem?_eq_getElem (by omega)⟩
    refine step i z H _ _ hz sm ⟨ys, eD⟩ (fun y H4 z' s4 ez r => ?_) (fun H3 s3 ez => ?_)
    · have e4 : H4 D = some (.lst ys) := s4 _ _ eD
      have sm4 := sm.trans s4
      have hyl : ys.length ≤ i := by
        have h1 := paired_len pr
        have h2 := fm_len out (as.take i)
        rw [List.length_take] at h2
        omega
      refine ⟨ys, e4, Nat.lt_of_le_of_lt hyl (Nat.lt_of_lt_of_le hix (Nat.le_trans hl (by decide))), Same.young sm4 nD, ys ++ [y], upd_same, ?_⟩
      rw [take_snoc hz, List.filterMap_append, List.filterMap_cons_some ez]
      exact paired_snoc (paired_imp pr fun b' v h => put H4 b' v ys _ sm4 e4 (mono H H4 b' v s4 h)) (put H4 z' y ys _ sm4 e4 r)
    · refine ⟨sm.trans s3, ys, s3 _ _ eD, ?_⟩
      rw [take_snoc hz, List.filterMap_append, List.filterMap_cons_none ez]
      show Paired (R H3) ((as.take i).filterMap out ++ []) ys
      rw [List.append_nil]
      exact paired_imp pr fun b' v h => mono H H3 b' v s3 h
  · rintro H ⟨sm, ys, eD, pr⟩
    rw [← hlen, List.take_length] at pr
    refine hd H ys sm eD pr ?_
    have h1 := paired_len pr
    have h2 := fm_len out as
    omega
section
variable {X : Cx} {N : Nat} {env : EnvT}
theorem lf_coreR {k n : Nat} {Pr : Tr → Prop} {c : Tr → Bool} {F : Tr → Tr} {tt : TT} (hk : k < N) (hP : ∀ j, j < n → Pr (.int (j : Nat))) (hn : n ≤ 1000000) {σ : L2.St} {H : Hp} {Q : VK}
    (htt : ∀ σ H T (Kb : Bool → Hp → Prop) W, Pr T → Vw W H → Ev N ((k, T) :: del k env) σ W → (∀ H', Same H H' → Kb (c T) H') → tt σ H Kb) (h : tLf N env ((((List.range n).map fun j : Nat => Tr.int (j : Nat)).filter c).map F) σ H Q) :
    tLc (iRng1 (tLes N env [.int (n : Nat)])) (gName k) tt (tFam N k (del k env) Pr F) [k] σ H Q := by
  obtain ⟨W, x, ev, q⟩ := h
  refine ⟨W, x, ev, fun H1 vs s1 i1 => ?_⟩
  obtain ⟨v1, rfl, r1⟩ := its_one i1
  rw [r1.int_eq]
  have xn := x.next s1
  have evn : Ev N (del k env) σ (vw W H H1) := (ev.sub fun _ h => del_sub h).mv (vw_keep x)
  refine ⟨(n : Int), rfl, by omega, by omega, fun D nD => ?_⟩
  have domB : ∀ {H2 : Hp}, Same H1 H2 → (∃ ys, H2 D = some (.lst ys)) → ∀ b, H2 b = none → upd H1 D (.lst []) b = none := fun {H2} sm ⟨ys, eD⟩ b hb => by
    by_cases hbD : b = D
    · subst hbD
      rw [eD] at hb
      cases hb
    · rw [upd_ne hbD]
      exact sm.free hb
  have WD : vw W H H1 D = none := xn.off nD
  have hmono : ∀ H2 b o, vw W H H1 b = some o → vw (vw W H H1) (upd H1 D (.lst [])) H2 b = some o := fun H2 b o e => by
    have h1 := xn.sub b o e
    have hbD : b ≠ D := by
      rintro rfl
      rw [nD] at h1
      cases h1
    rw [vw_old (o := o) (by rw [upd_ne hbD]; exact h1)]
    exact e
  have hV : ∀ H2, Same H1 H2 → (∃ ys, H2 D = some (.lst ys)) → Vw (vw (vw W H H1) (upd H1 D (.lst [])) H2) H2 := fun H2 sm eD => by
    refine ⟨fun b o e => ?_, fun b o e => ?_, xn.good.mv sm⟩
    · rcases dom_cases (upd H1 D (.lst [])) b with hb | ⟨u, hb⟩
      · rw [vw_new hb] at e
        exact e
      · rw [vw_old hb] at e
        exact sm b o (xn.sub b o e)
    · rcases dom_cases (upd H1 D (.lst [])) b with hb | ⟨u, hb⟩
      · rw [vw_new hb]
        exact .inl e
      · by_cases hbD : b = D
        · subst hbD
          obtain ⟨ys, e2⟩ := eD
          rw [e2] at e
          cases e
          exact .inr ⟨ys, rfl⟩
        · rw [vw_old hb]
          rw [upd_ne hbD] at hb
          have e3 := sm b u hb
          rw [e] at e3
          cases e3
          exact xn.all b o hb
  refine lc_mfR (n := ((n : Int)).toNat) ((List.range n).map fun j : Nat => Tr.int (j : Nat)) (fun T => if c T = true then some (F T) else none) (fun H' z v => It (vw (vw W H H1) (upd H1 D (.lst [])) H') z v) nD (by omega) (by rw [List.length_map, List.length_range]; omega) ?_ ?_ ?_ ?_
  · exact fun Ha Hb z v' s r => r.mv (vw_mono s)
  · intro Ha z v' ys o sm e r
    refine r.mv fun b o' e' => ?_
    rcases dom_cases (upd H1 D (.lst [])) b with hb | ⟨u, hb⟩
    · rw [vw_new hb] at e' ⊢
      rw [upd_ne]
      · exact e'
      · rintro rfl
        rw [upd_same] at hb
        cases hb
    · rw [vw_old hb] at e' ⊢
      exact e'
  · intro i T H2 C C0 hT sm eD yes no
    obtain ⟨j, hj, rfl⟩ := List.mem_map.mp (List.mem_of_getElem? hT)
    have hj := List.mem_range.mp hj
    have eij : i = j := by
      have hin : i < n := by
        have := (List.getElem?_eq_some_iff.mp hT).1
        rw [List.length_map, List.length_range] at this
        exact this
      rw [List.getElem?_map, List.getElem?_range hin] at hT
      have := Tr.int.inj (Option.some.inj hT)
      omega
    subst eij
    have ez : V.int (0 + (i : Int)) = V.int (i : Nat) := by rw [Int.zero_add]
    rw [ez]
    have iz : It (vw W H H1) (.int (i : Nat)) (.int (i : Nat)) := ⟨0, .int⟩
    generalize hT' : Tr.int (i : Nat) = T at yes no iz
    have hp : Pr T := hT' ▸ hP i hj
    refine ⟨?_, ?_⟩
    · show ((wipe σ [k]).set k (some (.int (i : Nat)))).set k none = wipe σ [k]
      show ((σ.set k none).set k (some (.int (i : Nat)))).set k none = σ.set k none
      rw [List.set_set, List.set_set]
    · have evk : ∀ H3, Ev N ((k, T) :: del k env) ((σ.set k none).set k (some (.int (i : Nat)))) (vw (vw W H H1) (upd H1 D (.lst [])) H3) := fun H3 => ((evn.mv (hmono H3)).put fun _ h => del_ne h).set hk (fun _ h => del_ne h) (iz.mv (hmono H3))
      refine htt _ H2 T _ _ hp (hV H2 sm eD) (evk H2) fun H3 s3 => ?_
      have eD3 : ∃ ys, H3 D = some (.lst ys) := by
        obtain ⟨ys, e⟩ := eD
        exact ⟨ys, s3 _ _ e⟩
      by_cases hc : c T = true
      · rw [hc]
        refine iteT ⟨vw (vw W H H1) (upd H1 D (.lst [])) H3, T, hp, hV H3 (sm.trans s3) eD3, evk H3, fun H' v' s' i' => ?_⟩
        rw [vw_two (domB (sm.trans s3) eD3) s'] at i'
        exact yes v' H' _ (s3.trans s') (if_pos hc) i'
      · have hc' : c T = false := by simpa using hc
        rw [hc']
        exact iteF (no H3 s3 (if_neg hc))
  · intro H2 ys sm eD p2 hyl
    have nDH : H D = none := s1.free nD
    have em := fm_fm c F ((List.range n).map fun j : Nat => Tr.int (j : Nat))
    rw [em] at p2
    refine q H2 D ys (s1.trans sm) nDH eD (by omega) (paired_imp p2 fun _ _ r => r.mv fun b o e => ?_)
    have hbD : b ≠ D := by
      rintro rfl
      rw [vw_old (o := .lst []) upd_same, WD] at e
      cases e
    rw [rm_ne hbD, ← vw_trans s1 sm]
    rcases dom_cases H1 b with hb | ⟨u, hb⟩
    · rw [vw_new (by rw [upd_ne hbD]; exact hb)] at e
      rw [vw_new hb]
      exact e
    · rw [vw_old (o := u) (by rw [upd_ne hbD]; exact hb)] at e
      rw [vw_old hb]
      exact e
/-- [elt for y in range(e)] -/
theorem lf_mapR {elt e : Expr} {scope : Scope} {pos tp p rpos : Pos} {y : Str} {k n : Nat} (F : Nat → Tr) (G : Tr → Tr) (hG : ∀ j : Nat, G (.int (j : Nat)) = F j) (hc : X.calm = true) (hN : X.N.Nodup) (hm : X.mg "range" = none) (he : PE X e (tLe N env (.int (n : Nat)))) (hn : n ≤ 1000000) (ok : BlkOk X.N X.env.scope scope [(y, k)])
    (hg : ∀ (s : Shared) (H : Hp) (C : Addr) (cl : List (Str × Addr)) (fp : List Addr), PG (X.blk s H scope (compEnvC scope cl C X.env) fp) (.Name y tp) (gName k))
    (hel : ∀ (s : Shared) (H : Hp) (C : Addr) (cl : List (Str × Addr)) (fp : List Addr) (j : Nat), j < n → PE (X.blk s H scope (compEnvC scope cl C X.env) fp) elt (tLe N ((k, .int (j : Nat)) :: del k env) (F j))) (hk : k < N := by decide) (hgl : Gl X "range" := by rfl)
    (hse : starEach [e] X.env = [(false, eval e X.env)] := by rfl) (hse2 : starEach [e] X.env = (false, eval e X.env) :: starEach [] X.env := by rfl) (hs : ∀ x, foldedSetIterable (.Call (.Name "range" p) [e] [] rpos) X.env x = pure x := by intro _; rfl) :
    PE X (.ListComp elt [⟨.Name y tp, .Call (.Name "range" p) [e] [] rpos, [], 0⟩] scope pos) (tLf N env ((List.range n).map F)) :=
  PE.imp (pe_lc (own := [(y, k)]) (g := gName k) hc hN (pi_range1 hgl hm (les_cons (hs := hse2) he les_nil) hse) ok hg (fun _ _ _ _ _ => pts_nil) (fun s H C cl fp => le_fam (Pr := fun T => ∃ j : Nat, j < n ∧ T = .int (j : Nat)) (F := G) (fun T ⟨j, hj, e⟩ => by
    subst e
    rw [hG]
    exact hel s H C cl fp j hj)) hs) fun σ H Q h => lf_coreR (c := fun _ => true) hk (fun j hj => ⟨j, hj, rfl⟩) hn (fun σ H T Kb W _ _ _ q => q H (Same.refl H)) (by
    have e : ((List.range n).map fun j : Nat => Tr.int (j : Nat)).filter (fun _ => true) = (List.range n).map fun j : Nat => Tr.int (j : Nat) := List.filter_eq_self.mpr fun _ _ => rfl
    rw [e, List.map_map]
    have e2 : (G ∘ fun j : Nat => Tr.int (j : Nat)) = F := funext hG
    rw [e2]
    exact h)
end
end LwB
namespace LwB
open PySem PySem.Spec PyProof.Rows L2 IqX RvT EnS TL NsT CpN
variable [LwB.KC]
/-! ### x in t, x not in t: a list or a tuple of trees -/
def seqD (t : Bool) (ds : List PyData) : PyData := if t = true then .list ds else .tuple ds
def rInT (K : PySem.W.Frag) (neg : Bool) : R2 := fun x y H Q => ∃ (t : Bool) (d : PyData) (ds : List PyData), Dp K H x d ∧ Dp K H y (seqD t ds) ∧ SeqAt.shaped d = true ∧ SeqAt.shaped (seqD t ds) = true ∧ Q (.bl (if neg = true then !ds.any fun z => PyData.eqv z d else ds.any fun z => PyData.eqv z d)) H
theorem op_inT {X : Cx} (K : PySem.W.Frag) (hu : X.A.units + 65 < cLine) (hK : X.K = K := by rfl) : OpR X (compareOp .In) (rInT K false) := by
  subst hK
  intro pins s σ H x y v u Q I rx ry h
  obtain ⟨t, d, ds, hd, he, sd, se, q⟩ := h
  obtain ⟨as, r1⟩ := Dp.reads I d x v hd rx
  obtain ⟨bs, r2⟩ := Dp.reads I (seqD t ds) y u he ry
  cases t with
  | true => exact SeqAt.in_list_reads r2 r1 (SeqAt.canLay_of_shaped se) (SeqAt.canLay_of_shaped sd) (room_in_shaped sd hu) ⟨.bl _, H, I, rfl, q⟩
  | false => exact SeqAt.in_tuple_reads r2 r1 (SeqAt.canLay_of_shaped se) (SeqAt.canLay_of_shaped sd) (room_in_shaped sd hu) ⟨.bl _, H, I, rfl, q⟩
theorem op_notInT {X : Cx} (K : PySem.W.Frag) (hu : X.A.units + 65 < cLine) (hK : X.K = K := by rfl) : OpR X (compareOp .NotIn) (rInT K true) := by
  subst hK
  intro pins s σ H x y v u Q I rx ry h
  obtain ⟨t, d, ds, hd, he, sd, se, q⟩ := h
  obtain ⟨as, r1⟩ := Dp.reads I d x v hd rx
  obtain ⟨bs, r2⟩ := Dp.reads I (seqD t ds) y u he ry
  cases t with
  | true => exact SeqAt.notIn_list_reads r2 r1 (SeqAt.canLay_of_shaped se) (SeqAt.canLay_of_shaped sd) (room_in_shaped sd hu) ⟨.bl _, H, I, rfl, q⟩
  | false => exact SeqAt.notIn_tuple_reads r2 r1 (SeqAt.canLay_of_shaped se) (SeqAt.canLay_of_shaped sd) (room_in_shaped sd hu) ⟨.bl _, H, I, rfl, q⟩
theorem r_inT {K : PySem.W.Frag} {neg t : Bool} {T : Tr} {ts : List Tr} (h1 : okS T = true) (h2 : okS (.sq t ts) = true) (d1 : T.dep ≤ 60) (d2 : (Tr.sq t ts).dep ≤ 60) : ∀ H x y (Q : VK), It H T x → It H (.sq t ts) y → Q (.bl (if neg = true then !(dataTs ts).any fun z => PyData.eqv z (dataT T) else (dataTs ts).any fun z => PyData.eqv z (dataT T))) H → rInT K neg x y H Q :=
  fun H x y Q ⟨_, i1⟩ ⟨_, i2⟩ q => ⟨t, _, _, dp_is T i1, dp_is (.sq t ts) i2, shaped_of h1 d1, shaped_of h2 d2, q⟩
/-! ### isinstance over trees -/
def tyT : Tr → String
  | .non => "NoneType"
  | .bl _ => "bool"
  | .str _ => "str"
  | .int _ => "int"
  | .sq t _ => if t = true then "list" else "tuple"
theorem tyT_is {K : PySem.W.Frag} {H : Hp} : ∀ {T : Tr} {v : V}, It H T v → TyX K H v (.type (tyT T))
  | .non, v, h => by
    rw [h.non_eq]
    exact .base .non
  | .bl b, v, h => by
    rw [h.bl_eq]
    exact .base (.bl _)
  | .str z, v, h => by
    rw [h.str_eq]
    exact .base (.str _)
  | .int i, v, h => by
    rw [h.int_eq]
    exact .base (.int _)
  | .sq t ts, v, h => by
    obtain ⟨a, xs, rfl, hs, _, _⟩ := h.sq_inv
    exact hs.1.ty
theorem le_isT {X : Cx} {N : Nat} {env : EnvT} {e : Expr} {T : Tr} {b : Bool} {A : Str} {B : String} {p p2 pos : Pos} (hm : X.mg "isinstance" = none) (hm2 : X.mg A = none) (he : PE X e (tLe N env T)) (hk : kitB (tyT T) B = some b) (hv : bootBuiltins A = some (.type B) := by decide +kernel) (hg : Gl X "isinstance" := by rfl) (hg2 : Gl X A := by rfl) (hn : A ≠ Str.ofString "__name__" := by decide) (hd : (A == ("__debug__" : Str)) = false := by decide)
    (hs : starEach [e, .Name A p2] X.env = (false, eval e X.env) :: starEach [.Name A p2] X.env := by rfl) (hs2 : starEach [.Name A p2] X.env = (false, eval (.Name A p2) X.env) :: starEach [] X.env := by rfl) (hpl : (backTo pos (starEach [.Name A p2] X.env)).any (·.1) = false := by rfl) :
    PE X (.Call (.Name "isinstance" p) [e, .Name A p2] [] pos) (tLe N env (.bl b)) :=
  PE.imp (pe_isQ hm (pa_cons (hs := hs) he (pa_cons (hs := hs2) (pe_ty (n := B) hm2 hv hg2 hn hd) pa_nil)) hg hs hpl) fun σ H Q ⟨W, x, ev, q⟩ => ⟨W, x, ev, fun H1 v s1 i1 =>
    ⟨v, B, tyT T, b, rfl, tyT_is (i1.mv (x.next s1).sub), hk, q H1 _ s1 ⟨0, .bl⟩⟩⟩
end LwB
namespace LwB
open PySem PySem.Spec PyProof.Rows L2 IqX RvT EnS TL NsT CpN
variable [LwB.KC]
/-! ### comprehensions whose element is looked at only where the test holds -/
section
variable {X : Cx} {N : Nat} {env : EnvT}
theorem lf_coreC {K : PySem.W.Frag} {k : Nat} {t : Bool} {ts : List Tr} {Pr : Tr → Prop} {c : Tr → Bool} {F : Tr → Tr} {tt : TT} (hk : k < N) (hP : ∀ T ∈ ts, Pr T) {σ : L2.St} {H : Hp} {Q : VK}
    (htt : ∀ σ H T (Kb : Bool → Hp → Prop) W, Pr T → Vw W H → Ev N ((k, T) :: del k env) σ W → (∀ H', Same H H' → Kb (c T) H') → tt σ H Kb) (h : tLf N env ((ts.filter c).map F) σ H Q) :
    tLc (iSeq K (tLe N env (.sq t ts))) (gName k) tt (tFam N k (del k env) (fun T => Pr T ∧ c T = true) F) [k] σ H Q := by
  obtain ⟨W, x, ev, q⟩ := h
  refine ⟨W, x, ev, fun H1 v s1 i1 => ?_⟩
  obtain ⟨a, xs, rfl, ha, la, pa⟩ := i1.sq_inv
  have xn := x.next s1
  have evn : Ev N (del k env) σ (vw W H H1) := (ev.sub fun _ h => del_sub h).mv (vw_keep x)
  have hq : Sq t H1 a xs := ha.1.mv fun o e => xn.sub a o e
  refine ⟨t, a, rfl, ⟨xs, hq.B⟩, fun D nD => ?_⟩
  have domB : ∀ {H2 : Hp}, Same H1 H2 → (∃ ys, H2 D = some (.lst ys)) → ∀ b, H2 b = none → upd H1 D (.lst []) b = none := fun {H2} sm ⟨ys, eD⟩ b hb => by
    by_cases hbD : b = D
    · subst hbD
      rw [eD] at hb
      cases hb
    · rw [upd_ne hbD]
      exact sm.free hb
  have WD : vw W H H1 D = none := xn.off nD
  have hmono : ∀ H2 b o, vw W H H1 b = some o → vw (vw W H H1) (upd H1 D (.lst [])) H2 b = some o := fun H2 b o e => by
    have h1 := xn.sub b o e
    have hbD : b ≠ D := by
      rintro rfl
      rw [nD] at h1
      cases h1
    rw [vw_old (o := o) (by rw [upd_ne hbD]; exact h1)]
    exact e
  have hV : ∀ H2, Same H1 H2 → (∃ ys, H2 D = some (.lst ys)) → Vw (vw (vw W H H1) (upd H1 D (.lst [])) H2) H2 := fun H2 sm eD => by
    refine ⟨fun b o e => ?_, fun b o e => ?_, xn.good.mv sm⟩
    · rcases dom_cases (upd H1 D (.lst [])) b with hb | ⟨u, hb⟩
      · rw [vw_new hb] at e
        exact e
      · rw [vw_old hb] at e
        exact sm b o (xn.sub b o e)
    · rcases dom_cases (upd H1 D (.lst [])) b with hb | ⟨u, hb⟩
      · rw [vw_new hb]
        exact .inl e
      · by_cases hbD : b = D
        · subst hbD
          obtain ⟨ys, e2⟩ := eD
          rw [e2] at e
          cases e
          exact .inr ⟨ys, rfl⟩
        · rw [vw_old hb]
          rw [upd_ne hbD] at hb
          have e3 := sm b u hb
          rw [e] at e3
          cases e3
          exact xn.all b o hb
  refine lc_mf (K := K) ts (fun T => if c T = true then some (F T) else none) (fun H' z v => It (vw (vw W H H1) (upd H1 D (.lst [])) H') z v) nD hq la (paired_len pa) ?_ ?_ ?_ ?_
  · exact fun Ha Hb z v' s r => r.mv (vw_mono s)
  · intro Ha z v' ys o sm e r
    refine r.mv fun b o' e' => ?_
    rcases dom_cases (upd H1 D (.lst [])) b with hb | ⟨u, hb⟩
    · rw [vw_new hb] at e' ⊢
      rw [upd_ne]
      · exact e'
      · rintro rfl
        rw [upd_same] at hb
        cases hb
    · rw [vw_old hb] at e' ⊢
      exact e'
  · intro i T z H2 C C0 hT hz sm eD yes no
    have iz := paired_both pa hT hz
    have hp := hP T (List.mem_of_getElem? hT)
    refine ⟨?_, ?_⟩
    · show ((wipe σ [k]).set k (some z)).set k none = wipe σ [k]
      show ((σ.set k none).set k (some z)).set k none = σ.set k none
      rw [List.set_set, List.set_set]
    · have evk : ∀ H3, Ev N ((k, T) :: del k env) ((σ.set k none).set k (some z)) (vw (vw W H H1) (upd H1 D (.lst [])) H3) := fun H3 => ((evn.mv (hmono H3)).put fun _ h => del_ne h).set hk (fun _ h => del_ne h) (iz.mv (hmono H3))
      refine htt _ H2 T _ _ hp (hV H2 sm eD) (evk H2) fun H3 s3 => ?_
      have eD3 : ∃ ys, H3 D = some (.lst ys) := by
        obtain ⟨ys, e⟩ := eD
        exact ⟨ys, s3 _ _ e⟩
      by_cases hc : c T = true
      · rw [hc]
        refine iteT ⟨vw (vw W H H1) (upd H1 D (.lst [])) H3, T, ⟨hp, hc⟩, hV H3 (sm.trans s3) eD3, evk H3, fun H' v' s' i' => ?_⟩
        rw [vw_two (domB (sm.trans s3) eD3) s'] at i'
        exact yes v' H' _ (s3.trans s') (if_pos hc) i'
      · have hc' : c T = false := by simpa using hc
        rw [hc']
        exact iteF (no H3 s3 (if_neg hc))
  · intro H2 ys sm eD p2 hyl
    have nDH : H D = none := s1.free nD
    have em := fm_fm c F ts
    rw [em] at p2
    refine q H2 D ys (s1.trans sm) nDH eD (by omega) (paired_imp p2 fun _ _ r => r.mv fun b o e => ?_)
    have hbD : b ≠ D := by
      rintro rfl
      rw [vw_old (o := .lst []) upd_same, WD] at e
      cases e
    rw [rm_ne hbD, ← vw_trans s1 sm]
    rcases dom_cases H1 b with hb | ⟨u, hb⟩
    · rw [vw_new (by rw [upd_ne hbD]; exact hb)] at e
      rw [vw_new hb]
      exact e
    · rw [vw_old (o := u) (by rw [upd_ne hbD]; exact hb)] at e
      rw [vw_old hb]
      exact e
/-- [elt for y in iter if c] -/
theorem lf_filterC {elt iter ce : Expr} {scope : Scope} {pos tp : Pos} {y : Str} {k : Nat} {t : Bool} {ts : List Tr} (Pr : Tr → Prop) (c : Tr → Bool) (F : Tr → Tr) (hc : X.calm = true) (hN : X.N.Nodup) (hit : PE X iter (tLe N env (.sq t ts))) (ok : BlkOk X.N X.env.scope scope [(y, k)]) (hP : ∀ T ∈ ts, Pr T)
    (hg : ∀ (s : Shared) (H : Hp) (C : Addr) (cl : List (Str × Addr)) (fp : List Addr), PG (X.blk s H scope (compEnvC scope cl C X.env) fp) (.Name y tp) (gName k))
    (ht : ∀ (s : Shared) (H : Hp) (C : Addr) (cl : List (Str × Addr)) (fp : List Addr) T, Pr T → PT (X.blk s H scope (compEnvC scope cl C X.env) fp) ce (tKn N ((k, T) :: del k env) (c T)))
    (he : ∀ (s : Shared) (H : Hp) (C : Addr) (cl : List (Str × Addr)) (fp : List Addr) T, Pr T → c T = true → PE (X.blk s H scope (compEnvC scope cl C X.env) fp) elt (tLe N ((k, T) :: del k env) (F T))) (hk : k < N := by decide) (hs : ∀ x, foldedSetIterable iter X.env x = pure x := by intro _; rfl) :
    PE X (.ListComp elt [⟨.Name y tp, iter, [ce], 0⟩] scope pos) (tLf N env ((ts.filter c).map F)) :=
  PE.imp (pe_lc (own := [(y, k)]) (g := gName k) hc hN (pi_seq hit) ok hg (fun s H C cl fp => pts_one (kn_fam (Pr := Pr) (c := c) (ht s H C cl fp))) (fun s H C cl fp => le_fam (Pr := fun T => Pr T ∧ c T = true) (F := F) (fun T p => he s H C cl fp T p.1 p.2)) hs) fun σ H Q h => lf_coreC (K := X.K) hk hP (fun σ H T Kb W p x ev q => ⟨W, T, p, x, ev, q⟩) h
theorem le_sub {a b : Expr} {i j : Int} {pos : Pos} (h1 : PE X a (tLe N env (.int i))) (h2 : PE X b (tLe N env (.int j))) : PE X (.BinOp a .Sub b pos) (tLe N env (.int (i - j))) :=
  PE.imp (pe_op op_sub h1 h2) fun σ H Q ⟨W, x, ev, q⟩ => ⟨W, x, ev, fun H1 v s1 i1 => ⟨vw W H H1, x.next s1, ev.mv (vw_keep x), fun H2 u s2 i2 => by
    rw [i1.int_eq, i2.int_eq]
    exact ⟨i, j, rfl, rfl, q H2 _ (s1.trans s2) ⟨0, .int⟩⟩⟩⟩
end
end LwB
namespace LwB
open PySem PySem.Spec PyProof.Rows L2 IqX RvT EnS TL NsT CpN
variable [LwB.KC]
theorem paired_set {α β : Type} {R : α → β → Prop} : ∀ {xs : List α} {ys : List β} {x : α} {y : β} (j : Nat), Paired R xs ys → R x y → Paired R (xs.set j x) (ys.set j y)
  | _, _, _, _, _, .nil, _ => .nil
  | _, _, _, _, 0, .cons _ p, r => .cons r p
  | _, _, _, _, j + 1, .cons r0 p, r => .cons r0 (paired_set j p r)
section
variable {X : Cx} {N : Nat} {env : EnvT} {own : OwnT} {o : Oc} {rest : List Stmt} {pos : Pos}
/-- rows[-1] = e -/
theorem s_setLast {i : Nat} {e ob : Expr} {T : Tr} {ts : List Tr} {p1 p2 p3 : Pos} {kk : _} (ho : PE X ob (tVar i)) (he : PE X e (tLe N env T)) (hrest : PSs X rest (tS N env ((i, .lst (ts.set (ts.length - 1) T)) :: delO i own) o)) (hm : lookO own i = some (.lst ts) := by rfl) (hne : 0 < ts.length := by decide)
    (hs : swapsWithSole [.Subscript ob (.UnaryOp .USub (.Constant (.int 1) kk p1) p2) p3] e pos.line X.env = pure false := by rfl) (hw : swappedStores [.Subscript ob (.UnaryOp .USub (.Constant (.int 1) kk p1) p2) p3] e X.env = pure none := by rfl) (h1 : (assignEach [.Subscript ob (.UnaryOp .USub (.Constant (.int 1) kk p1) p2) p3] X.env).map (·.2) = [assign (.Subscript ob (.UnaryOp .USub (.Constant (.int 1) kk p1) p2) p3) X.env] := by rfl)
    (ha : ∀ v, assign (.Subscript ob (.UnaryOp .USub (.Constant (.int 1) kk p1) p2) p3) X.env v = (do
      let ov ← holding [v] (eval ob X.env)
      let iv ← holding [v, ov] (eval (.UnaryOp .USub (.Constant (.int 1) kk p1) p2) X.env)
      standAt p3
      holding [v, ov, iv] (setItem ov iv v)
      release [v, ov, iv] []) := by intro _; rfl) :
    PSs X (.Assign [.Subscript ob (.UnaryOp .USub (.Constant (.int 1) kk p1) p2) p3] e pos :: rest) (tS N env own o) :=
  PSs.imp (pss_cons (ps_asg he (pg_sub (ha := ha) ho (pe_un un_neg pe_int) set_list) hs hw h1) hrest) fun D σ H ⟨W, S, q⟩ => ⟨W, S.vw, S.ev, fun H1 v s1 i1 => by
    obtain ⟨g, vs, eg, n, hg, hl, p⟩ := S.owned (lookO_mem hm)
    have hg1 := s1 _ _ hg
    have hvl := paired_len p
    have S1 := S.step s1
    refine ⟨_, eg, 1, rfl, g, vs, -1, ts.length - 1, rfl, rfl, hg1, ?_, ?_⟩
    · unfold ixN
      rw [if_neg (by decide), if_pos (by omega)]
      congr 1
      omega
    · exact ⟨_, S1.grow (lookO_mem hm) eg (by rw [List.length_set]; omega) (paired_set _ (paired_imp p fun _ _ r => r.mv (vw_keep S.vw)) i1) hg1, q.mono S.keep⟩⟩
end
end LwB
namespace LwB
open PySem PySem.Spec PyProof.Rows L2 IqX RvT EnS TL NsT CpN
/-! ### tuples of the module: hidden from the base, known to every heap -/
/-- the written part without one object -/
def cut (a : Addr) (K : PySem.W.Frag) : PySem.W.Frag := K.filter fun p => !(p.1 == a)
theorem cut_ne {a b : Addr} (h : b ≠ a) : ∀ {K : PySem.W.Frag}, (cut a K).lookup b = K.lookup b
  | [] => rfl
  | (c, o) :: K => by
    unfold cut
    rw [List.filter_cons]
    by_cases hc : c = a
    · have e1 : (!(c == a)) = false := by rw [hc]; simp
      have e2 : (b == c) = false := by rw [hc]; simpa using h
      simp only [e1, List.lookup, e2]
      exact cut_ne h
    · have e1 : (!(c == a)) = true := by simpa using hc
      simp only [e1, if_true, List.lookup]
      split
      · rfl
      · exact cut_ne h
theorem cut_self {a : Addr} : ∀ {K : PySem.W.Frag}, (cut a K).lookup a = none
  | [] => rfl
  | (c, o) :: K => by
    unfold cut
    rw [List.filter_cons]
    by_cases hc : c = a
    · have e1 : (!(c == a)) = false := by rw [hc]; simp
      simp only [e1]
      exact cut_self
    · have e1 : (!(c == a)) = true := by simpa using hc
      have e2 : (a == c) = false := by simpa using fun q : a = c => hc q.symm
      simp only [e1, if_true, List.lookup, e2]
      exact cut_self
theorem cut_some {a b : Addr} {K : PySem.W.Frag} {o : Obj} (h : (cut a K).lookup b = some o) : b ≠ a ∧ K.lookup b = some o := by
  have hb : b ≠ a := by
    rintro rfl
    rw [cut_self] at h
    cases h
  exact ⟨hb, by rw [← cut_ne hb]; exact h⟩
/-- the object is a tuple of these values -/
structure TupObj (o : Obj) (xs : List V) : Prop where
  cls : o.cls = .type "tuple"
  dat : ∃ (its : Array Value) (n : Nat), o.data = .seq its n ∧ its.size ≤ sizeLine ∧ Vals xs its.toList
theorem ns_hide {h : Heap} {a b : Addr} {o : Obj} {xs : List V} {m : Str → Option Value} (T : TupObj o xs) (e : h.get? a = some o) (n : h.Ns b m) : (PySem.W.hideAll h [a]).Ns b m := by
  obtain ⟨ob, es, ep, e1, d, r⟩ := n
  refine ⟨ob, es, ep, PySem.W.hideAll_get _ e1 fun hm => ?_, d, r⟩
  have : b = a := List.mem_singleton.mp hm
  subst this
  rw [e] at e1
  cases e1
  obtain ⟨its, k, d', _⟩ := T.dat
  rw [d] at d'
  cases d'
theorem funs_less {h base base' : Heap} (k : ∀ b, base.get? b = none → base'.get? b = none) : ∀ {l : List Env}, h.FunFrames base l → h.FunFrames base' l
  | [], _ => trivial
  | env :: _, ⟨hk, ⟨L, o, hf, hn, ho, hd⟩, hr⟩ => ⟨hk, ⟨L, o, hf, k L hn, ho, hd⟩, funs_less k hr⟩
def dropA (a : Addr) (H : Hp) : Hp := fun b => if b = a then none else H b
theorem dropA_ne {a b : Addr} {H : Hp} (h : b ≠ a) : dropA a H b = H b := if_neg h
theorem dropA_self {a : Addr} {H : Hp} : dropA a H a = none := if_pos rfl
section
variable {P : Program} {w : World} {K : PySem.W.Frag} {mg : Str → Option Value} {base : Heap} {k : Nat} {f a : Addr} {fd : FuncData} {ps : List Str} {sp sp' : Sp} {o : Obj} {xs : List V}
theorem fn_cst (hK : K.In base) (hk : K.lookup a = some o) (T : TupObj o xs) (F : FnOk P w (cut a K) mg (PySem.W.hideAll base [a]) CX0 k f fd ps sp') (hlen : ∀ vs H Q E, sp vs H Q E → vs.length = ps.length)
    (hsp : ∀ vs H Q E, H a = none → sp vs H Q E → sp' vs (upd H a (.frz o (.tup xs))) (fun v H' => Q v (dropA a H')) E) : FnOk P w K mg base CX0 k f fd ps sp := by
  refine ⟨hlen, fun A outer s H args us vs Q E hr e0 hb hv hs => ?_⟩
  have hba := hK a o hk
  obtain ⟨hsa, hHa⟩ := e0.bs a o hba
  obtain ⟨its, n, hd, hz, hvl⟩ := T.dat
  have hout : ∀ b ∈ frs outer, b ≠ a := fun b hb q => by
    have := (e0.funs.mem hb).1
    rw [q, hba] at this
    cases this
  have hlx : xs.length ≤ sizeLine := by
    have e := hvl.length
    simp only [Array.length_toList] at e
    omega
  have up : ∀ {b : Addr} {u : HO}, H b = some u → b ≠ a := fun {b u} e q => by
    rw [q, hHa] at e
    cases e
  have hok1 : HOk P w (upd H a (.frz o (.tup xs))) s.heap := fun b u e => by
    by_cases q : b = a
    · subst q
      rw [upd_same] at e
      cases e
      exact ⟨hsa, hlx, its.toList, hvl, o, hsa, T.cls, n, by rw [hd]⟩
    · rw [upd_ne q] at e
      exact (e0.hok b u e).stay (fun _ _ _ z => z) (fun c z => by rw [upd_ne (up z)]; exact z) fun c ys z => by rw [upd_ne (up z)]; exact z
  have e1 : Env0 P w (cut a K) mg (PySem.W.hideAll base [a]) A outer s (upd H a (.frz o (.tup xs))) := by
    obtain ⟨kin, gl, ⟨mb, b1, b2⟩, ⟨mc, n1, n2⟩⟩ := e0.mod
    refine ⟨e0.frames, ⟨fun b ob e => ?_, ns_hide T hba gl, ⟨mb, ns_hide T hba b1, b2⟩, ⟨mc, ns_hide T hba n1, n2⟩⟩, fun b ob e => ?_, ?_, funs_less (fun b e => ?_) e0.funs, fun b hb => ?_, hok1, e0.bare⟩
    · obtain ⟨hne, e⟩ := cut_some e
      exact PySem.W.hideAll_get _ (kin b ob e) fun hm => hne (List.mem_singleton.mp hm)
    · have hne : b ≠ a := by
        rintro rfl
        rw [PySem.W.hideAll_none _ (.head _)] at e
        cases e
      have := e0.bs b ob (PySem.W.of_hideAll _ e)
      exact ⟨this.1, by rw [upd_ne hne]; exact this.2⟩
    · rw [PySem.W.hideAll_size]
      exact e0.bsz
    · cases q : (PySem.W.hideAll base [a]).get? b with
      | none => rfl
      | some ob =>
        rw [PySem.W.of_hideAll _ q] at e
        cases e
    · rw [upd_ne (hout b hb)]
      exact e0.frf b hb
  refine codeAny_mono (F.run A outer s _ args us vs _ E hr e1 hb hv (hsp vs H Q E hHa hs)) fun r s' h => ?_
  cases r with
  | error e => exact h
  | ok fl =>
    cases fl with
    | next => exact h
    | brk => exact h
    | cont => exact h
    | ret u =>
      obtain ⟨v, H', os, bare, un, hok', r', q⟩ := h
      have hfr : H' a = some (.frz o (.tup xs)) := un.frzs a o _ upd_same
      have hs'a : s'.heap.get? a = some o := (hok' a _ hfr).1
      refine ⟨v, dropA a H', os, bare, ⟨fun b ob e n hb hx => ?_, fun b ob e n hb hx => ?_, fun b ob e n hx => ?_, un.there, fun b ys e => ?_, fun b ob ys e => ?_, fun b ps e => ?_⟩, fun b u e => ?_, r', q⟩
      · by_cases z : b = a
        · subst z
          rw [hsa] at e
          cases e
          exact hs'a
        · exact un.keep b ob e (by rw [upd_ne z]; exact n) hb hx
      · exact un.slot b ob e (by rw [upd_ne (hout b hb)]; exact n) hb hx
      · by_cases z : b = a
        · subst z
          exact dropA_self
        · rw [dropA_ne z]
          exact un.free b ob e (by rw [upd_ne z]; exact n) hx
      · rw [dropA_ne (up e)]
        exact un.tups b ys (by rw [upd_ne (up e)]; exact e)
      · rw [dropA_ne (up e)]
        exact un.frzs b ob ys (by rw [upd_ne (up e)]; exact e)
      · rw [dropA_ne (up e)]
        exact un.tbls b ps (by rw [upd_ne (up e)]; exact e)
      · have hne : b ≠ a := by
          rintro rfl
          rw [dropA_self] at e
          cases e
        rw [dropA_ne hne] at e
        have hn : ∀ {c : Addr} {u : HO}, H' c = some u → (∀ z, u ≠ .frz z (.tup xs)) → c ≠ a := fun {c u} e n q => by
          rw [q, hfr] at e
          cases e
          exact n _ rfl
        exact (hok' b u e).stay (fun _ _ _ z => z) (fun c z => by rw [dropA_ne (hn z fun _ => nofun)]; exact z) fun c ys z => by rw [dropA_ne (hn z fun _ => nofun)]; exact z
theorem fun_cut {x qual : Str} {st : Stmt} (hk : K.lookup a = some o) (T : TupObj o xs) (F : Fun K x qual st f fd) : Fun (cut a K) x qual st f fd := by
  obtain ⟨its, n, hd, _⟩ := T.dat
  obtain ⟨⟨oc, od, kV, doc, pm, an, cdv, ct, osl, e, lk, hcd⟩, kp⟩ := F
  have hf : f ≠ a := by
    rintro rfl
    rw [hk] at lk
    cases lk
    cases hd
  refine ⟨⟨oc, od, kV, doc, pm, an, cdv, ct, osl, e, by rw [cut_ne hf]; exact lk, ?_⟩, ?_⟩
  · cases cdv with
    | ref c =>
      have hne : c ≠ a := by
        rintro rfl
        obtain ⟨oc', od', dt, sl⟩ := o
        cases hd
        simp only [PySem.W.codeIn, hk] at hcd
        cases hcd
      simp only [PySem.W.codeIn, cut_ne hne] at hcd ⊢
      exact hcd
    | _ => cases hcd
  · simp only [PySem.W.keepIn, cut_ne hf, lk]
theorem sqL_cut {H : Hp} {b : Addr} {ys : List V} {u : HO} (hk : K.lookup a = some o) (T : TupObj o xs) (hn : H a = none) (h : SqL K H b ys) : SqL (cut a K) (upd H a u) b ys := by
  rcases h with h | ⟨ob, its, n, e1, e2, r⟩
  · have hne : b ≠ a := by
      rintro rfl
      rcases h with h | ⟨_, h⟩
      · rw [hn] at h
        cases h
      · rw [hn] at h
        cases h
    rcases h with h | ⟨z, h⟩
    · exact .inl (.inl (by rw [upd_ne hne]; exact h))
    · exact .inl (.inr ⟨z, by rw [upd_ne hne]; exact h⟩)
  · refine .inr ⟨ob, its, n, ?_, e2, r⟩
    rw [cut_ne]
    · exact e1
    · rintro rfl
      rw [hk] at e1
      cases e1
      rw [T.cls] at e2
      injection e2 with e3
      exact absurd e3 (by decide)
/-- a law's call: the script, a list of ints -/
def spScript (K : PySem.W.Frag) : Sp := fun vs H Q _ => ∃ (b : Addr) (ns : List Int), vs = [.ref b] ∧ SqL K H b (ns.map V.int) ∧ ns.length ≤ 63 ∧ ∀ H', Q (.bl true) H'
theorem spScript_len {vs : List V} {H : Hp} {Q : VK} {E : XK} (h : spScript K vs H Q E) : vs.length = 1 := by
  obtain ⟨_, _, rfl, _⟩ := h
  rfl
theorem spScript_cut {vs : List V} {H : Hp} {Q : VK} {E E' : XK} {u : HO} (hk : K.lookup a = some o) (T : TupObj o xs) (hn : H a = none) (h : spScript K vs H Q E) : spScript (cut a K) vs (upd H a u) (fun v H' => Q v (dropA a H')) E' := by
  obtain ⟨b, ns, e, hS, hl, q⟩ := h
  exact ⟨b, ns, e, sqL_cut hk T hn hS, hl, fun H' => q _⟩
theorem in_cut (hK : K.In base) : (cut a K).In (PySem.W.hideAll base [a]) := fun b ob e => by
  obtain ⟨hne, e⟩ := cut_some e
  exact PySem.W.hideAll_get _ (hK b ob e) fun hm => hne (List.mem_singleton.mp hm)
/-- what a law's def wants where ALWAYS is known -/
def spScriptG [KC] (K : PySem.W.Frag) : Sp := fun vs H Q E => Good H ∧ spScript K vs H Q E
abbrev kcOf (a e : Addr) (o o' : Obj) : KC := ⟨[(a, o, [V.ref e]), (e, o', [])]⟩
theorem law_always {x : Str} {e : Addr} {o' : Obj} (hK : K.In base) (hk : K.lookup a = some o) (T : TupObj o [V.ref e]) (hk' : K.lookup e = some o') (T' : TupObj o' []) (hne : e ≠ a)
    (F : ∀ b, FnOk P w (cut e (cut a K)) mg b CX0 k f fd [x] (@spScriptG (kcOf a e o o') (cut e (cut a K)))) : FnOk P w K mg base CX0 k f fd [x] (spScript K) := by
  have hk2 : (cut a K).lookup e = some o' := by
    rw [cut_ne hne]
    exact hk'
  refine fn_cst hK hk T (fn_cst (sp := fun vs H Q E => H a = some (.frz o (.tup [V.ref e])) ∧ spScript (cut a K) vs H Q E) (in_cut hK) hk2 T' (F _) (fun vs H Q E h => spScript_len h.2) ?_) (fun vs H Q E h => spScript_len h) ?_
  · intro vs H Q E hn ⟨g, h⟩
    refine ⟨fun c hc => ?_, spScript_cut hk2 T' hn h⟩
    rcases List.mem_cons.mp hc with rfl | hc
    · show upd H e _ a = _
      rw [upd_ne fun q => hne q.symm]
      exact g
    · rw [List.mem_singleton.mp hc]
      exact upd_same
  · intro vs H Q E hn h
    exact ⟨upd_same, spScript_cut hk T hn h⟩
/-- ALWAYS, the tuple of one empty tuple -/
structure Alw [KC] (mg : Str → Option Value) : Prop where
  ex : ∃ (a e : Addr) (o o' : Obj), mg "ALWAYS" = some (.ref a) ∧ (a, o, [V.ref e]) ∈ KC.cs ∧ (e, o', []) ∈ KC.cs
theorem Alw.it [KC] {mg : Str → Option Value} (A : Alw mg) : ∃ a, mg "ALWAYS" = some (.ref a) ∧ ∀ H, Good H → It H (trows false [[]]) (.ref a) := by
  obtain ⟨a, e, o, o', hm, h1, h2⟩ := A.ex
  refine ⟨a, hm, fun H g => ?_⟩
  have i1 : It H (trs false []) (.ref e) := It.sq (.tup (.inr ⟨_, g _ h2⟩)) (Nat.zero_le _) .nil
  exact It.sq (.tup (.inr ⟨_, g _ h1⟩)) (show 1 ≤ 1000000 by decide) (.cons i1 .nil)
end
section
variable [KC] {X : Cx} {N : Nat} {env : EnvT}
theorem le_always {pos : Pos} (A : Alw X.mg) (hg : Gl X "ALWAYS" := by rfl) : PE X (.Name "ALWAYS" pos) (tLe N env (trows false [[]])) := by
  obtain ⟨a, hm, h⟩ := A.it
  exact PE.imp (pe_glob (v := .ref a) hg hm rfl) fun σ H Q ⟨W, x, ev, q⟩ => q H _ (Same.refl H) (by rw [vw_self x]; exact It.nol x (trows_nol _) (h H x.good))
end
end LwB
namespace LwB
open PySem PySem.Spec PyProof.Rows L2 IqX RvT EnS TL NsT CpN
variable [LwB.KC]
section
variable {X : Cx} {N : Nat} {env : EnvT} {own own1 : OwnT} {rest : List Stmt} {pos pos' : Pos} {o : Oc} {e : Expr} {es : List Expr}
/-- x = a new list that is told, of lists of one's own, too -/
theorem s_setN {i : Nat} {x : Str} {e : Expr} {ts : List Tr} (hN : X.N.Nodup) (hi : X.N[i]? = some x) (hx : Loc X.env.scope x) (he : PE X e (tLf N (fullE own env) ts)) (hts : Tr.nolAll ts = true) (hrest : PSs X rest (tS N ((i, .sq true ts) :: del i env) own o)) (hiN : i < N := by decide) (hf : freeO i own = true := by rfl)
    (hs : swapsWith e (some (.Name x pos')) pos.line X.env = pure false := by rfl) (hfn : X.fn x = true ∨ X.env.scope.names.lookup x = some .local := by first | exact .inl rfl | exact .inr rfl | assumption) : PSs X (.Assign [.Name x pos'] e pos :: rest) (tS N env own o) :=
  PSs.imp (pss_cons (ps_set (i := i) hN hi hx he hs hfn) hrest) fun D σ H ⟨W, S, q⟩ => ⟨H, S.vw.self, S.full, fun H1 g vs s1 ng eg hl p => by
    have it : It (LwB.vw W H H1) (.sq true ts) (.ref g) := It.sq (.lst (by rw [vw_new ng]; exact eg)) hl (paired_mem p fun a b ha r => It.nol (S.vw.next s1) (nol_mem hts ha) (r.mv fun b o h => (S.vw.self.next s1).sub b o (rm_sub h)))
    exact ⟨_, (S.step s1).set hiN hf it, q.mono S.keep⟩⟩
/-- xs[i] by an int -/
theorem le_ixI {i : Expr} {t : Bool} {ts : List Tr} {T : Tr} {z : Int} {j : Nat} (he : PE X e (tLe N env (.sq t ts))) (hi : PE X i (tLe N env (.int z))) (hj : ixN ts.length z = some j) (hk : ts[j]? = some T) (hp : PlainIx i := by exact fun _ _ => rfl) : PE X (.Subscript e i pos) (tLe N env T) :=
  PE.imp (pe_ix ix_sq he hi hp) fun σ H Q ⟨W, x, ev, q⟩ => ⟨W, x, ev, fun H1 v s1 i1 => ⟨_, x.next s1, ev.mv (vw_keep x), fun H2 u s2 i2 => by
    rw [i2.int_eq]
    obtain ⟨a, xs, rfl, ha, la, pa⟩ := i1.sq_inv
    obtain ⟨y, ey, r⟩ := paired_at pa hk
    have hq : Sq t H2 a xs := (ha.1.mv fun o e => (x.next s1).sub a o e).mv fun o e => s2 a o e
    refine ⟨t, a, xs, z, y, rfl, rfl, hq, ?_, q H2 y (s1.trans s2) (r.mv (vw_mono s2))⟩
    unfold atI
    rw [← paired_len pa, hj]
    exact ey⟩⟩
theorem ixN_last {n : Nat} (h : 0 < n) : ixN n (-1) = some (n - 1) := by
  unfold ixN
  rw [if_neg (by decide), if_pos (by omega)]
  congr 1
  omega
/-- f(..) of draws -/
theorem de_cT {x : Str} {ps : List Str} {k : Nat} {p : Pos} {ι : Type} {A : ι → List Tr} {Pi : ι → Prop} {R' : ι → Tr} {R : List Tr → Prop} (O : Ok X.prog X.w X.K X.mg X.base k x ps (spT A Pi R')) (hr : Room k X.A) (ha : PA X (e :: es) (tDs N env own R own1)) (hR : ∀ Ts, R Ts → ∃ i, Pi i ∧ A i = Ts) (hg : Gl X x := by rfl)
    (hdb : (x == ("__debug__" : Str)) = false := by decide) (hs : starEach (e :: es) X.env = (false, eval e X.env) :: starEach es X.env := by rfl) (hpl : (backTo pos (starEach es X.env)).any (·.1) = false := by rfl) :
    PE X (.Call (.Name x p) (e :: es) [] pos) (tD N env own (fun T => ∃ i, R (A i) ∧ Pi i ∧ T = R' i) own1) :=
  PE.imp (pe_c O hr ha hg hdb hs hpl) fun σ H Q ⟨W, S, q⟩ => ⟨W, S, fun vs Ts W1 H1 s1 S1 r pr => by
    show spT A Pi R' (vs ++ []) H1 Q E0
    rw [List.append_nil]
    obtain ⟨i, hi, ei⟩ := hR Ts r
    subst ei
    refine ⟨S1.vw.good, i, hi, paired_imp pr fun _ _ r => r.mv S1.vw.sub, fun H' v s ii => q v _ _ H' (s1.trans ?_) (S1.step s) ⟨i, r, hi, rfl⟩ (ii.mv (nv_in S1.vw s))⟩
    exact vw_keep S1.vw⟩
/-- if c: x = a draw -/
theorem s_ifDraw {i : Nat} {x : Str} {c : Expr} {ipos : Pos} {Pr : Tr → Prop} (hc : PT X c (tKn N (fullE own env) true)) (hN : X.N.Nodup) (hi : X.N[i]? = some x) (hx : Loc X.env.scope x) (he : PE X e (tD N env own Pr own1)) (hrest : ∀ T, Pr T → PSs X rest (tS N ((i, T) :: del i env) own1 o)) (hiN : i < N := by decide) (hf : freeO i own1 = true := by rfl)
    (hs : swapsWith e (some (.Name x pos')) pos.line X.env = pure false := by rfl) (hfn : X.fn x = true ∨ X.env.scope.names.lookup x = some .local := by first | exact .inl rfl | exact .inr rfl | assumption) : PSs X (.If c [.Assign [.Name x pos'] e pos] [] ipos :: rest) (tS N env own o) :=
  PSs.imp (pss_cons (ps_if hc (pss_one (ps_set (i := i) hN hi hx he hs hfn)) pss_nil) pss_any) fun D σ H ⟨W, S, q⟩ => ⟨H, S.vw.self, S.full, fun H1 s1 => iteT ⟨_, S.step s1, fun v T W1 H2 s2 S2 p i1 => ⟨_, hrest T p, W1, S2.set hiN hf i1, q.mono (S.keep.trans s2)⟩⟩⟩
end
end LwB
namespace LwB
open PySem PySem.Spec PyProof.Rows L2 IqX RvT EnS TL NsT CpN CgN
variable [LwB.KC]
/-! ### comprehensions that make a set of texts, and its sorted list -/
theorem is_mvX {W W' : Hp} (e : ∀ a o, W a = some o → (∀ φ, o ≠ .ext φ) → W' a = some o) : ∀ {n : Nat} {t : Tr} {v : V}, Is W n t v → Is W' n t v := by
  intro n
  induction n with
  | zero =>
    intro t v h
    cases t <;> exact h
  | succ n ih =>
    intro t v h
    cases t with
    | sq t ts =>
      obtain ⟨a, xs, ea, ⟨hs, hn⟩, hl, p⟩ := h
      refine ⟨a, xs, ea, ⟨?_, fun et => e _ _ (hn et) fun _ => nofun⟩, hl, paired_imp p fun _ _ r => ih r⟩
      rcases hs with h1 | ⟨o, h1⟩
      · exact .inl (e _ _ h1 fun _ z => by cases t <;> cases z)
      · exact .inr ⟨o, e _ _ h1 fun _ => nofun⟩
    | _ => exact h
theorem It.mvX {W W' : Hp} (e : ∀ a o, W a = some o → (∀ φ, o ≠ .ext φ) → W' a = some o) {t : Tr} {v : V} (h : It W t v) : It W' t v := by
  obtain ⟨n, h⟩ := h
  exact ⟨n, is_mvX e h⟩
/-- what the view is when the set at D has changed -/
theorem vw_ext {W H H' : Hp} {D : Addr} {φ φ' : Heap → Prop} (x : Vw W H) (f : LwB.Fr D H H') (e : H D = some (.ext φ)) (e' : H' D = some (.ext φ')) : ∃ W', Vw W' H' ∧ ∀ a o, W a = some o → (∀ ψ, o ≠ .ext ψ) → W' a = some o := by
  refine ⟨fun b => if b = D then H' D else vw W H H' b, ⟨fun b o h => ?_, fun b o h => ?_, fun c hc => f _ _ (x.good c hc) fun q => ?_⟩, fun b o h hn => ?_⟩
  · by_cases hb : b = D
    · subst hb
      rw [if_pos rfl] at h
      exact h
    · rw [if_neg hb] at h
      rcases dom_cases H b with z | ⟨u, z⟩
      · rw [vw_new z] at h
        exact h
      · rw [vw_old z] at h
        exact f b o (x.sub b o h) hb
  · by_cases hb : b = D
    · subst hb
      rw [if_pos rfl]
      exact .inl h
    · rw [if_neg hb]
      rcases dom_cases H b with z | ⟨u, z⟩
      · rw [vw_new z]
        exact .inl h
      · have := f b u z hb
        rw [h] at this
        cases this
        rw [vw_old z]
        exact x.all b o z
  · have h := x.good c hc
    rw [q, e] at h
    cases h
  · have hb : b ≠ D := by
      rintro rfl
      have := x.sub b o h
      rw [e] at this
      cases this
      exact hn _ rfl
    show (if b = D then H' D else vw W H H' b) = some o
    rw [if_neg hb]
    exact vw_keep x b o h
/-- so many texts more in the set at D -/
def tAx (w : World) (N : Nat) (env : EnvT) (outs : List Str) (D : Addr) : TM := fun σ H Nx => ∃ W l, Vw W H ∧ Ev N env σ W ∧ H D = some (SetXO w D l) ∧ (outs.foldl addS l).length ≤ 60 ∧
  ∀ H', LwB.Fr D H H' → H' D = some (SetXO w D (outs.foldl addS l)) → Nx H'
theorem addS_len (l : List Str) (k : Str) : (addS l k).length ≤ l.length + 1 := by
  unfold addS
  split
  · omega
  · rw [List.length_append, List.length_singleton]
    omega
theorem addS_flen : ∀ (ks l : List Str), (ks.foldl addS l).length ≤ l.length + ks.length
  | [], l => Nat.le_refl _
  | k :: ks, l => by
    have h1 := addS_flen ks (addS l k)
    have h2 := addS_len l k
    show (ks.foldl addS (addS l k)).length ≤ l.length + (ks.length + 1)
    omega
theorem addS_mono (l : List Str) (k : Str) : l.length ≤ (addS l k).length := by
  unfold addS
  split
  · omega
  · rw [List.length_append]
    omega
theorem addS_fmono : ∀ (ks l : List Str), l.length ≤ (ks.foldl addS l).length
  | [], l => Nat.le_refl _
  | k :: ks, l => Nat.le_trans (addS_mono l k) (addS_fmono ks (addS l k))
theorem ax_loop {K : PySem.W.Frag} {w : World} {t : Bool} {a : Addr} {xs : List V} {ts : List Tr} {k N : Nat} {env : EnvT} {Pr : Tr → Prop} {c : Tr → Bool} {outs : Tr → List Str} {D : Addr} {σ : L2.St} {H1 W1 : Hp} {l : List Str} {tt : TT} {vs : List Nat} {Nx : Hp → Prop}
    (x1 : Vw W1 H1) (ev : Ev N env σ W1) (eD : H1 D = some (SetXO w D l)) (hl : (((ts.filter c).flatMap outs).foldl addS l).length ≤ 60) (hs : Sq t W1 a xs) (pr : Paired (It W1) ts xs) (hP : ∀ T ∈ ts, Pr T) (hk : k < N) (hkv : k ∈ vs) (hne : ∀ p ∈ env, p.1 ∉ vs)
    (htt : ∀ σ H T (Kb : Bool → Hp → Prop) W, Pr T → Vw W H → Ev N ((k, T) :: env) σ W → (∀ H', Same H H' → Kb (c T) H') → tt σ H Kb)
    (q : ∀ H', LwB.Fr D H1 H' → H' D = some (SetXO w D (((ts.filter c).flatMap outs).foldl addS l)) → Nx H') :
    ∃ W : Nat → Nat → Hp → Prop, (∃ m, W 0 m H1) ∧ ∀ j k1 H, W j k1 H → ((if t = true then Itl K a else Itt K a).stop j H ∧ Nx H) ∨ ((if t = true then Itl K a else Itt K a).go j H ∧ ∃ Nx1 : Hp → Prop, (∀ H', Nx1 H' → ∃ k', k' < k1 ∧ W (j + 1) k' H') ∧
      ∀ x H', (if t = true then Itl K a else Itt K a).yld j H x H' → gName k x (wipe σ vs) H' fun σ2 H2 => wipe σ2 vs = wipe σ vs ∧ tt σ2 H2 fun b H3 => if b = true then (fun σ H Nx => ∃ T, (Pr T ∧ c T = true) ∧ tAx w N ((k, T) :: env) (outs T) D σ H Nx) σ2 H3 Nx1 else Nx1 H3) := by
  have hlen := paired_len pr
  refine gen_seq (K := K) (b := t) (a := a) (xs := xs) (fun j H => ∃ W, Vw W H ∧ Ev N env (wipe σ vs) W ∧ Sq t W a xs ∧ Paired (It W) ts xs ∧ LwB.Fr D H1 H ∧ H D = some (SetXO w D (((ts.take j).filter c).flatMap outs |>.foldl addS l))) ⟨W1, x1, ?_, hs, pr, Fr.refl D H1, eD⟩
    (fun j H _ ⟨W, V, _, h, _⟩ => (h.mv fun o z => V.sub a o z).B) ?_ ?_
  · refine ⟨by rw [wipe_length]; exact ev.1, fun r hr => ?_⟩
    obtain ⟨v, ev1, iv⟩ := ev.2 r hr
    exact ⟨v, by rw [wipe_out (hne r hr)]; exact ev1, iv⟩
  · rintro j x H hx ⟨W, V, evW, hsW, pW, f, e⟩
    obtain ⟨T, hT, iT⟩ := paired_get pW hx
    have hp := hP T (List.mem_of_getElem? hT)
    have etk : ts.take (j + 1) = ts.take j ++ [T] := by
      obtain ⟨hj, eT⟩ := List.getElem?_eq_some_iff.mp hT
      rw [List.take_succ_eq_append_getElem hj, eT]
    have evk : Ev N ((k, T) :: env) ((wipe σ vs).set k (some x)) W := evW.set hk (fun r hr e => hne r hr (by rw [e]; exact hkv)) iT
    refine ⟨?_, htt _ H T _ _ hp V evk fun H3 s3 => ?_⟩
    · refine wipe_ext (by show ((wipe σ vs).set k (some x)).length = _; rw [List.length_set, wipe_length]) fun i hi => ?_
      show ((wipe σ vs).set k (some x))[i]? = _
      rw [List.getElem?_set_ne (fun e => hi (by rw [← e]; exact hkv)), wipe_out hi]
    · have e3 := s3 _ _ e
      have f13 : LwB.Fr D H1 H3 := f.trans (Fr.same s3)
      have V3 := V.next s3
      have kp := vw_keep V (H' := H3)
      rw [etk, List.filter_append, List.flatMap_append, List.foldl_append]
      by_cases hc : c T = true
      · rw [hc]
        have el : [T].filter c = [T] := by simp [hc]
        have e1 : [T].flatMap outs = outs T := by simp
        rw [el, e1]
        refine iteT ⟨T, ⟨hp, hc⟩, vw W H H3, _, V3, evk.mv kp, e3, ?_, fun H' f' e' => ?_⟩
        · have hsp : (ts.filter c).flatMap outs = (((ts.take j).filter c).flatMap outs ++ outs T) ++ ((ts.drop (j + 1)).filter c).flatMap outs := by
            rw [← e1, ← el, ← List.flatMap_append, ← List.filter_append, ← etk, ← List.flatMap_append, ← List.filter_append, List.take_append_drop]
          rw [hsp, List.foldl_append, List.foldl_append] at hl
          exact Nat.le_trans (addS_fmono _ _) hl
        · obtain ⟨W', V', mv⟩ := vw_ext V3 f' e3 e'
          refine ⟨W', V', ?_, ?_, paired_imp pW fun _ _ r => (r.mv kp).mvX mv, f13.trans f', e'⟩
          · refine ⟨evW.1, fun r hr => ?_⟩
            obtain ⟨v, ev1, iv⟩ := evW.2 r hr
            exact ⟨v, ev1, (iv.mv kp).mvX mv⟩
          · rcases hsW with h1 | ⟨o, h1⟩
            · exact .inl (mv _ _ (kp _ _ h1) fun _ z => by cases t <;> cases z)
            · exact .inr ⟨o, mv _ _ (kp _ _ h1) fun _ => nofun⟩
      · have hc' : c T = false := by simpa using hc
        rw [hc']
        have el : [T].filter c = [] := by simp [hc]
        rw [el]
        exact iteF ⟨vw W H H3, V3, evW.mv kp, hsW.mv fun o z => kp a o z, paired_imp pW fun _ _ r => r.mv kp, f13, e3⟩
  · rintro H ⟨W, _, _, _, _, f, e⟩
    rw [← hlen, List.take_length] at e
    exact q H f e
section
variable {X : Cx} {N : Nat} {env : EnvT} {vs : List Nat} {elt i1 : Expr} {gens rest : List Comprehension} {scope : Scope} {pos tp : Pos} {d k : Nat} {y : Str} {ifs : List Expr} {D : Addr} {t : Bool} {ts : List Tr} {act : Sem Fin → Sem Fin} {us : List Nat}
theorem ax_emit {z : Str} (he : PE X elt (tLe N env (.str z))) (hx : X.xe = fun _ _ => False := by rfl) : PM X vs (actS elt (.ref D) X.env) (tAx X.w N env [z] D) :=
  PM.imp (pm_emitS hx he) fun σ H Nx ⟨W, l, x, ev, eD, hl, q⟩ => ⟨W, x, ev, fun H1 v s1 i1 => ⟨z, l, i1.str_eq, s1 _ _ eD, Nat.lt_of_le_of_lt (Nat.succ_le_succ (Nat.le_trans (addS_mono l z) hl)) (by decide), q _ (Fr.trans (Fr.same s1) Fr.put) upd_same⟩⟩
/-- a further clause -/
theorem ax_gen (Pr : Tr → Prop) (c : Tr → Bool) (outs : Tr → List Str) (hit : PE X i1 (tLe N env (.sq t ts))) (hg : PG X (.Name y tp) (gName k)) (htt : Ts1 N k env Pr c X ifs) (hP : ∀ T ∈ ts, Pr T) (hact : ∀ T, Pr T → c T = true → PM X us act (tAx X.w N ((k, T) :: env) (outs T) D))
    (hc : X.calm = true := by rfl) (hx : X.xe = fun _ _ => False := by rfl) (hk : k < N := by decide) (hne : freeE (k :: us) env = true := by rfl)
    (ht : ∀ it, compTurn (.SetComp elt gens scope pos) d it (.ref D) X.env = turnF (.Name y tp) i1 ifs (.compLoop (.SetComp elt gens scope pos) d it (.ref D) X.env) it X.env act := by intro _; rfl)
    (ha : ((clausesOf (.SetComp elt gens scope pos))[d]?).elim false (·.is_async != 0) = false := by rfl) (hs : ∀ x, foldedSetIterable i1 X.env x = pure x := by intro _; rfl) :
    PM X (k :: us) (actG (.SetComp elt gens scope pos) d i1 (.ref D) X.env) (tAx X.w N env ((ts.filter c).flatMap outs) D) :=
  PM.imp (CgN.pm_gen kd_set (vs := k :: us) (us := us) hx hc ht ha (pi_seq hit) hg htt.pts (PM.fam (Pr := fun T => Pr T ∧ c T = true) fun T p => hact T p.1 p.2) (fun _ h => .tail _ h) hs) fun σ H Nx ⟨W, l, x, ev, eD, hl, q⟩ => ⟨W, x, ev, fun H1 v s1 i1 => by
    obtain ⟨a, xs, rfl, hs, la, pr⟩ := i1.sq_inv
    have x1 := x.next s1
    refine ⟨t, a, rfl, ⟨xs, (hs.1.mv fun o e => x1.sub a o e).B⟩, ?_⟩
    exact ax_loop x1 (ev.mv (vw_keep x)) (s1 _ _ eD) hl hs.1 pr hP hk (.head _) (freeE_ne hne) htt.tt fun H' f e => q H' (Fr.trans (Fr.same s1) f) e⟩
/-- the last clause -/
theorem ax_end2 (Pr : Tr → Prop) (c : Tr → Bool) (outs : Tr → List Str) (hit : PE X i1 (tLe N env (.sq t ts))) (hg : PG X (.Name y tp) (gName k)) (htt : Ts1 N k env Pr c X ifs) (hP : ∀ T ∈ ts, Pr T) (hact : ∀ T, Pr T → c T = true → PM X us (actS elt (.ref D) X.env) (tAx X.w N ((k, T) :: env) (outs T) D))
    (hc : X.calm = true := by rfl) (hx : X.xe = fun _ _ => False := by rfl) (hk : k < N := by decide) (hne : freeE (k :: us) env = true := by rfl)
    (ht : ∀ it, compTurn (.SetComp elt gens scope pos) d it (.ref D) X.env = turnF (.Name y tp) i1 ifs (.compLoop (.SetComp elt gens scope pos) d it (.ref D) X.env) it X.env (actS elt (.ref D) X.env) := by intro _; rfl)
    (ha : ((clausesOf (.SetComp elt gens scope pos))[d]?).elim false (·.is_async != 0) = false := by rfl) (hs : ∀ x, foldedSetIterable i1 X.env x = pure x := by intro _; rfl) :
    PM X (k :: us) (actG (.SetComp elt gens scope pos) d i1 (.ref D) X.env) (tAx X.w N env ((ts.filter c).flatMap outs) D) :=
  ax_gen Pr c outs hit hg htt hP hact hc hx hk hne ht ha hs
/-- sorted({elt for y in i0 if .. ..}) -/
theorem lf_sortSU {acts : Value → Env → Sem Fin → Sem Fin} {i0 : Expr} {sp pos' : Pos} (own : List (Str × Nat)) (Pr : Tr → Prop) (c : Tr → Bool) (outs : Tr → List Str) (hc : X.calm = true) (hm : X.mg "sorted" = none) (hN : X.N.Nodup) (hit : PE X i0 (tLe N env (.sq t ts))) (ok : BlkOk X.N X.env.scope scope own)
    (hg : ∀ (s : Shared) (H : Hp) (C : Addr) (cl : List (Str × Addr)) (fp : List Addr), PG (X.blk s H scope (compEnvC scope cl C X.env) fp) (.Name y tp) (gName k))
    (htt : ∀ (s : Shared) (H : Hp) (C : Addr) (cl : List (Str × Addr)) (fp : List Addr), Ts1 N k (delL (own.map (·.2)) env) Pr c (X.blk s H scope (compEnvC scope cl C X.env) fp) ifs) (hP : ∀ T ∈ ts, Pr T)
    (hact : ∀ (s : Shared) (H : Hp) (C : Addr) (cl : List (Str × Addr)) (fp : List Addr) (D : Addr) T, Pr T → c T = true → PM (X.blk s H scope (compEnvC scope cl C X.env) fp) (own.map (·.2)) (acts (.ref D) (compEnvC scope cl C X.env)) (tAx X.w N ((k, T) :: delL (own.map (·.2)) env) (outs T) D))
    (hlen : (((ts.filter c).flatMap outs).foldl addS []).length ≤ 60) {us : List Str} (hus : ∀ ys : List Str, ys.Perm (((ts.filter c).flatMap outs).foldl addS []) → sortedS ys = true → ys = us) (hifs : (ifs = [] ∧ ∀ T, c T = true) ∨ ∃ e, ifs = [e] := by first | exact .inl ⟨rfl, fun _ => rfl⟩ | exact .inr ⟨_, rfl⟩) (hk : k < N := by decide) (hkv : memN k (own.map (·.2)) = true := by rfl)
    (ht : ∀ it D env, compTurn (.SetComp elt (⟨.Name y tp, i0, ifs, 0⟩ :: rest) scope pos) 0 it (.ref D) env = turnF (.Name y tp) i0 ifs (.compLoop (.SetComp elt (⟨.Name y tp, i0, ifs, 0⟩ :: rest) scope pos) 0 it (.ref D) env) it env (acts (.ref D) env) := by intro _ _ _; rfl)
    (hs : ∀ x, foldedSetIterable i0 X.env x = pure x := by intro _; rfl) (hgl : Gl X "sorted" := by rfl) (hse : starEach [.SetComp elt (⟨.Name y tp, i0, ifs, 0⟩ :: rest) scope pos] X.env = (false, eval (.SetComp elt (⟨.Name y tp, i0, ifs, 0⟩ :: rest) scope pos) X.env) :: starEach [] X.env := by rfl) :
    PE X (.Call (.Name "sorted" sp) [.SetComp elt (⟨.Name y tp, i0, ifs, 0⟩ :: rest) scope pos] [] pos') (tLf N env (us.map Tr.str)) :=
  PE.imp (pe_callB (cr_sortX hc) hgl hm (by decide +kernel) (pa_cons (hs := hse) (pe_scX hc hN (pi_seq hit) ok ht hg (fun s H C cl fp => (htt s H C cl fp).pts) (fun s H C cl fp D => PM.fam (Pr := fun T => Pr T ∧ c T = true) fun T p => hact s H C cl fp D T p.1 p.2) hs) pa_nil)) fun σ H Q ⟨W, x, ev, q⟩ => ⟨W, x, ev, fun H1 v s1 i1 => by
    obtain ⟨a, xs, rfl, hs, la, pr⟩ := i1.sq_inv
    have x1 := x.next s1
    refine ⟨t, a, rfl, ⟨xs, (hs.1.mv fun o e => x1.sub a o e).B⟩, fun D nD => ?_⟩
    have sD := same_new (o := SetXO X.w D []) nD
    have x2 := x1.next sD
    have kp := vw_keep x1 (H' := upd H1 D (SetXO X.w D []))
    refine ax_loop (K := X.K) (l := []) x2 ((ev.sub fun _ h => delL_sub h).mv fun a o z => kp a o (vw_keep x a o z)) upd_same hlen (hs.1.mv fun o z => kp a o z) (paired_imp pr fun _ _ r => r.mv kp) hP hk (memN_mem hkv) (fun _ h => delL_ne h) (tTs_ok hifs) fun H2 f e => ?_
    have f12 : Same H1 H2 := fun b o z => f b o (sD b o z) fun hb => by rw [hb, nD] at z; cases z
    have hle := hlen
    refine ⟨D, _, rfl, e, by omega, fun ys p h1 h2 np => ?_⟩
    have hy := hus ys h1 h2
    subst hy
    have hyl : (ys.map V.str).length ≤ 1000000 := by
      rw [List.length_map, h1.length_eq]
      omega
    refine q _ p _ ((s1.trans f12).trans (same_new np)) ((s1.trans f12).free np) upd_same hyl ?_
    exact its_strs _ ys⟩
/-- sorted({elt for y in i0 if .. ..}) -/
theorem lf_sortS {acts : Value → Env → Sem Fin → Sem Fin} {i0 : Expr} {sp pos' : Pos} (own : List (Str × Nat)) (Pr : Tr → Prop) (c : Tr → Bool) (outs : Tr → List Str) (hc : X.calm = true) (hm : X.mg "sorted" = none) (hN : X.N.Nodup) (hit : PE X i0 (tLe N env (.sq t ts))) (ok : BlkOk X.N X.env.scope scope own)
    (hg : ∀ (s : Shared) (H : Hp) (C : Addr) (cl : List (Str × Addr)) (fp : List Addr), PG (X.blk s H scope (compEnvC scope cl C X.env) fp) (.Name y tp) (gName k))
    (htt : ∀ (s : Shared) (H : Hp) (C : Addr) (cl : List (Str × Addr)) (fp : List Addr), Ts1 N k (delL (own.map (·.2)) env) Pr c (X.blk s H scope (compEnvC scope cl C X.env) fp) ifs) (hP : ∀ T ∈ ts, Pr T)
    (hact : ∀ (s : Shared) (H : Hp) (C : Addr) (cl : List (Str × Addr)) (fp : List Addr) (D : Addr) T, Pr T → c T = true → PM (X.blk s H scope (compEnvC scope cl C X.env) fp) (own.map (·.2)) (acts (.ref D) (compEnvC scope cl C X.env)) (tAx X.w N ((k, T) :: delL (own.map (·.2)) env) (outs T) D))
    (hlen : ((ts.filter c).flatMap outs).length ≤ 60) {us : List Str} (hus : ∀ ys : List Str, ys.Perm (((ts.filter c).flatMap outs).foldl addS []) → sortedS ys = true → ys = us) (hifs : (ifs = [] ∧ ∀ T, c T = true) ∨ ∃ e, ifs = [e] := by first | exact .inl ⟨rfl, fun _ => rfl⟩ | exact .inr ⟨_, rfl⟩) (hk : k < N := by decide) (hkv : memN k (own.map (·.2)) = true := by rfl)
    (ht : ∀ it D env, compTurn (.SetComp elt (⟨.Name y tp, i0, ifs, 0⟩ :: rest) scope pos) 0 it (.ref D) env = turnF (.Name y tp) i0 ifs (.compLoop (.SetComp elt (⟨.Name y tp, i0, ifs, 0⟩ :: rest) scope pos) 0 it (.ref D) env) it env (acts (.ref D) env) := by intro _ _ _; rfl)
    (hs : ∀ x, foldedSetIterable i0 X.env x = pure x := by intro _; rfl) (hgl : Gl X "sorted" := by rfl) (hse : starEach [.SetComp elt (⟨.Name y tp, i0, ifs, 0⟩ :: rest) scope pos] X.env = (false, eval (.SetComp elt (⟨.Name y tp, i0, ifs, 0⟩ :: rest) scope pos) X.env) :: starEach [] X.env := by rfl) :
    PE X (.Call (.Name "sorted" sp) [.SetComp elt (⟨.Name y tp, i0, ifs, 0⟩ :: rest) scope pos] [] pos') (tLf N env (us.map Tr.str)) :=
  lf_sortSU own Pr c outs hc hm hN hit ok hg htt hP hact (Nat.le_trans (addS_flen _ _) (by rw [List.length_nil, Nat.zero_add]; exact hlen)) hus hifs hk hkv ht hs hgl hse
theorem lf_sortSM {g1 : Comprehension} {i0 : Expr} {sp pos' : Pos} (own : List (Str × Nat)) (Pr : Tr → Prop) (c : Tr → Bool) (outs : Tr → List Str) (hc : X.calm = true) (hm : X.mg "sorted" = none) (hN : X.N.Nodup) (hit : PE X i0 (tLe N env (.sq t ts))) (ok : BlkOk X.N X.env.scope scope own)
    (hg : ∀ (s : Shared) (H : Hp) (C : Addr) (cl : List (Str × Addr)) (fp : List Addr), PG (X.blk s H scope (compEnvC scope cl C X.env) fp) (.Name y tp) (gName k))
    (htt : ∀ (s : Shared) (H : Hp) (C : Addr) (cl : List (Str × Addr)) (fp : List Addr), Ts1 N k (delL (own.map (·.2)) env) Pr c (X.blk s H scope (compEnvC scope cl C X.env) fp) ifs) (hP : ∀ T ∈ ts, Pr T)
    (hact : ∀ (s : Shared) (H : Hp) (C : Addr) (cl : List (Str × Addr)) (fp : List Addr) (D : Addr) T, Pr T → c T = true → PM (X.blk s H scope (compEnvC scope cl C X.env) fp) (own.map (·.2)) (actG (.SetComp elt (⟨.Name y tp, i0, ifs, 0⟩ :: g1 :: rest) scope pos) 1 g1.iter (.ref D) (compEnvC scope cl C X.env)) (tAx X.w N ((k, T) :: delL (own.map (·.2)) env) (outs T) D))
    (hlen : (((ts.filter c).flatMap outs).foldl addS []).length ≤ 60) {us : List Str} (hus : ∀ ys : List Str, ys.Perm (((ts.filter c).flatMap outs).foldl addS []) → sortedS ys = true → ys = us) (hifs : (ifs = [] ∧ ∀ T, c T = true) ∨ ∃ e, ifs = [e] := by first | exact .inl ⟨rfl, fun _ => rfl⟩ | exact .inr ⟨_, rfl⟩) (hk : k < N := by decide) (hkv : memN k (own.map (·.2)) = true := by rfl)
    (ht : ∀ it D env, compTurn (.SetComp elt (⟨.Name y tp, i0, ifs, 0⟩ :: g1 :: rest) scope pos) 0 it (.ref D) env = turnF (.Name y tp) i0 ifs (.compLoop (.SetComp elt (⟨.Name y tp, i0, ifs, 0⟩ :: g1 :: rest) scope pos) 0 it (.ref D) env) it env (actG (.SetComp elt (⟨.Name y tp, i0, ifs, 0⟩ :: g1 :: rest) scope pos) 1 g1.iter (.ref D) env) := by intro _ _ _; rfl)
    (hs : ∀ x, foldedSetIterable i0 X.env x = pure x := by intro _; rfl) (hgl : Gl X "sorted" := by rfl) (hse : starEach [.SetComp elt (⟨.Name y tp, i0, ifs, 0⟩ :: g1 :: rest) scope pos] X.env = (false, eval (.SetComp elt (⟨.Name y tp, i0, ifs, 0⟩ :: g1 :: rest) scope pos) X.env) :: starEach [] X.env := by rfl) :
    PE X (.Call (.Name "sorted" sp) [.SetComp elt (⟨.Name y tp, i0, ifs, 0⟩ :: g1 :: rest) scope pos] [] pos') (tLf N env (us.map Tr.str)) :=
  lf_sortSU (acts := fun acc env => actG (.SetComp elt (⟨.Name y tp, i0, ifs, 0⟩ :: g1 :: rest) scope pos) 1 g1.iter acc env) own Pr c outs hc hm hN hit ok hg htt hP hact hlen hus hifs hk hkv ht hs hgl hse
end
end LwB
namespace LwB
open PySem PySem.Spec PyProof.Rows L2 IqX RvT EnS TL NsT
variable [LwB.KC]
/-! ### texts, ascending -/
def insS (k : Str) : List Str → List Str
  | [] => [k]
  | v :: vs => if k = v then v :: vs else if strLt k v = true then k :: v :: vs else v :: insS k vs
def srtS (l : List Str) : List Str := l.foldr insS []
def Asc (l : List Str) : Prop := l.Pairwise fun a b => strLt a b = true
theorem insS_mem {k x : Str} : ∀ {l : List Str}, x ∈ insS k l ↔ x = k ∨ x ∈ l
  | [] => by simp [insS]
  | v :: vs => by
    unfold insS
    split
    · rename_i e
      subst e
      simp
    · split
      · simp
      · rw [List.mem_cons, insS_mem, List.mem_cons]
        exact ⟨fun h => h.elim (fun z => .inr (.inl z)) fun z => z.elim .inl fun z => .inr (.inr z), fun h => h.elim (fun z => .inr (.inl z)) fun z => z.elim .inl fun z => .inr (.inr z)⟩
theorem srtS_mem {x : Str} : ∀ {l : List Str}, x ∈ srtS l ↔ x ∈ l
  | [] => Iff.rfl
  | k :: l => by
    show x ∈ insS k (srtS l) ↔ _
    rw [insS_mem, srtS_mem, List.mem_cons]
theorem insS_asc {k : Str} : ∀ {l : List Str}, Asc l → Asc (insS k l)
  | [], _ => List.pairwise_singleton _ _
  | v :: vs, h => by
    have h' := List.pairwise_cons.mp h
    unfold insS
    split
    · exact h
    · rename_i ne
      split
      · rename_i lt
        exact List.pairwise_cons.mpr ⟨fun x hx => (List.mem_cons.mp hx).elim (fun z => z ▸ lt) fun z => strLt_trans lt (h'.1 x z), h⟩
      · rename_i nl
        refine List.pairwise_cons.mpr ⟨fun x hx => ?_, insS_asc h'.2⟩
        rcases insS_mem.mp hx with rfl | hx
        · cases e : strLt v x with
          | true => rfl
          | false => exact absurd (strLt_tri (Bool.eq_false_iff.mpr nl) e) ne
        · exact h'.1 x hx
theorem srtS_asc : ∀ l : List Str, Asc (srtS l)
  | [] => List.Pairwise.nil
  | k :: l => insS_asc (srtS_asc l)
theorem asc_unique : ∀ {l m : List Str}, Asc l → Asc m → (∀ x, x ∈ l ↔ x ∈ m) → l = m
  | [], [], _, _, _ => rfl
  | [], b :: m, _, _, h => absurd ((h b).mpr (.head _)) (by simp)
  | a :: l, [], _, _, h => absurd ((h a).mp (.head _)) (by simp)
  | a :: l, b :: m, h1, h2, h => by
    have h1' := List.pairwise_cons.mp h1
    have h2' := List.pairwise_cons.mp h2
    have ab : a = b := by
      rcases List.mem_cons.mp ((h a).mp (.head _)) with e | ha
      · exact e
      · rcases List.mem_cons.mp ((h b).mpr (.head _)) with e | hb
        · exact e.symm
        · have x := strLt_trans (h1'.1 b hb) (h2'.1 a ha)
          rw [strLt_irr] at x
          cases x
    subst ab
    congr 1
    refine asc_unique h1'.2 h2'.2 fun x => ⟨fun hx => ?_, fun hx => ?_⟩
    · rcases List.mem_cons.mp ((h x).mp (.tail _ hx)) with e | z
      · have q := h1'.1 x hx
        rw [e, strLt_irr] at q
        cases q
      · exact z
    · rcases List.mem_cons.mp ((h x).mpr (.tail _ hx)) with e | z
      · have q := h2'.1 x hx
        rw [e, strLt_irr] at q
        cases q
      · exact z
theorem rising_low : ∀ {l : List Str} {p : Str}, risingS p l = true → ∀ x ∈ l, strLt x p = false
  | y :: l, p, h, x, hx => by
    have h' : (!ltCps y.cps.toList p.cps.toList && risingS y l) = true := h
    rw [Bool.and_eq_true] at h'
    have hy : strLt y p = false := by
      have := h'.1
      rw [ltCps_eq] at this
      unfold strLt
      simpa using this
    rcases List.mem_cons.mp hx with rfl | hx
    · exact hy
    · have h2 := rising_low h'.2 x hx
      cases e : strLt x p with
      | false => rfl
      | true =>
        cases e2 : strLt p y with
        | true =>
          rw [strLt_trans e e2] at h2
          cases h2
        | false =>
          have := strLt_tri e2 hy
          rw [this, h2] at e
          cases e
theorem sortedS_asc : ∀ {l : List Str}, sortedS l = true → l.Nodup → Asc l
  | [], _, _ => List.Pairwise.nil
  | x :: l, h, n => by
    have n' := List.nodup_cons.mp n
    have h' : risingS x l = true := h
    refine List.pairwise_cons.mpr ⟨fun y hy => ?_, ?_⟩
    · cases e : strLt x y with
      | true => rfl
      | false =>
        have := strLt_tri e (rising_low h' y hy)
        subst this
        exact absurd hy n'.1
    · refine sortedS_asc ?_ n'.2
      cases l with
      | nil => rfl
      | cons y l =>
        have z : (!ltCps y.cps.toList x.cps.toList && risingS y l) = true := h'
        rw [Bool.and_eq_true] at z
        exact z.2
theorem asc_nodup {l : List Str} (h : Asc l) : l.Nodup := h.imp fun {a b} q e => by
  rw [e, strLt_irr] at q
  cases q
theorem addS_nodup {l : List Str} {k : Str} (n : l.Nodup) : (addS l k).Nodup := by
  unfold addS
  split
  · exact n
  · rename_i h
    exact List.nodup_append.mpr ⟨n, by simp, fun x hx y hy e => h (by rw [← List.mem_singleton.mp hy, ← e]; exact hx)⟩
theorem addS_mem {l : List Str} {k x : Str} : x ∈ addS l k ↔ x ∈ l ∨ x = k := by
  unfold addS
  split
  · rename_i h
    exact ⟨.inl, fun z => z.elim id fun e => e ▸ h⟩
  · rw [List.mem_append, List.mem_singleton]
theorem addS_all : ∀ (ks l : List Str), l.Nodup → (ks.foldl addS l).Nodup ∧ ∀ x, x ∈ ks.foldl addS l ↔ x ∈ l ∨ x ∈ ks
  | [], l, n => ⟨n, fun x => by simp⟩
  | k :: ks, l, n => by
    obtain ⟨h1, h2⟩ := addS_all ks (addS l k) (addS_nodup n)
    refine ⟨h1, fun x => ?_⟩
    show x ∈ ks.foldl addS (addS l k) ↔ _
    rw [h2, addS_mem, List.mem_cons, or_assoc]
/-- what sorted(set of these texts) is -/
theorem srtS_only {ks ys : List Str} (p : ys.Perm (ks.foldl addS [])) (h : sortedS ys = true) : ys = srtS ks := by
  obtain ⟨n, m⟩ := addS_all ks [] List.nodup_nil
  refine asc_unique (sortedS_asc h (p.nodup_iff.mpr n)) (srtS_asc ks) fun x => ?_
  rw [p.mem_iff, m, srtS_mem]
  simp
theorem srtS_len (ks : List Str) : (srtS ks).length ≤ ks.length := by
  induction ks with
  | nil => exact Nat.le_refl _
  | cons k ks ih =>
    have h : ∀ l : List Str, (insS k l).length ≤ l.length + 1 := fun l => by
      induction l with
      | nil => exact Nat.le_refl _
      | cons v vs ih2 =>
        unfold insS
        split
        · simp
        · split
          · simp
          · rw [List.length_cons, List.length_cons]
            omega
    have := h (srtS ks)
    show (insS k (srtS ks)).length ≤ ks.length + 1
    omega
/-- sorted(a list of unlike texts) -/
theorem srtS_perm {ks ys : List Str} (n : ks.Nodup) (p : ys.Perm ks) (h : sortedS ys = true) : ys = srtS ks := by
  refine asc_unique (sortedS_asc h (p.nodup_iff.mpr n)) (srtS_asc ks) fun x => ?_
  rw [p.mem_iff, srtS_mem]
end LwB
namespace LwB
open PySem PySem.Spec PyProof.Rows L2 IqX RvT EnS TL NsT CpN CgN
variable [LwB.KC]
section
variable {X : Cx} {N : Nat} {env : EnvT} {own own1 : OwnT} {rest : List Stmt} {pos pos' p : Pos} {o : Oc} {e : Expr} {es : List Expr}
/-- str(a text) -/
theorem le_strS {z : Str} (hm : X.mg "str" = none) (he : PE X e (tLe N env (.str z))) (hg : Gl X "str" := by rfl) (hs : starEach [e] X.env = (false, eval e X.env) :: starEach [] X.env := by rfl) : PE X (.Call (.Name "str" p) [e] [] pos) (tLe N env (.str z)) :=
  PE.imp (pe_callTy SkE.call_str_str hg hm (by decide +kernel) (pa_cons (hs := hs) he pa_nil) (he := hs)) fun σ H Q ⟨W, x, ev, q⟩ => ⟨W, x, ev, fun H1 v s1 i1 => ⟨z, by rw [i1.str_eq], q H1 _ s1 ⟨0, .str⟩⟩⟩
/-- sorted(a list of texts) -/
theorem lf_sortT {ss us : List Str} (hm : X.mg "sorted" = none) (he : PE X e (tLe N env (trs true ss))) (hl : ss.length < 64) (hu : ∀ ys : List Str, ys.Perm ss → sortedS ys = true → ys = us) (hg : Gl X "sorted" := by rfl) (hs : starEach [e] X.env = (false, eval e X.env) :: starEach [] X.env := by rfl) :
    PE X (.Call (.Name "sorted" p) [e] [] pos) (tLf N env (us.map Tr.str)) :=
  PE.imp (pe_callB cr_sortedS hg hm (by decide +kernel) (pa_cons (hs := hs) he pa_nil) (he := hs)) fun σ H Q ⟨W, x, ev, q⟩ => ⟨W, x, ev, fun H1 v s1 i1 => by
    obtain ⟨a, xs, rfl, ha, la, pa⟩ := i1.sq_inv
    have ex := strs_its pa
    subst ex
    refine ⟨a, ss, rfl, SqL.of ((x.next s1).sub _ _ (ha.2 rfl)), hl, fun ys p h1 h2 np => ?_⟩
    have := hu ys h1 h2
    subst this
    exact q _ p _ (s1.trans (same_new np)) (s1.free np) upd_same (by rw [List.length_map, h1.length_eq]; omega) (its_strs _ ys)⟩
end
end LwB
namespace LwB
open PySem PySem.Spec PyProof.Rows L2 IqX RvT EnS TL NsT CpN
variable [LwB.KC]
section
variable {X : Cx} {N : Nat} {env : EnvT} {own : OwnT} {o : Oc} {rest body : List Stmt} {pos p rpos px py pt : Pos} {e : Expr} {x y : Str} {i k kt : Nat}
/-- for i, y in enumerate(xs) -/
theorem s_forEn {t : Bool} {ts : List Tr} (I : Nat → EnvT) (O : Nat → OwnT) (hc : X.calm = true) (hp : PassesOwn (model X.prog X.w) X.A X.env X.xe) (hm : X.mg "enumerate" = none) (hi : PE X e (tLe N env (.sq t ts))) (hg1 : PG X (.Name x px) (gName i)) (hg2 : PG X (.Name y py) (gName k)) (h0 : SubE (I 0) env) (hO : O 0 = own)
    (hb : ∀ j T, ts[j]? = some T → Turn X N body o ((k, T) :: del k ((i, .int (j : Nat)) :: del i (I j))) (O j) (I (j + 1)) (O (j + 1))) (hrest : PSs X rest (tS N (I ts.length) (O ts.length) o)) (hiN : i < N := by decide) (hk : k < N := by decide) (hf : ∀ j, freeO k (O j) = true := by intro _; rfl) (hf1 : ∀ j, freeO i (O j) = true := by intro _; rfl) (hgl : Gl X "enumerate" := by rfl)
    (hse : starEach [e] X.env = [(false, eval e X.env)] := by rfl) (hse2 : starEach [e] X.env = (false, eval e X.env) :: starEach [] X.env := by rfl) (hs : ∀ z, foldedSetIterable (.Call (.Name "enumerate" p) [e] [] rpos) X.env z = pure z := by intro _; rfl)
    (ha1 : (assignEach (.Name x px :: [.Name y py]) X.env).map (·.2) = assign (.Name x px) X.env :: (assignEach [.Name y py] X.env).map (·.2) := by rfl) (ha2 : (assignEach (.Name y py :: []) X.env).map (·.2) = assign (.Name y py) X.env :: (assignEach [] X.env).map (·.2) := by rfl)
    (hn : (assignEach [.Name x px, .Name y py] X.env).length = 2 := by rfl) (hst : (assignEach [.Name x px, .Name y py] X.env).findIdx? (·.1) = none := by rfl) :
    PSs X (.For (.Tuple [.Name x px, .Name y py] kt pt) (.Call (.Name "enumerate" p) [e] [] rpos) body [] pos :: rest) (tS N env own o) :=
  PSs.imp (pss_cons (ps_for hp hc (pi_enumS hgl hm (pa_cons (hs := hse2) hi pa_nil) hse) (pg_tup (n := 2) hc (pgs_cons (hs := ha1) hg1 (pgs_cons (hs := ha2) hg2 pgs_nil)) hn hst) pss_any hs) hrest) fun D σ H ⟨W, S, q⟩ => ⟨W, S.vw, S.ev, fun H1 v s1 i1 => by
    obtain ⟨a, xs, rfl, ha, la, pa⟩ := i1.sq_inv
    have S1 := S.step s1
    have hq1 : Sq t (LwB.vw W H H1) a xs := ha.1
    subst hO
    refine ⟨t, a, xs, rfl, (hq1.mv fun o e => S1.vw.sub a o e).B, ?_⟩
    refine for_enumS (tb := fun D σ H => ∃ t, PSs X body t ∧ t D σ H) (D := { D with nx := tS N (I ts.length) (O ts.length) o D }) (K := X.K) (b := t) (a := a) (xs := xs) (fun j σ' H' => ∃ W', Same (LwB.vw W H H1) W' ∧ Sv N (I j) (O j) σ' W' H') ⟨_, Same.refl _, S1.sub h0.mem fun _ h => h⟩ (fun j σ' H' _ ⟨W', s', S'⟩ => (hq1.mv fun o e => S'.vw.sub a o (s' a o e)).B) ?_ ?_
    · rintro j x T σ' H' hx ⟨W', s', S'⟩ nT
      obtain ⟨Tr, hT, iT⟩ := paired_get pa hx
      have S2 := S'.step (same_new (o := HO.tup [.int (j : Nat), x]) nT)
      have k2 := S'.keep (H' := upd H' T (HO.tup [.int (j : Nat), x]))
      refine ⟨T, [.int (j : Nat), x], rfl, SqT.of upd_same, rfl, .int (j : Nat), [x], rfl, x, [], rfl, rfl, ?_⟩
      exact (hb j Tr hT).meets ((S2.set hiN (hf1 j) ⟨0, .int⟩).set hk (hf j) ((iT.mv s').mv k2)) q ((S.keep.trans s').trans k2) fun σ3 W3 H3 s3 S3 => ⟨W3, (s'.trans k2).trans s3, S3⟩
    · rintro σ' H' ⟨W', s', S'⟩
      rw [← paired_len pa] at S'
      exact ⟨W', S', q.mono (S.keep.trans s')⟩⟩
end
section
variable {X : Cx} {N : Nat} {env : EnvT} {own : OwnT} {o : Oc} {rest : List Stmt} {pos : Pos} {i j : Nat} {x y : Str} {a b : Expr} {px py pt : Pos} {kt k2 : _} {pt2 : _}
/-- a, b = a new list (of lists of one's own, too; a may have been one), a thing that is told -/
theorem s_parOL {ts : List Tr} {T2 : Tr} (hc : X.calm = true) (hN : X.N.Nodup) (hi : X.N[i]? = some x) (hj : X.N[j]? = some y) (hij : i ≠ j) (hx : X.env.scope.names.lookup x = some .local) (hy : X.env.scope.names.lookup y = some .local)
    (ha : PE X a (tLf N (fullE own env) ts)) (hts : Tr.nolAll ts = true) (hb : PE X b (tLe N env T2)) (hw : swappedStores [.Tuple [.Name x px, .Name y py] kt pt] (.Tuple [a, b] k2 pt2) X.env = pure (some [x, y])) (hrest : PSs X rest (tS N ((j, T2) :: del j (del i env)) ((i, .lst ts) :: delO i own) o)) (hiN : i < N := by decide) (hjN : j < N := by decide) (hfi : freeO i (delO i own) = true := by rfl) (hfj : freeO j ((i, Cn.lst ts) :: delO i own) = true := by rfl)
    (hs : swapsWithSole [.Tuple [.Name x px, .Name y py] kt pt] (.Tuple [a, b] k2 pt2) pos.line X.env = pure false := by rfl) (hse : starEach [a, b] X.env = (false, eval a X.env) :: starEach [b] X.env := by rfl) (hse2 : starEach [b] X.env = (false, eval b X.env) :: starEach [] X.env := by rfl) :
    PSs X (.Assign [.Tuple [.Name x px, .Name y py] kt pt] (.Tuple [a, b] k2 pt2) pos :: rest) (tS N env own o) :=
  PSs.imp (pss_cons (ps_par (i := i) (j := j) hc hN hi hj hij hx hy (pa_cons (hs := hse) ha (pa_cons (hs := hse2) hb pa_nil)) hw hs) hrest) fun D σ H ⟨W, S, q⟩ => ⟨H, S.vw.self, S.full, fun H1 g vs s1 ng eg hl p => by
    obtain ⟨S1, hn⟩ := S.hide s1 ng eg
    have p1 : Paired (It (rm (LwB.vw W H H1) g)) ts vs := paired_mem p fun a b ha r => It.nol S1.vw (nol_mem hts ha) (r.mv fun b o h => (S.vw.self.next s1).sub b o (rm_sub h))
    refine ⟨_, S1.vw, S1.ev, fun H2 v2 s2 i2 => ⟨_, _, rfl, ?_⟩⟩
    have S2 : Sv N env (delO i own) σ _ H2 := (S1.step s2).sub (fun _ h => h) fun _ h => delO_sub h
    have S3 := S2.new (i := i) hiN hfi (by rw [vw_old eg]; exact rm_self) (s2 _ _ eg) hl (paired_imp p1 fun _ _ r => r.mv S1.keep) fun r hr c => hn r (delO_sub hr) c
    exact ⟨_, S3.set hjN hfj i2, q.mono fun a o h => S1.keep a o (keep_rm S.vw ng a o h)⟩⟩
end
section
variable {X : Cx} {N : Nat} {env : EnvT} {elt i0 : Expr} {scope : Scope} {pos tp : Pos} {k : Nat} {y : Str} {ifs : List Expr} {t : Bool} {ts : List Tr}
/-- sorted({elt for y in i0 if ..}) -/
theorem lf_sortS1 {sp pos' : Pos} (own : List (Str × Nat)) (Pr : Tr → Prop) (c : Tr → Bool) (F : Tr → Str) (hc : X.calm = true) (hm : X.mg "sorted" = none) (hN : X.N.Nodup) (hit : PE X i0 (tLe N env (.sq t ts))) (ok : BlkOk X.N X.env.scope scope own)
    (hg : ∀ (s : Shared) (H : Hp) (C : Addr) (cl : List (Str × Addr)) (fp : List Addr), PG (X.blk s H scope (compEnvC scope cl C X.env) fp) (.Name y tp) (gName k))
    (htt : ∀ (s : Shared) (H : Hp) (C : Addr) (cl : List (Str × Addr)) (fp : List Addr), Ts1 N k (delL (own.map (·.2)) env) Pr c (X.blk s H scope (compEnvC scope cl C X.env) fp) ifs) (hP : ∀ T ∈ ts, Pr T)
    (he : ∀ (s : Shared) (H : Hp) (C : Addr) (cl : List (Str × Addr)) (fp : List Addr) T, Pr T → c T = true → PE (X.blk s H scope (compEnvC scope cl C X.env) fp) elt (tLe N ((k, T) :: delL (own.map (·.2)) env) (.str (F T))))
    (hlen : ts.length ≤ 60) (hifs : (ifs = [] ∧ ∀ T, c T = true) ∨ ∃ e, ifs = [e] := by first | exact .inl ⟨rfl, fun _ => rfl⟩ | exact .inr ⟨_, rfl⟩) (hk : k < N := by decide) (hkv : memN k (own.map (·.2)) = true := by rfl)
    (hs : ∀ x, foldedSetIterable i0 X.env x = pure x := by intro _; rfl) (hgl : Gl X "sorted" := by rfl) (hse : starEach [.SetComp elt (⟨.Name y tp, i0, ifs, 0⟩ :: []) scope pos] X.env = (false, eval (.SetComp elt (⟨.Name y tp, i0, ifs, 0⟩ :: []) scope pos) X.env) :: starEach [] X.env := by rfl) :
    PE X (.Call (.Name "sorted" sp) [.SetComp elt (⟨.Name y tp, i0, ifs, 0⟩ :: []) scope pos] [] pos') (tLf N env ((srtS ((ts.filter c).map F)).map Tr.str)) := by
  have e : (ts.filter c).flatMap (fun T => [F T]) = (ts.filter c).map F := by
    generalize ts.filter c = l
    induction l with
    | nil => rfl
    | cons a l ih => rw [List.flatMap_cons, ih]; rfl
  refine lf_sortS (acts := fun acc env => CgN.actS elt acc env) own Pr c (fun T => [F T]) hc hm hN hit ok hg htt hP (fun s H C cl fp D T p q => ax_emit (he s H C cl fp T p q)) ?_ (fun ys h1 h2 => ?_) hifs hk hkv (by intro _ _ _; rfl) hs hgl hse
  · rw [e, List.length_map]
    exact Nat.le_trans (List.length_filter_le _ _) hlen
  · rw [e] at h1
    exact srtS_only h1 h2
/-- e in a tuple of names -/
theorem in_names {ks : List Str} {e : Str} : ((dataTs (ks.map Tr.str)).any fun z => PyData.eqv z (dataT (.str e))) = decide (e ∈ ks) := by
  induction ks with
  | nil => rfl
  | cons k ks ih =>
    show ((k == e) || (dataTs (ks.map Tr.str)).any fun z => PyData.eqv z (dataT (.str e))) = _
    rw [ih]
    by_cases h : k = e
    · simp [h]
    · have h' : ¬ e = k := fun q => h q.symm
      simp [h, h']
theorem room65 {k : Nat} {A : Around} (r : Room k A) : A.units + 65 < cLine := by
  have := r.un
  omega
theorem okS_names {t : Bool} {ks : List Str} (h : ∀ z ∈ ks, NameOk z) : okS (trs t ks) = true := by
  show okSs (ks.map Tr.str) = true
  induction ks with
  | nil => rfl
  | cons k ks ih =>
    show (PyData.strOk k && okSs (ks.map Tr.str)) = true
    rw [name_ok (h k (.head _)), ih fun z hz => h z (.tail _ hz)]
    rfl
theorem dep_names (t : Bool) (ks : List Str) : (trs t ks).dep ≤ 60 := by
  have : ∀ l : List Str, Tr.depAll (l.map Tr.str) ≤ 1 := fun l => by
    induction l with
    | nil => exact Nat.zero_le _
    | cons a l ih => exact Nat.max_le.mpr ⟨Nat.le_of_ble_eq_true rfl, ih⟩
  have h : Tr.depAll (ks.map Tr.str) + 1 ≤ 2 := Nat.succ_le_succ (this ks)
  exact Nat.le_trans h (by decide)
/-- a name in a list or a tuple of names -/
theorem kn_inN {a b : Expr} {e : Str} {ks : List Str} {t : Bool} {pos : Pos} (hu : X.A.units + 65 < cLine) (h1 : PE X a (tLe N env (.str e))) (h2 : PE X b (tLe N env (trs t ks))) (n1 : NameOk e) (n2 : ∀ z ∈ ks, NameOk z) (hm : behindInMarks .In b = false := by rfl) : PT X (.Compare a [.In] [b] pos) (tKn N env (decide (e ∈ ks))) :=
  kn_eq (kn_cmp (op_inT _ hu) h1 h2 (r_inT (T := .str e) (name_ok n1) (okS_names n2) (Nat.le_of_ble_eq_true rfl) (dep_names t ks)) hm) (in_names (ks := ks) (e := e))
end
end LwB
namespace LwB
open PySem PySem.Spec PyProof.Rows L2 IqX RvT EnS TL NsT
variable [LwB.KC]
/-! ### base_of with the shorter words kept apart -/
def lastW (l : Words) : List Str := l.getLast?.getD []
def b2c (s : Words × Words) (w : List Str) : Bool := !s.1.isEmpty && decide ((lastW s.1).length < w.length)
def b2sh (s : Words × Words) (w : List Str) : Words := if b2c s w = true then s.1 else s.2
def b2 (s : Words × Words) (w : List Str) : Words × Words := (if dn (b2sh s w) w = true then s.1 else s.1 ++ [w], b2sh s w)
structure B2 (s : Words × Words) : Prop where
  sub : ∀ u ∈ s.2, u ∈ s.1
  rest : ∀ u ∈ s.1, u ∈ s.2 ∨ u.length = (lastW s.1).length
theorem wLt_le {u w : List Str} (h : wLt u w = true) : u.length ≤ w.length := by
  unfold wLt at h
  split at h
  · omega
  · have := of_decide_eq_true h
    omega
theorem lastW_mem {l : Words} (h : l ≠ []) : lastW l ∈ l := by
  unfold lastW
  cases e : l.getLast? with
  | none => exact absurd (List.getLast?_eq_none_iff.mp e) h
  | some w => exact List.mem_of_getLast? e
theorem lastW_snoc (l : Words) (w : List Str) : lastW (l ++ [w]) = w := by
  unfold lastW
  rw [List.getLast?_concat]
  rfl
theorem b2_step {s : Words × Words} (I : B2 s) {w : List Str} (hlt : ∀ u ∈ s.1, wLt u w = true) : (b2 s w).1 = bsStep s.1 w ∧ B2 (b2 s w) := by
  by_cases c : b2c s w = true
  · have e : b2sh s w = s.1 := if_pos c
    refine ⟨?_, ?_, ?_⟩
    · unfold b2 bsStep
      rw [e]
    · intro u hu
      unfold b2 at hu ⊢
      rw [e] at hu ⊢
      show u ∈ (if dn s.1 w = true then s.1 else s.1 ++ [w])
      split
      · exact hu
      · exact List.mem_append_left _ hu
    · intro u hu
      unfold b2 at hu ⊢
      rw [e] at hu ⊢
      have hu : u ∈ (if dn s.1 w = true then s.1 else s.1 ++ [w]) := hu
      show u ∈ s.1 ∨ u.length = (lastW (if dn s.1 w = true then s.1 else s.1 ++ [w])).length
      split at hu
      · exact .inl hu
      · rename_i hd
        rcases List.mem_append.mp hu with h | h
        · exact .inl h
        · rw [if_neg hd, lastW_snoc, List.mem_singleton.mp h]
          exact .inr rfl
  · have e : b2sh s w = s.2 := if_neg c
    have hge : s.1 ≠ [] → w.length ≤ (lastW s.1).length := fun hne => by
      unfold b2c at c
      cases hq : s.1 with
      | nil => exact absurd hq hne
      | cons a l =>
        rw [hq] at c
        simp only [List.isEmpty_cons, Bool.not_false, Bool.true_and] at c
        have := of_decide_eq_false (Bool.eq_false_iff.mpr c)
        omega
    have hd : dn s.2 w = dn s.1 w := dn_congr ⟨fun ⟨u, hu, q⟩ => ⟨u, I.sub u hu, q⟩, fun ⟨u, hu, q⟩ => by
      rcases I.rest u hu with h | h
      · exact ⟨u, h, q⟩
      · have hl := hge (List.ne_nil_of_mem hu)
        have : u = w := q.eq_of_length_le (by omega)
        have h2 := hlt u hu
        rw [this, wLt_irr] at h2
        cases h2⟩
    refine ⟨?_, ?_, ?_⟩
    · unfold b2 bsStep
      rw [e, hd]
    · intro u hu
      have hu : u ∈ b2sh s w := hu
      rw [e] at hu
      have := I.sub u hu
      show u ∈ (if dn (b2sh s w) w = true then s.1 else s.1 ++ [w])
      split
      · exact this
      · exact List.mem_append_left _ this
    · intro u hu
      have hu : u ∈ (if dn (b2sh s w) w = true then s.1 else s.1 ++ [w]) := hu
      show u ∈ b2sh s w ∨ u.length = (lastW (if dn (b2sh s w) w = true then s.1 else s.1 ++ [w])).length
      rw [e] at hu ⊢
      split at hu
      · rename_i h
        rw [if_pos h]
        exact I.rest u hu
      · rename_i h
        rw [if_neg h, lastW_snoc]
        rcases List.mem_append.mp hu with hm | hm
        · rcases I.rest u hm with h1 | h1
          · exact .inl h1
          · have hne := List.ne_nil_of_mem hm
            have := wLt_le (hlt _ (lastW_mem hne))
            have := hge hne
            exact .inr (by omega)
        · rw [List.mem_singleton.mp hm]
          exact .inr rfl
theorem b2_take {l : Words} (h : Srt l) : ∀ n, ((l.take n).foldl b2 ([], [])).1 = (l.take n).foldl bsStep [] ∧ B2 ((l.take n).foldl b2 ([], []))
  | 0 => by
    rw [List.take_zero]
    exact ⟨rfl, fun _ h => (by cases h), fun _ h => (by cases h)⟩
  | n + 1 => by
    by_cases hn : n < l.length
    · rw [List.take_succ_eq_append_getElem hn, List.foldl_append, List.foldl_append]
      obtain ⟨h1, h2⟩ := b2_take h n
      have := b2_step h2 (w := l[n]) fun u hu => by
        rw [h1, bsF_take h n] at hu
        obtain ⟨i, hi, e⟩ := List.mem_iff_getElem.mp (lst_mem.mp hu).1
        rw [List.length_take] at hi
        rw [← e, List.getElem_take]
        exact List.pairwise_iff_getElem.mp h i n (by omega) hn (by omega)
      rw [h1] at this
      exact this
    · have q := b2_take h n
      rw [List.take_of_length_le (by omega)] at q
      rw [List.take_of_length_le (by omega)]
      exact q
theorem b2_next {l : Words} {j : Nat} {z : List Str} (h : l[j]? = some z) : (l.take (j + 1)).foldl b2 ([], []) = b2 ((l.take j).foldl b2 ([], [])) z := by
  obtain ⟨hj, e⟩ := List.getElem?_eq_some_iff.mp h
  rw [List.take_succ_eq_append_getElem hj, e, List.foldl_append]
  rfl
end LwB
namespace K13
open PySem PySem.Spec PyProof.Rows L2 IqX RvT LwB EnS TL NsT CpN
variable [LwB.KC]
section
variable {P : Program} {w : World} {K : PySem.W.Frag} {mg : Str → Option Value} {base : Heap}
def TBase (t u : Bool) : Sp := spT (fun Ws : Words => [trowsX t u Ws]) (fun Ws => Ws.length < 77) fun Ws => trows false (bs Ws)
theorem bs_take {l : Words} {j : Nat} {z : List Str} (h : l[j]? = some z) : (l.take (j + 1)).foldl bsStep [] = bsStep ((l.take j).foldl bsStep []) z := by
  obtain ⟨hj, e⟩ := List.getElem?_eq_some_iff.mp h
  rw [List.take_succ_eq_append_getElem hj, e, List.foldl_append]
  rfl
theorem bs_flen : ∀ (l kept : Words), (l.foldl bsStep kept).length ≤ l.length + kept.length
  | [], kept => by
    show kept.length ≤ 0 + kept.length
    omega
  | w :: l, kept => by
    have h := bs_flen l (bsStep kept w)
    have h2 : (bsStep kept w).length ≤ kept.length + 1 := by
      unfold bsStep
      split
      · omega
      · rw [List.length_append, List.length_singleton]
        omega
    show (l.foldl bsStep (bsStep kept w)).length ≤ _
    rw [List.length_cons]
    omega
theorem row_at {l : Words} {j : Nat} {T : Tr} {u : Bool} (h : (l.map (trs u))[j]? = some T) : ∃ z, l[j]? = some z ∧ T = trs u z := by
  rw [List.getElem?_map] at h
  cases hz : l[j]? with
  | none =>
    rw [hz] at h
    cases h
  | some z =>
    rw [hz] at h
    exact ⟨z, rfl, (Option.some.inj h).symm⟩
theorem tr_base_of {t u : Bool} (D : Df K mg "base_of" s_base_of ["logs"]) (B : Bn mg) (OC : Ok P w K mg base 1 "copied" ["logs"] (TCopied t u)) (OI : Ok P w K mg base 1 "in_order" ["logs"] (TInO false)) (OD : Ok P w K mg base 2 "does" ["base", "log"] (TDoes true false false)) : Ok P w K mg base 3 "base_of" ["logs"] (TBase t u) := by
  refine D.okT sc_base_of (fun _ => rfl) (fun Ws _ => trows_nol _) fun f cdv Ar outer s H E hr Ws hW => ?_
  have nd := sc_base_of.nd
  have hr1 : Room 1 _ := hr.mono (by decide)
  have hlen : (canon Ws).length < 77 := Nat.lt_of_le_of_lt (canon_len Ws) hW
  have hbt := b2_take (canon_srt Ws)
  refine s_parFL (i := 1) (j := 2) (ts := []) (T2 := trows true []) rfl nd rfl rfl (by decide) rfl rfl (lf_lst les_nil) (le_lst les_nil) rfl ?_
  refine s_for (t := true) (ts := (canon Ws).map (trs false)) (k := 3) (fun j => [(0, trowsX t u Ws), (2, trows true (((canon Ws).take j).foldl b2 ([], [])).2)]) (fun j => [(1, .lst ((((canon Ws).take j).foldl b2 ([], [])).1.map (trs false)))]) rfl PassesOwn.never
    (le_cT OI hr1 Ws hW (les_cons (le_cT OC hr1 Ws trivial (les_cons (le_v (pv 0)) les_nil)) les_nil)) (pg_name (i := 3) nd rfl (.inl rfl)) ⟨rfl, rfl, trivial⟩ rfl ?_ ?_
  · intro j T hT
    obtain ⟨z, hz, rfl⟩ := row_at hT
    have hj := (List.getElem?_eq_some_iff.mp hz).1
    have hkl : (((canon Ws).take j).foldl b2 ([], [])).1.length ≤ 77 := by
      rw [(hbt j).1]
      have := bs_flen ((canon Ws).take j) []
      rw [List.length_take] at this
      have h0 : ([] : Words).length = 0 := rfl
      omega
    rw [b2_next hz]
    generalize ((canon Ws).take j).foldl b2 ([], []) = st at hkl ⊢
    obtain ⟨ws, sh⟩ := st
    have hkl : ws.length ≤ 77 := hkl
    refine .inl (s_ifG (b := b2c (ws, sh) z) (env1 := [(0, trowsX t u Ws), (2, trows true (b2sh (ws, sh) z)), (3, trs false z)]) (own1 := [(1, .lst (ws.map (trs false)))]) (kn_eq (kn_and (q := decide ((lastW ws).length < z.length)) (kn_seq (t := true) (ts := ws.map (trs false)) (le_v (pv 1))) (fun hne => ?_)) ?_) (fun hb => ?_) (fun hb => ?_) ?_)
    · have hw : ws ≠ [] := by
        rintro rfl
        cases hne
      refine kn_eq (kn_cmp op_lt (le_len (t := false) (ts := (lastW ws).map Tr.str) B.len (le_ixI (j := ws.length - 1) (le_v (T := trows true ws) (pv 1)) (le_neg le_int) ?_ ?_)) (le_len (t := false) (ts := z.map Tr.str) B.len (le_v (pv 3))) r_lt (nomark _)) ?_
      · rw [List.length_map]
        exact ixN_last (List.length_pos_iff.mpr hw)
      · rw [List.getElem?_map]
        have : ws[ws.length - 1]? = some (lastW ws) := by
          unfold lastW
          rw [List.getLast?_eq_getElem?]
          have h0 := List.length_pos_iff.mpr hw
          rw [List.getElem?_eq_getElem (by omega)]
          rfl
        rw [this]
        rfl
      · rw [List.length_map, List.length_map]
        exact decide_eq_decide.mpr ⟨fun h => by omega, fun h => by omega⟩
    · unfold b2c
      cases ws <;> rfl
    · have e : b2sh (ws, sh) z = ws := if_pos hb
      rw [e]
      exact s_setN (i := 2) (ts := ws.map (trs false)) nd rfl (.inl rfl) (lf_list B.list (le_v (T := trows true ws) (pv 1))) (rows_nolAll ws) (s_go ⟨rfl, rfl, rfl, trivial⟩)
    · have e : b2sh (ws, sh) z = sh := if_neg (by rw [hb]; decide)
      rw [e]
      exact s_go ⟨rfl, rfl, rfl, trivial⟩
    · refine s_ifR (b := !dn (b2sh (ws, sh) z) z) (kn_not (kn_val (le_cT OD hr (b2sh (ws, sh) z, z) trivial (les_cons (le_v (pv 2)) (les_cons (le_v (pv 3)) les_nil))))) (fun hb => ?_) (fun hb => ?_)
      · have e : b2 (ws, sh) z = (ws ++ [z], b2sh (ws, sh) z) := by
          unfold b2
          rw [if_neg (by simpa using hb)]
        rw [e]
        show PSs _ _ (tS _ _ _ (.go [(0, trowsX t u Ws), (2, trows true (b2sh (ws, sh) z))] [(1, .lst ((ws ++ [z]).map (trs false)))]))
        rw [List.map_append]
        exact s_app (i := 1) (T := trs false z) (ps_expr (pe_bm PySem.F.plainAttrs_list PySem.F.slot_list_append PySem.F.type_list_append mt_append (pv 1) (pa_cons (le_v (pv 3)) pa_nil))) (trs_nol z) (s_go ⟨rfl, rfl, trivial⟩) (hlt := by rw [List.length_map]; omega)
      · have e : b2 (ws, sh) z = (ws, b2sh (ws, sh) z) := by
          unfold b2
          rw [if_pos (by simpa using hb)]
        rw [e]
        exact s_go ⟨rfl, rfl, trivial⟩
  · have e : trows false (bs Ws) = .sq false ((((canon Ws).take ((canon Ws).map (trs false)).length).foldl b2 ([], [])).1.map (trs false)) := by
      rw [(hbt _).1, List.length_map, List.take_length]
      show trows false (lst (canon Ws)) = trows false (bsF (canon Ws))
      rw [bsF_lst (canon_srt Ws)]
    rw [e]
    exact s_retO (le_tuple (t := true) B.tuple (le_v (pv 1))) (by rw [← e]; exact trows_nol _) (fun _ h => nomatch h)
end
end K13
namespace K13
open PySem PySem.Spec PyProof.Rows L2 IqX RvT LwB EnS TL NsT
def scLst : Scope := { kind := .function, names := [(Str.ofString ".0", .local), (Str.ofString "_law_row", .cell), (Str.ofString "_law_rows", .cell)], isGenerator := false, isCoroutine := false }
section
variable {P : Program} {w : World} {K : PySem.W.Frag} {mg : Str → Option Value} {base : Heap}
theorem ok__law_least (D : Df K mg "_law_least" s__law_least ["_law_rows"]) (B : Bn mg) (OS : Ok P w K mg base 1 "_law_sorted" ["_law_rows"] spSorted) (OL : Ok P w K mg base 1 "_law_lies" ["_law_verse", "_law_row"] spLies) : Ok P w K mg base 2 "_law_least" ["_law_rows"] spLeast := by
  refine D.ok sc__law_least (fun vs H Q E h => ?_) (fun f cdv A outer s H vs Q E hr h => ?_)
  · obtain ⟨_, _, _, rfl, _⟩ := h
    rfl
  · obtain ⟨t, a, Ws, rfl, hW, hfew, hshort, q⟩ := h
    have nd := sc__law_least.nd
    refine ⟨_, pss_cons (ps_set (i := 0) nd rfl (.inr rfl) (pe_c OS hr (pa_cons (pv 0) pa_nil)))
      (pss_one (ps_ret (pe_tupQ B.tuple (pa_cons (pe_lc (own := [("_law_row", 1)]) (g := gName 1) (by rfl) nd (pi_seq (pv 0)) (blkOk_by (N := ["_law_rows", "_law_row", "_law_own"]) (sc := defScope s__law_least) (by decide +kernel))
        (fun _ _ _ _ _ => pg_name (i := 1) nd rfl (.inr rfl))
        (fun _ _ _ _ _ => pts_one (pt_cmpR (op_eqEK K hr.units) (pe_lc (own := [("_law_own", 2)]) (g := gName 2) (by rfl) nd (pi_seqK K (pv 0)) (blkOk_by (N := ["_law_rows", "_law_row", "_law_own"]) (sc := scLst) (by decide +kernel))
          (fun _ _ _ _ _ => pg_name (i := 2) nd rfl (.inl rfl)) (fun _ _ _ _ _ => pts_one (PW.pt (pw_and (pt_cmpR (op_neK hr.units) (pv 2) (pv 1) (nomark _)) (pw_and1 (pt_val (pe_c OL hr (pa_cons (pv 2) (pa_cons (pv 1) pa_nil)))))))) (fun _ _ _ _ _ => pv 2)) (pe_lst pa_nil) (nomark _)))
        (fun _ _ _ _ _ => pv 1)) pa_nil)))), ?_⟩
    refine ⟨_, rfl, t, a, Ws, rfl, hW, hfew, fun H1 p1 Us s1 h1 so => ?_⟩
    obtain ⟨xs, hs, hl, pr⟩ := id h1
    refine ⟨.ref p1, rfl, false, p1, rfl, ⟨xs, hs.B⟩, fun L nL => ?_⟩
    refine lc_mf (K := K) Us (fun z => if (Us.filter fun u => decide (u ≠ z) && isPart u z).isEmpty = true then some z else none) RowAt nL hs hl (paired_len pr) (fun _ _ _ _ s r => r.same s) (fun _ _ _ _ _ _ e r => r.put e) ?_ ?_
    · intro i z x H2 C C0 hz hx sm _ yes no
      have rz := (paired_both pr hz hx).same sm
      refine ⟨rfl, ?_⟩
      refine ⟨.ref p1, rfl, false, p1, rfl, ⟨xs, (sm.sq hs).B⟩, fun L2 nL2 => ?_⟩
      refine lc_mf (K := K) Us (fun u => if (decide (u ≠ z) && isPart u z) = true then some u else none) RowAt nL2 (sm.sq hs) hl (paired_len pr) (fun _ _ _ _ s r => r.same s) (fun _ _ _ _ _ _ e r => r.put e) ?_ ?_
      · intro i2 u y H3 C' C0' hu hy sm3 _ yes2 no2
        have ry := (paired_both pr hu hy).same (sm.trans sm3)
        have rz3 := rz.same sm3
        obtain ⟨py, rfl, hpy, hly⟩ := id ry
        obtain ⟨pz, rfl, hpz, hlz⟩ := id rz3
        have hul : u.length ≤ 1000 := hshort u ((so.1 u).mp (List.mem_of_getElem? hu))
        refine ⟨rfl, _, rfl, _, rfl, _, _, py, pz, rfl, rfl, ry.key, rz3.key, by rw [depth_texts]; decide, _, rfl, ?_⟩
        rw [beq_texts]
        refine ite2 (fun h1 => ?_) (fun h1 => ?_)
        · refine ⟨_, rfl, _, rfl, false, false, py, pz, u, z, rfl, hpy, hpz, hul, _, rfl, ite2 (fun h2 => ?_) (fun h2 => ?_)⟩
          · refine ⟨_, rfl, yes2 _ _ u (Same.refl H3) (if_pos ?_) ry⟩
            have h1' : ¬ u = z := by simpa using h1
            have h2' : isPart u z = true := h2
            simp [h1', h2']
          · refine no2 _ (Same.refl H3) (if_neg ?_)
            have h2' : isPart u z = false := by simpa using h2
            simp [h2']
        · refine no2 _ (Same.refl H3) (if_neg ?_)
          have h1' : u = z := by simpa using h1
          simp [h1']
      · intro H3 ys2 sm3 eL2 pr2 hyl2
        rw [fm_if] at pr2
        refine ⟨(by show 0 ≤ sizeLine; decide), fun p3 n3 => ?_⟩
        have s3 := same_new (o := HO.lst []) n3
        refine ⟨true, L2, p3, ys2, rfl, rfl, (s3.sq (.lst eL2)).B, (Sq.lst upd_same).B, _, rfl, ?_⟩
        have eb : ys2.isEmpty = (Us.filter fun u => decide (u ≠ z) && isPart u z).isEmpty := paired_empty pr2
        have s23 : Same H2 (upd H3 p3 (.lst [])) := sm3.trans s3
        refine ite2 (fun h1 => ?_) (fun h1 => ?_)
        · rw [eb] at h1
          obtain ⟨pz, rfl, hpz, hlz⟩ := rz.same s23
          exact ⟨_, rfl, yes _ _ z s23 (if_pos h1) ⟨pz, rfl, hpz, hlz⟩⟩
        · rw [eb] at h1
          exact no _ s23 (if_neg h1)
    · intro H2 ys sm eL pr1 hyl
      rw [fm_if (fun z => (Us.filter fun u => decide (u ≠ z) && isPart u z).isEmpty)] at pr1
      refine ⟨true, L, ys, rfl, .lst eL, fun H3 p s3 h3 => ?_⟩
      exact q H3 p Us (s1.trans (sm.trans s3)) ⟨ys, h3, by omega, paired_imp pr1 fun _ _ r => RowAt.same s3 r⟩ so
theorem ok__law_done (D : Df K mg "_law_done" s__law_done ["_law_words_so", "_law_row"]) (B : Bn mg) (OL : Ok P w K mg base 1 "_law_lies" ["_law_verse", "_law_row"] spLies) : Ok P w K mg base 2 "_law_done" ["_law_words_so", "_law_row"] spDone := by
  refine D.ok sc__law_done (fun vs H Q E h => ?_) (fun f cdv A outer s H vs Q E hr h => ?_)
  · obtain ⟨_, _, _, _, _, _, rfl, _⟩ := h
    rfl
  · obtain ⟨t, b, a, c, Ws, es, rfl, ⟨xs, hs, hl, pr⟩, he, hshort, q⟩ := h
    have nd := sc__law_done.nd
    refine ⟨_, pss_one (ps_ret (pe_cmpR (op_neE hr.units) (pe_lc (own := [("_law_own", 2)]) (g := gName 2) (by rfl) nd (pi_seq (pv 0)) (blkOk_by (N := ["_law_words_so", "_law_row", "_law_own"]) (sc := defScope s__law_done) (by decide +kernel))
        (fun _ _ _ _ _ => pg_name (i := 2) nd rfl (.inl rfl)) (fun _ _ _ _ _ => pts_one (pt_val (pe_c OL hr (pa_cons (pv 2) (pa_cons (pv 1) pa_nil))))) (fun _ _ _ _ _ => pv 2)) (pe_lst pa_nil) (nomark _))), ?_⟩
    refine ⟨.ref a, rfl, t, a, rfl, ⟨xs, hs.B⟩, fun L nL => ?_⟩
    refine lc_mf (K := K) Ws (fun z => if isPart z es = true then some z else none) RowAt nL hs hl (paired_len pr) (fun _ _ _ _ s r => r.same s) (fun _ _ _ _ _ _ e r => r.put e) ?_ ?_
    · intro i z x H2 C C0 hz hx sm _ yes no
      have rz := (paired_both pr hz hx).same sm
      obtain ⟨p, rfl, hp, hlz⟩ := id rz
      refine ⟨rfl, _, rfl, _, rfl, false, b, p, c, z, es, rfl, hp, sm.sq he, hshort z (List.mem_of_getElem? hz), _, rfl, ite2 (fun h1 => ?_) (fun h1 => ?_)⟩
      · exact ⟨_, rfl, yes _ _ z (Same.refl H2) (if_pos h1) rz⟩
      · exact no _ (Same.refl H2) (if_neg h1)
    · intro H2 ys sm eL pr1 hyl
      rw [fm_if (fun z => isPart z es)] at pr1
      refine ⟨(by show 0 ≤ sizeLine; decide), fun p3 n3 => ?_⟩
      have s3 := same_new (o := HO.lst []) n3
      refine ⟨true, L, p3, ys, rfl, rfl, (s3.sq (.lst eL)).B, (Sq.lst upd_same).B, ?_⟩
      have eb : (!ys.isEmpty) = dn Ws es := by
        have h1 := paired_len pr1
        unfold dn
        rw [Bool.eq_iff_iff, List.any_eq_true]
        constructor
        · intro h
          have : 0 < (Ws.filter fun z => isPart z es).length := by
            rw [h1]
            cases ys with
            | nil => exact absurd h (by decide)
            | cons y ys => exact Nat.succ_pos _
          obtain ⟨z, hz⟩ := List.exists_mem_of_length_pos this
          obtain ⟨hz1, hz2⟩ := List.mem_filter.mp hz
          exact ⟨z, hz1, hz2⟩
        · rintro ⟨z, hz1, hz2⟩
          have : 0 < (Ws.filter fun z => isPart z es).length := List.length_pos_of_mem (List.mem_filter.mpr ⟨hz1, hz2⟩)
          rw [h1] at this
          cases ys with
          | nil => exact absurd this (Nat.lt_irrefl _)
          | cons y ys => rfl
      show Q (V.bl (!ys.isEmpty)) _
      rw [eb]
      exact q _ (sm.trans s3)
theorem ok__law_some_rows (D : Df K mg "_law_some_rows" s__law_some_rows ["_law_box_here", "_law_tags", "_law_many", "_law_most"]) (B : Bn mg) (OT : Ok P w K mg base 1 "_law_take" ["_law_box_here", "_law_size_so"] spTake) (OR : Ok P w K mg base 3 "_law_event_row" ["_law_box_here", "_law_tags", "_law_most"] spRow) :
    Ok P w K mg base 4 "_law_some_rows" ["_law_box_here", "_law_tags", "_law_many", "_law_most"] spSomeRows := by
  refine D.ok sc__law_some_rows (fun vs H Q E h => ?_) (fun f cdv A outer s H vs Q E hr h => ?_)
  · obtain ⟨_, _, _, _, _, _, rfl, _⟩ := h
    rfl
  · obtain ⟨b, l, n, k, m, ss, rfl, hb, hn, hlb, hl, hsl, hs0, hm, hk, q⟩ := h
    have nd := sc__law_some_rows.nd
    have hr1 : Room 1 _ := hr.mono (by decide)
    refine ⟨_, pss_one (ps_ret (pe_lc (own := [("_law_turn", 4)]) (g := gName 4) (by rfl) nd (pi_range1 (by rfl) B.range (pa_cons (pe_c OT hr1 (pa_cons (pv 0) (pa_cons (pe_op op_add (pv 2) pe_int) pa_nil))) pa_nil))
        (blkOk_by (N := ["_law_box_here", "_law_tags", "_law_many", "_law_most", "_law_turn"]) (sc := defScope s__law_some_rows) (by decide +kernel))
        (fun _ _ _ _ _ => pg_name (i := 4) nd rfl (.inl rfl)) (fun _ _ _ _ _ => pts_nil) (fun _ _ _ _ _ => pe_c OR hr (pa_cons (pv 0) (pa_cons (pv 1) (pa_cons (pv 3) pa_nil)))))), ?_⟩
    refine ⟨_, rfl, _, rfl, _, _, rfl, rfl, b, n, _, rfl, hb, by omega, by omega, by omega, fun H1 t f1 b1 t0 t1 => ?_⟩
    refine ⟨t, rfl, by omega, by omega, fun L nL => ?_⟩
    have hLb : L ≠ b := b1.ne_new nL
    have nL0 : H L = none := f1.free hLb nL
    generalize hc : 1 + m = c at q
    have hmul : ∀ u : Nat, u < t.toNat → u * c + c ≤ k * c := fun u hu => by
      rw [← Nat.succ_mul]
      exact Nat.mul_le_mul_right c (by omega)
    have hkc : k * c ≤ 2000000 := Nat.le_trans (Nat.mul_le_mul hk (by omega : c ≤ 1001)) (by decide)
    refine lc_range (lo := 0) (n := t.toNat) (fun u H2 => LwB.Fr b H H2 ∧ Bx (n + 1 + u * c) H2 b ∧ ∃ Ws ys, H2 L = some (.lst ys) ∧ Paired (RowAt H2) Ws ys ∧ Ws.length = u ∧ ∀ w ∈ Ws, Gd ss m w)
      ⟨f1.young nL0, (b1.new nL).mono (by omega), [], [], upd_same, .nil, rfl, fun c h => nomatch h⟩ ?_ ?_
    · rintro u H2 hu ⟨fr2, bx2, Ws, ys, e2, pr, hl2, hc2⟩
      have hu2 := hmul u hu
      refine ⟨rfl, ?_⟩
      show tCall spRow [] E0 (tCons (tVar 0) (tCons (tVar 1) (tCons (tVar 3) tNil))) _ _ _
      refine ⟨_, rfl, _, rfl, _, rfl, b, l, n + 1 + u * c, m, ss, rfl, bx2, by omega, hlb, fr2.sq hlb hl, hsl, hs0, hm, fun H3 p es fr3 bx3 hp hpb hel hes => ?_⟩
      have e3 : H3 L = some (.lst ys) := fr3 _ _ e2 hLb
      have hyl := paired_len pr
      refine ⟨ys, e3, ?_, (fr2.trans fr3).young nL0, ?_, Ws ++ [es], ys ++ [.ref p], upd_same, ?_, ?_, ?_⟩
      · exact small1000 (by omega)
      · refine (bx3.mono ?_).upd hLb
        rw [Nat.succ_mul]
        omega
      · exact paired_snoc (paired_imp pr fun _ _ r => (r.fr fr3 bx2).put e3) (RowAt.put ⟨p, rfl, hp, by omega⟩ e3)
      · rw [List.length_append, List.length_singleton, hl2]
      · intro w' h'
        rcases List.mem_append.mp h' with h' | h'
        · exact hc2 w' h'
        · rw [List.mem_singleton.mp h']
          exact ⟨hel, hes⟩
    rintro H2 ⟨fr2, bx2, Ws, ys, e2, pr, hl2, hc2⟩
    refine q H2 L ys Ws fr2 (bx2.mono ?_) nL0 e2 pr (by omega) hc2
    have : t.toNat * c ≤ k * c := Nat.mul_le_mul_right c (by omega)
    omega
end
end K13
namespace K13
open PySem PySem.Spec PyProof.Rows L2 IqX RvT LwB EnS TL NsT
section
variable {P : Program} {w : World} {K : PySem.W.Frag} {mg : Str → Option Value} {base : Heap}
theorem ok__law_lists (D : Df K mg "_law_lists" s__law_lists ["_law_matter"]) (B : Bn mg) : ∀ n : Nat, Ok P w K mg base n "_law_lists" ["_law_matter"] (spLists n)
  | 0 => by
    obtain ⟨f, fd, F, g, b⟩ := D.ex
    obtain ⟨oc, od, _, _, _, _, _, _, osl, _, lk, _⟩ := F.ex
    exact ⟨f, fd, ⟨fun vs H Q E h => h.elim, fun A outer s H args us vs Q E hr he hb hv h => h.elim⟩, g, F.kp, b, oc, od, osl, lk⟩
  | n + 1 => by
    have IH := ok__law_lists D B n
    refine D.ok sc__law_lists (fun vs H Q E h => spLists_len h) (fun f cdv A outer s H vs Q E hr h => ?_)
    obtain ⟨v, t, rfl, i1, q⟩ := h
    have nd := sc__law_lists.nd
    refine ⟨_, pss_one (ps_ret (pe_ifExp (pt_val (pe_isQ2 B.isinstance (pa_cons (pv 0) (pa_cons (pe_tup (pa_cons (pe_ty (n := "list") B.list) (pa_cons (pe_ty (n := "tuple") B.tuple) pa_nil))) pa_nil))))
      (pe_lc (own := [("_law_bit", 1)]) (g := gName 1) (by rfl) nd (pi_seq (pv 0)) (blkOk_by (N := ["_law_matter", "_law_bit"]) (sc := defScope s__law_lists) (by decide +kernel))
        (fun _ _ _ _ _ => pg_name (i := 1) nd rfl (.inl rfl)) (fun _ _ _ _ _ => pts_nil) (fun _ _ _ _ _ => pe_c IH hr (pa_cons (pv 1) pa_nil))) (pv 0))), ?_⟩
    cases t with
    | non =>
      have e := i1.non_eq
      subst e
      exact ⟨_, rfl, (by show 2 ≤ sizeLine; decide), fun p np => ⟨_, p, "list", "tuple", "NoneType", false, false, rfl, upd_same, .base .non, (by decide +kernel), (by decide +kernel), false, rfl, iteF ⟨_, rfl, q _ _ (same_new np) .non⟩⟩⟩
    | bl b =>
      have e := i1.bl_eq
      subst e
      exact ⟨_, rfl, (by show 2 ≤ sizeLine; decide), fun p np => ⟨_, p, "list", "tuple", "bool", false, false, rfl, upd_same, .base (.bl _), (by decide +kernel), (by decide +kernel), false, rfl, iteF ⟨_, rfl, q _ _ (same_new np) .bl⟩⟩⟩
    | str z =>
      have e := i1.str_eq
      subst e
      exact ⟨_, rfl, (by show 2 ≤ sizeLine; decide), fun p np => ⟨_, p, "list", "tuple", "str", false, false, rfl, upd_same, .base (.str _), (by decide +kernel), (by decide +kernel), false, rfl, iteF ⟨_, rfl, q _ _ (same_new np) .str⟩⟩⟩
    | int i =>
      have e := i1.int_eq
      subst e
      exact ⟨_, rfl, (by show 2 ≤ sizeLine; decide), fun p np => ⟨_, p, "list", "tuple", "int", false, false, rfl, upd_same, .base (.int _), (by decide +kernel), (by decide +kernel), false, rfl, iteF ⟨_, rfl, q _ _ (same_new np) .int⟩⟩⟩
    | sq t ts =>
      obtain ⟨m, a1, xs, en, e1, ⟨h1, _⟩, l1, p1⟩ := i1.sq_eq
      subst e1 en
      have hk1 : kitB (if t = true then "list" else "tuple") "list" = some t := by cases t <;> decide +kernel
      have hk2 : kitB (if t = true then "list" else "tuple") "tuple" = some (!t) := by cases t <;> decide +kernel
      refine ⟨_, rfl, (by show 2 ≤ sizeLine; decide), fun p np => ⟨_, p, "list", "tuple", _, _, _, rfl, upd_same, ((same_new np).sq h1).ty, hk1, hk2, true, by cases t <;> rfl, iteT ?_⟩⟩
      have sp := same_new (o := .tup [V.ty "list", V.ty "tuple"]) np
      generalize hH1 : upd H p (.tup [V.ty "list", V.ty "tuple"]) = H1 at sp ⊢
      have h1' := sp.sq h1
      refine ⟨_, rfl, t, a1, rfl, ⟨xs, h1'.B⟩, fun L nL => ?_⟩
      refine lc_mf (K := K) ts some (fun H' z v => Is (off (upd H1 L (.lst [])) H') m z.lists v) nL h1' l1 (paired_len p1) ?_ ?_ ?_ ?_
      · intro Ha Hb z v' s r
        refine r.mv fun a o e => ?_
        have e1 := off_none e
        exact off_of e1 (s _ _ (off_le e))
      · intro Ha z v' ys o sm e r
        refine r.mv fun a o' e' => ?_
        have e1 := off_none e'
        refine off_of e1 ?_
        rw [upd_ne]
        · exact off_le e'
        · rintro rfl
          rw [upd_same] at e1
          cases e1
      · intro i z x H2 C C0 hz hx sm ⟨ys0, e0⟩ yes no
        have rz := (paired_both p1 hz hx).same (sp.trans sm)
        refine ⟨rfl, ?_⟩
        show tCall (spLists (m + 1)) [] E0 (tCons (tVar 1) tNil) _ _ _
        refine ⟨_, rfl, x, z, rfl, rz, fun H3 v3 s3 i3 => ?_⟩
        refine yes v3 H3 z s3 rfl (i3.mv fun a o e => ?_)
        refine off_of ?_ (off_le e)
        have e1 := off_none e
        by_cases ha : a = L
        · subst ha
          rw [e0] at e1
          cases e1
        · rw [upd_ne ha]
          cases hh : H1 a with
          | none => rfl
          | some u =>
            rw [sm _ _ hh] at e1
            cases e1
      · intro H2 ys sm eL pr1 hyl
        have nL0 : H L = none := sp.free nL
        refine q H2 _ (sp.trans sm) ?_
        show Is (off H H2) (m + 1) (.sq true (Tr.listsAll ts)) (.ref L)
        rw [Tr.listsAll_map]
        refine Is.sq (.lst (off_of nL0 eL)) (by omega) ?_
        rw [List.filterMap_some] at pr1
        refine paired_map (paired_imp pr1 fun z v r => r.mv fun a o e => ?_)
        refine off_of ?_ (off_le e)
        have e1 := off_none e
        by_cases ha : a = L
        · subst ha
          rw [upd_same] at e1
          cases e1
        · rw [upd_ne ha] at e1
          exact sp.free e1
theorem ok__law_sorted (D : Df K mg "_law_sorted" s__law_sorted ["_law_rows"]) (B : Bn mg) (S : Bs mg) : Ok P w K mg base 1 "_law_sorted" ["_law_rows"] spSorted := by
  refine D.ok sc__law_sorted (fun vs H Q E h => ?_) (fun f cdv A outer s H vs Q E hr h => ?_)
  · obtain ⟨_, _, _, rfl, _⟩ := h
    rfl
  · obtain ⟨t, a, Ws, rfl, ⟨xs, hs, hl, pr⟩, hfew, q⟩ := h
    have nd := sc__law_sorted.nd
    refine ⟨_, pss_one (ps_ret (pe_tupQ B.tuple (pa_cons (pe_lc (own := [("_law_size_so", 1), ("_law_own", 2)]) (g := gTup K 2 (gCons (gName 1) (gCons (gName 2) gNil))) (by rfl) nd
      (pi_seq (pe_callB (cr_sortN rfl hr.units) (by rfl) B.sorted (by decide +kernel) (pa_cons (pe_callTy (cr_setN rfl hr.units) (by rfl) S.set (by decide +kernel) (pa_cons
        (pe_lc (own := [("_law_row", 3)]) (g := gName 3) (by rfl) nd (pi_seq (pv 0)) (blkOk_by (N := ["_law_rows", "_law_size_so", "_law_own", "_law_row"]) (sc := defScope s__law_sorted) (by decide +kernel))
          (fun _ _ _ _ _ => pg_name (i := 3) nd rfl (.inl rfl)) (fun _ _ _ _ _ => pts_nil) (fun _ _ _ _ _ => pe_tup (pa_cons (pe_len B.len (pa_cons (pv 3) pa_nil)) (pa_cons (pv 3) pa_nil)))) pa_nil)) pa_nil)))
      (blkOk_by (N := ["_law_rows", "_law_size_so", "_law_own", "_law_row"]) (sc := defScope s__law_sorted) (by decide +kernel))
      (fun _ _ _ _ _ => pg_tup rfl (pgs_cons (pg_name (i := 1) nd rfl (.inl rfl)) (pgs_cons (pg_name (i := 2) nd rfl (.inl rfl)) pgs_nil))) (fun _ _ _ _ _ => pts_nil) (fun _ _ _ _ _ => pv 2)) pa_nil))), ?_⟩
    refine ⟨.ref a, rfl, t, a, rfl, ⟨xs, hs.B⟩, fun L nL => ?_⟩
    refine lc_mf (K := K) Ws some PairAt nL hs hl (paired_len pr) (fun _ _ _ _ s r => r.same s) (fun _ _ _ _ _ _ e r => r.put e) ?_ ?_
    · intro i z x H1 C C0 hz hx sm _ yes no
      obtain ⟨p, rfl, hp, hl'⟩ := (paired_both pr hz hx).same sm
      refine ⟨rfl, _, rfl, false, p, _, rfl, hp, _, rfl, (by show 2 ≤ sizeLine; decide), fun p2 n2 => ?_⟩
      refine yes _ _ z (same_new n2) rfl ⟨p2, .ref p, rfl, ?_, p, rfl, (same_new n2).sq hp, hl'⟩
      refine .tup ?_
      rw [upd_same, List.length_map]
    · intro H1 ys sm eL pr1 hyl
      rw [List.filterMap_some] at pr1
      obtain ⟨ks, e1, e2, e3⟩ := keyed (R := PairAt H1) (key := pairK) (fun _ _ r => r.ref) pr1
      have hkl : ks.length = Ws.length := by
        have := congrArg List.length e2
        rw [List.length_map, List.length_map] at this
        exact this
      have kd : ∀ q ∈ ks, KIs H1 q.2 (.ref q.1) ∧ q.2.depth ≤ 7 := fun q hq => by
        obtain ⟨z, _, ez, r⟩ := e3 q hq
        rw [ez]
        exact ⟨r.key, by rw [pairK_depth]; decide⟩
      refine ⟨L, ks, rfl, by rw [← e1]; exact .lst eL, kd, by omega, fun aS LL nS sub all nodup => ?_⟩
      have s2 := same_new (o := SetNO P w aS LL) nS
      refine ⟨aS, LL, rfl, upd_same, fun q hq => ⟨?_, (kd q (sub q hq)).2⟩, fun M hM => ?_, fun M hM => ?_, fun L' p3 pm nd3 len3 pw n3 => ?_⟩
      · obtain ⟨z, _, ez, r⟩ := e3 q (sub q hq)
        rw [ez]
        exact (r.same s2).key
      · intro d hd d' hd'
        obtain ⟨q1, m1, rfl⟩ := List.mem_map.mp hd
        obtain ⟨q2, m2, rfl⟩ := List.mem_map.mp hd'
        obtain ⟨z1, _, ez1, _⟩ := e3 q1 (sub _ (hM _ m1))
        obtain ⟨z2, _, ez2, _⟩ := e3 q2 (sub _ (hM _ m2))
        show PySem.W.alike q1.2.data q2.2.data = true
        rw [ez1, ez2]
        exact alike_pair z1 z2
      · refine .inl fun d hd => ?_
        obtain ⟨q1, m1, rfl⟩ := List.mem_map.mp hd
        obtain ⟨z1, _, ez1, _⟩ := e3 q1 (sub _ (hM.mem_iff.mp m1))
        show ∃ x r, q1.2.data = .tuple (x :: r)
        rw [ez1]
        exact pair_data z1
      · have s3 := same_new (o := HO.lst (L'.map fun q => V.ref q.1)) n3
        generalize hH3 : upd (upd H1 aS _) p3 (.lst (L'.map fun q => V.ref q.1)) = H3 at s3 ⊢
        have e3p : H3 p3 = some (.lst (L'.map fun q => V.ref q.1)) := by rw [← hH3]; exact upd_same
        obtain ⟨Us, u1, u2⟩ := unkeyed (R := PairAt H3) (key := pairK) (ks := L') fun q hq => by
          obtain ⟨z, _, ez, r⟩ := e3 q (sub q (pm.mem_iff.mp hq))
          exact ⟨z, ez, (r.same s2).same s3⟩
        have so : SortedOf Ws Us := by
          refine ⟨fun z => ?_, ?_, ?_⟩
          · have h1 : pairK z ∈ L'.map (·.2) ↔ z ∈ Us := by
              rw [u1]
              exact ⟨fun h => by obtain ⟨z', h', e'⟩ := List.mem_map.mp h; rw [← pairK_inj e']; exact h', fun h => List.mem_map.mpr ⟨z, h, rfl⟩⟩
            have h2 : pairK z ∈ ks.map (·.2) ↔ z ∈ Ws := by
              rw [e2]
              exact ⟨fun h => by obtain ⟨z', h', e'⟩ := List.mem_map.mp h; rw [← pairK_inj e']; exact h', fun h => List.mem_map.mpr ⟨z, h, rfl⟩⟩
            rw [← h1, ← h2, (pm.map (·.2)).mem_iff]
            constructor
            · intro h
              obtain ⟨q, hq, e⟩ := List.mem_map.mp h
              exact List.mem_map.mpr ⟨q, sub q hq, e⟩
            · intro h
              obtain ⟨q, hq, e⟩ := List.mem_map.mp h
              rw [← e]
              exact all q hq
          · rw [u1] at nd3
            exact nodup_of_map nd3
          · have h1 : (L'.map (·.2)).Pairwise (fun k l => PySem.W.dataLe false (fun k : NestedKey => k.data) k l = true) := List.pairwise_map.mpr pw
            rw [u1, List.pairwise_map] at h1
            exact h1
        refine ⟨true, p3, rfl, ⟨_, (Sq.lst e3p).B⟩, fun L2 nL2 => ?_⟩
        refine lc_mf (K := K) Us some RowAt nL2 (.lst e3p) (by rw [List.length_map]; omega) (paired_len u2) (fun _ _ _ _ s r => r.same s) (fun _ _ _ _ _ _ e r => r.put e) ?_ ?_
        · intro i z x H4 C C0 hz hx sm4 _ yes no
          obtain ⟨p4, r4, rfl, hp4, hr4⟩ := (paired_both u2 hz hx).same sm4
          refine ⟨p4, _, rfl, hp4.T, rfl, _, _, rfl, _, _, rfl, rfl, rfl, _, rfl, ?_⟩
          exact yes _ _ z (Same.refl H4) rfl hr4
        · intro H4 ys4 sm4 eL4 pr4 hyl4
          rw [List.filterMap_some] at pr4
          refine ⟨true, L2, ys4, rfl, .lst eL4, fun H5 p5 s5 h5 => ?_⟩
          refine q H5 p5 Us (sm.trans (s2.trans (s3.trans (sm4.trans s5)))) ⟨ys4, h5, ?_, paired_imp pr4 fun _ _ r => r.same s5⟩ so
          rw [List.length_map] at hyl4
          omega
end
end K13
namespace K13
open PySem PySem.Spec PyProof.Rows L2 IqX RvT LwB EnS TL NsT CpN
variable [LwB.KC]
section
variable {P : Program} {w : World} {K : PySem.W.Frag} {mg : Str → Option Value} {base : Heap}
/-! ### is_base, names_in -/
theorem beqAll_rows (A C : Words) : Tr.beqAll (A.map (trs false)) (C.map (trs false)) = decide (A = C) := by
  have hstr : ∀ u v : List Str, Tr.beqAll (u.map Tr.str) (v.map Tr.str) = decide (u = v) := fun u => by
    induction u with
    | nil =>
      intro v
      cases v <;> rfl
    | cons a u ih =>
      intro v
      cases v with
      | nil => rfl
      | cons b v =>
        show (decide (a = b) && Tr.beqAll (u.map Tr.str) (v.map Tr.str)) = _
        rw [ih v]
        by_cases h : a = b <;> by_cases h2 : u = v <;> simp [h, h2]
  induction A generalizing C with
  | nil => cases C <;> rfl
  | cons x A ih =>
    cases C with
    | nil => rfl
    | cons y C =>
      show ((decide (false = false) && Tr.beqAll (x.map Tr.str) (y.map Tr.str)) && Tr.beqAll (A.map (trs false)) (C.map (trs false))) = _
      rw [ih C, hstr]
      by_cases h : x = y <;> by_cases h2 : A = C <;> simp [h, h2]
section
variable {P : Program} {w : World} {K : PySem.W.Frag} {mg : Str → Option Value} {base : Heap}
def TIsLog : Sp := spT (fun T : Tr => [T]) (fun T => ∀ b ts z, T = .sq b ts → Tr.str z ∈ ts → z.length ≤ 1000000) fun T => .bl (isLogT T)
theorem tislog : ∀ vs H (Q : VK) (E : XK), TIsLog vs H Q E → spIsLog vs H Q E := fun vs H Q E ⟨gd, T, hd, p, q⟩ => by
  obtain ⟨v, rfl, i⟩ := its_one p
  exact ⟨v, T.dep, T, rfl, i.to (Nat.le_refl _), hd, fun H' s => q H' _ s ⟨0, .bl⟩⟩
def isBaseT : Tr → Bool
  | .sq false ts => ts.all isLogT && decide (bs (ts.map unrow) = ts.map unrow)
  | _ => false
theorem log_trs {T : Tr} (h : isLogT T = true) : T = trs false (unrow T) := by
  cases T with
  | sq b ts =>
    cases b with
    | true => cases h
    | false =>
      have key : ∀ l : List Tr, (l.all isNameT) = true → ∃ es : List Str, l = es.map Tr.str := fun l => by
        induction l with
        | nil => exact fun _ => ⟨[], rfl⟩
        | cons a l ih =>
          intro h
          rw [List.all_cons, Bool.and_eq_true] at h
          obtain ⟨es, rfl⟩ := ih h.2
          cases a with
          | str z => exact ⟨z :: es, rfl⟩
          | _ => cases h.1
      obtain ⟨es, rfl⟩ := key ts h
      rw [unrow_strs]
      rfl
  | _ => cases h
theorem logs_trows : ∀ {ts : List Tr}, ts.all isLogT = true → ts = (ts.map unrow).map (trs false)
  | [], _ => rfl
  | T :: ts, h => by
    rw [List.all_cons, Bool.and_eq_true] at h
    rw [List.map_cons, List.map_cons, ← log_trs h.1, ← logs_trows h.2]
structure ThOk (T : Tr) : Prop where
  few : ∀ b ts, T = .sq b ts → ts.length < 77
  sh : ∀ b ts U c us z, T = .sq b ts → U ∈ ts → U = .sq c us → Tr.str z ∈ us → z.length ≤ 1000000
def TIsBase : Sp := spT (fun T : Tr => [T]) ThOk fun T => .bl (isBaseT T)
theorem tr_is_base (D : Df K mg "is_base" s_is_base ["thing"]) (B : Bn mg) (OL : Ok P w K mg base 2 "is_log" ["thing"] TIsLog) (OB : Ok P w K mg base 3 "base_of" ["logs"] (TBase false false)) : Ok P w K mg base 4 "is_base" ["thing"] TIsBase := by
  refine D.okT sc_is_base (fun _ => rfl) (fun i _ => rfl) fun f cdv Ar outer s H E hr T hT => ?_
  have nd := sc_is_base.nd
  have hr2 : Room 2 _ := hr.mono (by decide)
  have hr3 : Room 3 _ := hr.mono (by decide)
  cases T with
  | non => exact (show PSs _ _ (tS _ _ _ (.ret (.bl false) [])) from s_ifT (kn_eq (kn_or (p := true) (q := true) (kn_eq (kn_not (kn_val (le_isT (B := "tuple") (b := false) B.isinstance B.tuple (le_v (pv 0)) (by first | rfl | decide +kernel)))) rfl) (fun h => nomatch h)) rfl) (s_ret le_bl))
  | bl b => exact (show PSs _ _ (tS _ _ _ (.ret (.bl false) [])) from s_ifT (kn_eq (kn_or (p := true) (q := true) (kn_eq (kn_not (kn_val (le_isT (B := "tuple") (b := false) B.isinstance B.tuple (le_v (pv 0)) (by first | rfl | decide +kernel)))) rfl) (fun h => nomatch h)) rfl) (s_ret le_bl))
  | int i => exact (show PSs _ _ (tS _ _ _ (.ret (.bl false) [])) from s_ifT (kn_eq (kn_or (p := true) (q := true) (kn_eq (kn_not (kn_val (le_isT (B := "tuple") (b := false) B.isinstance B.tuple (le_v (pv 0)) (by first | rfl | decide +kernel)))) rfl) (fun h => nomatch h)) rfl) (s_ret le_bl))
  | str z => exact (show PSs _ _ (tS _ _ _ (.ret (.bl false) [])) from s_ifT (kn_eq (kn_or (p := true) (q := true) (kn_eq (kn_not (kn_val (le_isT (B := "tuple") (b := false) B.isinstance B.tuple (le_v (pv 0)) (by first | rfl | decide +kernel)))) rfl) (fun h => nomatch h)) rfl) (s_ret le_bl))
  | sq b ts =>
    cases b with
    | true => exact (show PSs _ _ (tS _ _ _ (.ret (.bl false) [])) from s_ifT (kn_eq (kn_or (p := true) (q := true) (kn_eq (kn_not (kn_val (le_isT (B := "tuple") (b := false) B.isinstance B.tuple (le_v (pv 0)) (by first | rfl | decide +kernel)))) rfl) (fun h => nomatch h)) rfl) (s_ret le_bl))
    | false =>
      have h77 := hT.few _ _ rfl
      by_cases hl : ts.all isLogT = true
      · refine s_ifF (kn_eq (kn_or (p := false) (q := !true) (kn_eq (kn_not (kn_val (le_isT (T := Tr.sq false ts) (B := "tuple") (b := true) B.isinstance B.tuple (le_v (pv 0)) (show kitB "tuple" "tuple" = some true by decide +kernel)))) rfl) (fun _ => kn_not (kn_val (le_eq (le_all (bs := ts.map isLogT) rfl B.all (le_eq (le_of (lf_map (fun U => U ∈ ts) (fun U => .bl (isLogT U)) rfl nd (le_v (T := .sq false ts) (pv 0)) (blkOk_by (N := ["thing", "word"]) (sc := defScope s_is_base) (by decide +kernel)) (fun U h => h)
        (fun _ _ _ _ _ => pg_name (i := 1) nd rfl (.inl rfl)) (fun _ _ _ _ _ U hU => le_cT OL hr2 U (fun c us z e hz => hT.sh _ _ U c us z rfl hU e hz) (les_cons (le_v (pv 1)) les_nil)))) (by rw [List.map_map]; rfl))) (by rw [List.all_map, ← hl]; rfl))))) rfl) ?_
        have hts := logs_trows hl
        generalize ts.map unrow = Ws at hts
        subst hts
        have hW : Ws.length < 77 := by rwa [List.length_map] at h77
        refine s_ret (le_eq (le_cmp (op_eqK hr.units) (T1 := trows false (bs Ws)) (T2 := trows false Ws) (le_cT OB hr3 Ws hW (les_cons (le_v (pv 0)) les_nil)) (le_v (pv 0)) (r_eqT (isKs_rows _) (isKs_rows _) (depth_rows _)) (nomark _)) ?_)
        rw [beqAll_rows]
        show _ = Tr.bl (_ && _)
        rw [hl]
        have : (Ws.map (trs false)).map unrow = Ws := unrows_trows false Ws
        rw [this]
        rfl
      · have hl' : ts.all isLogT = false := by simpa using hl
        have e : isBaseT (.sq false ts) = false := by
          show (_ && _) = false
          rw [hl']
          rfl
        rw [e]
        exact s_ifT (kn_eq (kn_or (p := false) (q := !false) (kn_eq (kn_not (kn_val (le_isT (T := Tr.sq false ts) (B := "tuple") (b := true) B.isinstance B.tuple (le_v (pv 0)) (show kitB "tuple" "tuple" = some true by decide +kernel)))) rfl) (fun _ => kn_not (kn_val (le_eq (le_all (bs := ts.map isLogT) rfl B.all (le_eq (le_of (lf_map (fun U => U ∈ ts) (fun U => .bl (isLogT U)) rfl nd (le_v (T := .sq false ts) (pv 0)) (blkOk_by (N := ["thing", "word"]) (sc := defScope s_is_base) (by decide +kernel)) (fun U h => h)
        (fun _ _ _ _ _ => pg_name (i := 1) nd rfl (.inl rfl)) (fun _ _ _ _ _ U hU => le_cT OL hr2 U (fun c us z e hz => hT.sh _ _ U c us z rfl hU e hz) (les_cons (le_v (pv 1)) les_nil)))) (by rw [List.map_map]; rfl))) (by rw [List.all_map, ← hl']; rfl))))) rfl) (s_ret le_bl)
def isInX (u : Bool) (Ws : Words) (T : Tr) : Prop := ∃ w, T = trs u w ∧ w ∈ Ws
theorem map_inX {u : Bool} {Ws : Words} : ∀ T ∈ Ws.map (trs u), isInX u Ws T := fun T hT => by
  obtain ⟨w, hw, e⟩ := List.mem_map.mp hT
  exact ⟨w, e.symm, hw⟩
def isStrT (T : Tr) : Prop := ∃ z, T = .str z
theorem map_strT {l : List Str} : ∀ T ∈ l.map Tr.str, isStrT T := fun T h => by
  obtain ⟨z, _, e⟩ := List.mem_map.mp h
  exact ⟨z, e.symm⟩
def unstr (T : Tr) : Str := match T with | .str z => z | _ => default
def NamesFew (W : Words) : Prop := (W.flatten.foldl addS []).length ≤ 60
def TNamesIn (t u : Bool) : Sp := spT (fun W : Words => [trowsX t u W]) NamesFew fun W => trs false (srtS W.flatten)
theorem outs_eq (u : Bool) (W : Words) : ((W.map (trs u)).filter fun _ => true).flatMap (fun T => (((unrow T).map Tr.str).filter fun _ => true).flatMap fun U => [unstr U]) = W.flatten := by
  have one : ∀ es : List Str, ((es.map Tr.str).filter fun _ => true).flatMap (fun U => [unstr U]) = es := fun es => by
    rw [List.filter_eq_self.mpr fun _ _ => rfl]
    induction es with
    | nil => rfl
    | cons a es ih => rw [List.map_cons, List.flatMap_cons, ih]; rfl
  rw [List.filter_eq_self.mpr fun _ _ => rfl]
  induction W with
  | nil => rfl
  | cons w W ih => rw [List.map_cons, List.flatMap_cons, ih, one, unrow_trs, List.flatten_cons]
theorem tr_names_in {t u : Bool} (D : Df K mg "names_in" s_names_in ["base"]) (B : Bn mg) : Ok P w K mg base 1 "names_in" ["base"] (TNamesIn t u) := by
  refine D.okT sc_names_in (fun _ => rfl) (fun i _ => trs_nol _) fun f cdv Ar outer s H E hr W hW => ?_
  have nd := sc_names_in.nd
  refine s_ret (le_tuple (t := true) B.tuple (le_of (lf_sortSM (t := t) (ts := W.map (trs u)) [("word", 1), ("event", 2)] (isInX u W) (fun _ => true) (fun T => (((unrow T).map Tr.str).filter fun _ => true).flatMap fun U => [unstr U]) rfl B.sorted nd (le_v (T := trowsX t u W) (pv 0)) (blkOk_by (N := ["base", "word", "event"]) (sc := defScope s_names_in) (by decide +kernel))
    (fun _ _ _ _ _ => pg_name (i := 1) nd rfl (.inl rfl)) (fun _ _ _ _ _ => .no fun _ => rfl) map_inX (fun _ _ _ _ _ D' T ⟨x, hx, hxm⟩ _ => ?_) (by rw [outs_eq]; exact hW) (us := srtS W.flatten) (fun ys h1 h2 => ?_))))
  · subst hx
    rw [unrow_trs]
    refine PM.sub (ax_end2 (k := 2) (us := []) (t := u) (ts := x.map Tr.str) isStrT (fun _ => true) (fun U => [unstr U]) (le_v (T := trs u x) (pv 1)) (pg_name (i := 2) nd rfl (.inl rfl)) (.no fun _ => rfl) map_strT fun U ⟨z, hz⟩ _ => ?_) (by decide)
    subst hz
    exact ax_emit (le_v (pv 2))
  · rw [outs_eq] at h1
    exact srtS_only h1 h2
end
end
end K13
namespace K13
open PySem PySem.Spec PyProof.Rows L2 IqX RvT LwB EnS
section
variable {P : Program} {w : World} {K : PySem.W.Frag} {mg : Str → Option Value} {base : Heap}
theorem ok__law_same (D : Df K mg "_law_same" s__law_same ["_law_got", "_law_due"]) (B : Bn mg) : ∀ n : Nat, Ok P w K mg base n "_law_same" ["_law_got", "_law_due"] (spSame n)
  | 0 => by
    obtain ⟨f, fd, F, g, b⟩ := D.ex
    obtain ⟨oc, od, _, _, _, _, _, _, osl, _, lk, _⟩ := F.ex
    exact ⟨f, fd, ⟨fun vs H Q E h => h.elim, fun A outer s H args us vs Q E hr he hb hv h => h.elim⟩, g, F.kp, b, oc, od, osl, lk⟩
  | n + 1 => by
    have IH := ok__law_same D B n
    refine D.ok sc__law_same (fun vs H Q E h => spSame_len h) (fun f cdv A outer s H vs Q E hr h => ?_)
    obtain ⟨v1, v2, t, rfl, i1, i2, q⟩ := h
    have nd := sc__law_same.nd
    refine ⟨_, pss_cons (ps_if (pt_val (pe_isQ2 B.isinstance (pa_cons (pv 1) (pa_cons (pe_tup (pa_cons (pe_ty (n := "list") B.list) (pa_cons (pe_ty (n := "tuple") B.tuple) pa_nil))) pa_nil))))
        (pss_cons (ps_if (pt_cmpR op_ne (pe_isQ B.isinstance (pa_cons (pv 0) (pa_cons (pe_ty (n := "list") B.list) pa_nil))) (pe_isQ B.isinstance (pa_cons (pv 1) (pa_cons (pe_ty (n := "list") B.list) pa_nil))) (nomark _)) (pss_one (ps_ret pe_bl)) pss_nil)
        (pss_cons (ps_if (pt_cmpR op_ne (pe_isQ B.isinstance (pa_cons (pv 0) (pa_cons (pe_ty (n := "tuple") B.tuple) pa_nil))) (pe_isQ B.isinstance (pa_cons (pv 1) (pa_cons (pe_ty (n := "tuple") B.tuple) pa_nil))) (nomark _)) (pss_one (ps_ret pe_bl)) pss_nil)
        (pss_one (ps_ret (pe_and (pe_cmpR op_eq (pe_len B.len (pa_cons (pv 0) pa_nil)) (pe_len B.len (pa_cons (pv 1) pa_nil)) (nomark _)) (pe_one (pe_callB (cr_all rfl) (by rfl) B.all (by decide +kernel) (pa_cons
          (pe_lc (own := [("_law_mine", 2), ("_law_its", 3)]) (g := gTup K 2 (gCons (gName 2) (gCons (gName 3) gNil))) (by rfl) nd (pi_zipQ B.zip (pa_cons (pv 0) (pa_cons (pv 1) pa_nil))) (blkOk_by (N := ["_law_got", "_law_due", "_law_mine", "_law_its"]) (sc := defScope s__law_same) (by decide +kernel))
            (fun _ _ _ _ _ => pg_tup rfl (pgs_cons (pg_name (i := 2) nd rfl (.inl rfl)) (pgs_cons (pg_name (i := 3) nd rfl (.inl rfl)) pgs_nil))) (fun _ _ _ _ _ => pts_nil)
            (fun _ _ _ _ _ => pe_c IH hr (pa_cons (pv 2) (pa_cons (pv 3) pa_nil)))) pa_nil)))))))) pss_nil)
      (pss_cons (ps_if (PW.pt (pw_or (pt_cmpR op_isN (pv 1) pe_non (nomark _)) (pw_or1 (pt_val (pe_isQ2 B.isinstance (pa_cons (pv 1) (pa_cons (pe_tup (pa_cons (pe_ty (n := "bool") B.bool) (pa_cons (pe_ty (n := "str") B.str) pa_nil))) pa_nil)))))))
        (pss_one (ps_ret (pe_and (pe_cmpR op_eq (pv 0) (pv 1) (nomark _)) (pe_and (pe_cmpR op_eq (pe_isQ B.isinstance (pa_cons (pv 0) (pa_cons (pe_ty (n := "bool") B.bool) pa_nil))) (pe_isQ B.isinstance (pa_cons (pv 1) (pa_cons (pe_ty (n := "bool") B.bool) pa_nil))) (nomark _))
          (pe_one (pe_cmpR op_eq (pe_cmpR op_isN (pv 0) pe_non (nomark _)) (pe_cmpR op_isN (pv 1) pe_non (nomark _)) (nomark _))))))) pss_nil)
      (pss_one (ps_ret (pe_and (pe_isQ B.isinstance (pa_cons (pv 0) (pa_cons (pe_ty (n := "int") B.int) pa_nil))) (pe_and (pe_not (pe_isQ B.isinstance (pa_cons (pv 0) (pa_cons (pe_ty (n := "bool") B.bool) pa_nil)))) (pe_one (pe_cmpR op_eq (pv 0) (pv 1) (nomark _)))))))), ?_⟩
    cases t with
    | non =>
      have e1 := i1.non_eq
      have e2 := i2.non_eq
      subst e1 e2
      refine ⟨_, rfl, (by show 2 ≤ sizeLine; decide), fun p np => ⟨_, p, "list", "tuple", "NoneType", false, false, rfl, upd_same, .base .non, (by decide +kernel), (by decide +kernel), false, rfl, iteF ?_⟩⟩
      refine ⟨_, rfl, rfl, _, rfl, iteD rfl (iteT ?_)⟩
      refine ⟨_, rfl, _, rfl, rfl, _, rfl, iteD rfl ⟨_, rfl, _, "bool", "NoneType", false, rfl, .base .non, (by decide +kernel), _, rfl, _, "bool", "NoneType", false, rfl, .base .non, (by decide +kernel), rfl, _, rfl, iteD rfl ⟨_, rfl, rfl, _, rfl, rfl, rfl, ?_⟩⟩⟩
      rw [decide_eq_true rfl]
      exact q _ (same_new np)
    | bl b =>
      have e1 := i1.bl_eq
      have e2 := i2.bl_eq
      subst e1 e2
      refine ⟨_, rfl, (by show 2 ≤ sizeLine; decide), fun p np => ⟨_, p, "list", "tuple", "bool", false, false, rfl, upd_same, .base (.bl _), (by decide +kernel), (by decide +kernel), false, rfl, iteF ?_⟩⟩
      refine ⟨_, rfl, rfl, _, rfl, iteDF (fun h => nomatch h) ⟨_, rfl, (by show 2 ≤ sizeLine; decide), fun p2 np2 => ⟨_, p2, "bool", "str", "bool", true, false, rfl, upd_same, .base (.bl _), (by decide +kernel), (by decide +kernel), true, rfl, iteT ?_⟩⟩⟩
      refine ⟨_, rfl, _, rfl, rfl, _, rfl, iteD rfl ⟨_, rfl, _, "bool", "bool", true, rfl, .base (.bl _), (by decide +kernel), _, rfl, _, "bool", "bool", true, rfl, .base (.bl _), (by decide +kernel), rfl, _, rfl, iteD rfl ⟨_, rfl, rfl, _, rfl, rfl, rfl, ?_⟩⟩⟩
      rw [decide_eq_true rfl]
      exact q _ ((same_new np).trans (same_new np2))
    | str z =>
      have e1 := i1.str_eq
      have e2 := i2.str_eq
      subst e1 e2
      refine ⟨_, rfl, (by show 2 ≤ sizeLine; decide), fun p np => ⟨_, p, "list", "tuple", "str", false, false, rfl, upd_same, .base (.str _), (by decide +kernel), (by decide +kernel), false, rfl, iteF ?_⟩⟩
      refine ⟨_, rfl, rfl, _, rfl, iteDF (fun h => nomatch h) ⟨_, rfl, (by show 2 ≤ sizeLine; decide), fun p2 np2 => ⟨_, p2, "bool", "str", "str", false, true, rfl, upd_same, .base (.str _), (by decide +kernel), (by decide +kernel), true, rfl, iteT ?_⟩⟩⟩
      refine ⟨_, rfl, _, rfl, rfl, _, rfl, iteD rfl ⟨_, rfl, _, "bool", "str", false, rfl, .base (.str _), (by decide +kernel), _, rfl, _, "bool", "str", false, rfl, .base (.str _), (by decide +kernel), rfl, _, rfl, iteD rfl ⟨_, rfl, rfl, _, rfl, rfl, rfl, ?_⟩⟩⟩
      rw [decide_eq_true rfl]
      exact q _ ((same_new np).trans (same_new np2))
    | int i =>
      have e1 := i1.int_eq
      have e2 := i2.int_eq
      subst e1 e2
      refine ⟨_, rfl, (by show 2 ≤ sizeLine; decide), fun p np => ⟨_, p, "list", "tuple", "int", false, false, rfl, upd_same, .base (.int _), (by decide +kernel), (by decide +kernel), false, rfl, iteF ?_⟩⟩
      refine ⟨_, rfl, rfl, _, rfl, iteDF (fun h => nomatch h) ⟨_, rfl, (by show 2 ≤ sizeLine; decide), fun p2 np2 => ⟨_, p2, "bool", "str", "int", false, false, rfl, upd_same, .base (.int _), (by decide +kernel), (by decide +kernel), false, rfl, iteF ?_⟩⟩⟩
      refine ⟨_, rfl, _, "int", "int", true, rfl, .base (.int _), (by decide +kernel), _, rfl, iteT ⟨_, rfl, _, "bool", "int", false, rfl, .base (.int _), (by decide +kernel), _, rfl, _, rfl, iteT ⟨_, rfl, _, rfl, rfl, ?_⟩⟩⟩
      rw [decide_eq_true rfl]
      exact q _ ((same_new np).trans (same_new np2))
    | sq t ts =>
      obtain ⟨m, a1, xs, en, e1, ⟨h1, _⟩, l1, p1⟩ := i1.sq_eq
      obtain ⟨m', a2, ys, en', e2, ⟨h2, _⟩, l2, p2⟩ := i2.sq_eq
      subst e1 e2 en
      cases en'
      have hlen : xs.length = ys.length := (Paired.length p1).symm.trans (Paired.length p2)
      have hk1 : kitB (if t = true then "list" else "tuple") "list" = some t := by cases t <;> decide +kernel
      have hk2 : kitB (if t = true then "list" else "tuple") "tuple" = some (!t) := by cases t <;> decide +kernel
      refine ⟨_, rfl, (by show 2 ≤ sizeLine; decide), fun p np => ⟨_, p, "list", "tuple", _, _, _, rfl, upd_same, ((same_new np).sq h2).ty, hk1, hk2, true, by cases t <;> rfl, iteT ?_⟩⟩
      have sp := same_new (o := .tup [V.ty "list", V.ty "tuple"]) np
      generalize hH1 : upd H p (.tup [V.ty "list", V.ty "tuple"]) = H1 at sp ⊢
      have h1' := sp.sq h1
      have h2' := sp.sq h2
      refine ⟨_, rfl, _, "list", _, _, rfl, h1'.ty, hk1, _, rfl, _, "list", _, _, rfl, h2'.ty, hk1, rfl, _, rfl, iteND rfl ?_⟩
      refine ⟨_, rfl, _, "tuple", _, _, rfl, h1'.ty, hk2, _, rfl, _, "tuple", _, _, rfl, h2'.ty, hk2, rfl, _, rfl, iteND rfl ?_⟩
      refine ⟨_, rfl, t, a1, xs, rfl, h1', _, rfl, t, a2, ys, rfl, h2', rfl, _, rfl, iteD (by rw [hlen]) ?_⟩
      refine ⟨_, rfl, _, rfl, t, a1, a2, xs, ys, rfl, h1'.B, h2'.B, fun D nD => ?_⟩
      refine lc_zipB (K := K) (b := t) (a := a1) (c := a2) (xs := xs) (ys := ys) hlen (fun i H' => Same H1 H' ∧ H' D = some (.lst ((List.replicate i true).map V.bl)))
        ⟨same_new nD, upd_same⟩ (fun i H' _ hp => ⟨(hp.1.sq h1').B, (hp.1.sq h2').B⟩) ?_ ?_
      · rintro i x y T H' hx hy ⟨sm, hD⟩ nT
        obtain ⟨tx, etx, ix⟩ := paired_get p1 hx
        obtain ⟨ty, ety, iy⟩ := paired_get p2 hy
        rw [etx] at ety
        cases ety
        have sT := same_new (o := .tup [x, y]) nT
        refine ⟨T, [x, y], rfl, SqT.of upd_same, rfl, x, [y], rfl, y, [], rfl, rfl, rfl, ?_⟩
        show tCall (spSame (m + 1)) [] E0 (tCons (tVar 2) (tCons (tVar 3) tNil)) _ _ _
        have sall : Same H (upd H' T (.tup [x, y])) := sp.trans (sm.trans sT)
        refine ⟨_, rfl, _, rfl, x, y, tx, rfl, ix.same sall, iy.same sall, fun H2 s2 => ?_⟩
        have hDT : D ≠ T := ne_of_none hD nT
        have hD2 : H2 D = some (.lst ((List.replicate i true).map V.bl)) := s2 _ _ (by rw [upd_ne hDT]; exact hD)
        have hil := (List.getElem?_eq_some_iff.mp hx).1
        refine ⟨_, hD2, ?_, Same.young (sm.trans (sT.trans s2)) nD, ?_⟩
        · rw [List.length_map, List.length_replicate]
          exact Nat.lt_of_lt_of_le hil (Nat.le_trans l1 (by decide))
        · rw [upd_same, List.replicate_succ', List.map_append]
          rfl
      · rintro H' ⟨sm, hD⟩
        refine ⟨D, List.replicate xs.length true, rfl, SqL.of hD, ?_⟩
        have ea : (List.replicate xs.length true).all id = true := by
          rw [List.all_eq_true]
          intro z hz
          exact (List.mem_replicate.mp hz).2
        rw [ea]
        exact q H' (sp.trans sm)
end
end K13
namespace K13
open PySem PySem.Spec PyProof.Rows L2 IqX RvT LwB EnS TL
section
variable {P : Program} {w : World} {K : PySem.W.Frag} {mg : Str → Option Value} {base : Heap}
abbrev letters : Str := Str.ofString "abcdefghijklmnopqrstuvwxyz"
theorem tl_letters : tl letters = List.range' 97 26 := by decide +kernel
theorem letter_of {c : Nat} (h : c ∈ tl letters) : Letter c := by
  rw [tl_letters] at h
  have := List.mem_range'_1.mp h
  unfold Letter
  omega
theorem letters_nodup : (tl letters).Nodup := by rw [tl_letters]; decide
theorem goods_letters {H : Hp} {b : Addr} : Goods H b (.str letters) ((tl letters).map gv) := .inl ⟨letters, rfl, by rw [show letters.length = 26 by decide +kernel]; decide, signs_eq _⟩
theorem ok__law_names (D : Df K mg "_law_names" s__law_names ["_law_box_here", "_law_much_so"]) (B : Bn mg) (OT : Ok P w K mg base 1 "_law_take" ["_law_box_here", "_law_size_so"] spTake) (OO : Ok P w K mg base 2 "_law_of" ["_law_box_here", "_law_goods_so"] spOf)
    (OP : Ok P w K mg base 2 "_law_pick" ["_law_box_here", "_law_goods_so", "_law_count_so"] spPick) : Ok P w K mg base 3 "_law_names" ["_law_box_here", "_law_much_so"] spNames := by
  refine D.ok sc__law_names (fun vs H Q E h => ?_) (fun f cdv A outer s H vs Q E hr h => ?_)
  · obtain ⟨_, _, _, rfl, _⟩ := h
    rfl
  · obtain ⟨b, n, m, rfl, hb, hn, hm, q⟩ := h
    have nd := sc__law_names.nd
    have hr1 : Room 1 _ := hr.mono (by decide)
    refine ⟨_, pss_cons (ps_set (i := 2) nd rfl (.inr rfl) pe_str)
      (pss_cons (ps_set (i := 3) nd rfl (.inl rfl) (pe_op op_add pe_int (pe_c OT hr1 (pa_cons (pv 0) (pa_cons pe_int pa_nil)))))
      (pss_cons (ps_setLc (i := 4) (own := [("_law_turn", 9)]) (g := gName 9) rfl nd rfl rfl (sw_true rfl rfl rfl (by decide +kernel)) (pi_range1 (by rfl) B.range (pa_cons (pv 3) pa_nil))
        (blkOk_by (N := ["_law_box_here", "_law_much_so", "_law_letters_so", "_law_long", "_law_some", "_law_sort_so", "_law_spot_so", "_law_found", "_law_sign", "_law_turn"]) (sc := defScope s__law_names) (by decide +kernel))
        (fun _ _ _ _ _ => pg_name (i := 9) nd rfl (.inl rfl)) (fun _ _ _ _ _ => pts_nil) (fun _ _ _ _ _ => pe_c OO hr (pa_cons (pv 0) (pa_cons (pv 2) pa_nil))))
      (pss_cons (ps_par3 (i := 5) (j := 6) (l := 7) (by rfl) nd rfl rfl rfl (by decide) (by decide) (by decide) rfl rfl rfl (pa_cons (pe_c OT hr1 (pa_cons (pv 0) (pa_cons pe_int pa_nil))) (pa_cons (pe_c OT hr1 (pa_cons (pv 0) (pa_cons (pv 3) pa_nil))) (pa_cons (pe_lst pa_nil) pa_nil))) (by rfl))
      (pss_cons (ps_for PassesOwn.never rfl (pi_list (pe_c OP hr (pa_cons (pv 0) (pa_cons (pv 2) (pa_cons (pv 1) pa_nil))))) (pg_name (i := 8) nd rfl (.inl rfl))
        (pss_one (ps_if (pt_cmpR op_eq (pv 5) pe_int (nomark _))
          (pss_one (ps_expr (pe_bm PySem.F.plainAttrs_list PySem.F.slot_list_append PySem.F.type_list_append mt_append (pv 7) (pa_cons (pv 8) pa_nil))))
          (pss_one (ps_if (pt_cmpR op_lt (pv 5) pe_int (nomark _))
            (pss_one (ps_expr (pe_bm PySem.F.plainAttrs_list PySem.F.slot_list_append PySem.F.type_list_append mt_append (pv 7) (pa_cons
              (pe_join pe_str (pe_op op_cat (pe_op op_cat (pe_slice sl_sq (pv 4) po_none (po_some (pv 6))) (pe_lst (pa_cons (pv 8) pa_nil))) (pe_slice sl_sq (pv 4) (po_some (pe_op op_add (pv 6) pe_int)) po_none))) pa_nil))))
            (pss_one (ps_expr (pe_bm PySem.F.plainAttrs_list PySem.F.slot_list_append PySem.F.type_list_append mt_append (pv 7) (pa_cons
              (pe_op op_add_str (pv 8) (pe_join pe_str
                (pe_lc (own := [("_law_turn", 9)]) (g := gName 9) (by rfl) nd (pi_range1 (by rfl) B.range (pa_cons (pe_c OT hr1 (pa_cons (pv 0) (pa_cons pe_int pa_nil))) pa_nil))
                  (blkOk_by (N := ["_law_box_here", "_law_much_so", "_law_letters_so", "_law_long", "_law_some", "_law_sort_so", "_law_spot_so", "_law_found", "_law_sign", "_law_turn"]) (sc := defScope s__law_names) (by decide +kernel))
                  (fun _ _ _ _ _ => pg_name (i := 9) nd rfl (.inl rfl)) (fun _ _ _ _ _ => pts_nil) (fun _ _ _ _ _ => pe_c OO hr (pa_cons (pv 0) (pa_cons (pv 2) pa_nil)))))) pa_nil)))))))))
      (pss_one (ps_ret (pv 7))))))), ?_⟩
    refine ⟨_, rfl, b, n, 8, rfl, hb, by omega, by decide, by decide, fun H1 r fr1 bx1 r0 r1 => ?_⟩
    refine ⟨1, r, rfl, rfl, _, rfl, 1 + r, rfl, by omega, by omega, fun Ds nDs => ?_⟩
    have nDs0 : H Ds = none := fr1.free (bx1.ne_new nDs) nDs
    have hDb : Ds ≠ b := bx1.ne_new nDs
    refine lc_range (lo := 0) (n := (1 + r).toNat) (fun i H' => LwB.Fr b H H' ∧ Bx (n + 1 + i) H' b ∧ ∃ cs : List Nat, H' Ds = some (.lst (cs.map gv)) ∧ cs.length = i ∧ ∀ c ∈ cs, Letter c)
      ⟨fr1.young nDs0, bx1.new nDs, [], upd_same, rfl, fun c h => nomatch h⟩ ?_ ?_
    · rintro i H2 hi ⟨fr2, bx2, cs, e2, hl2, hc2⟩
      refine ⟨rfl, ?_⟩
      show tCall spOf [] E0 (tCons (tVar 0) (tCons (tVar 2) tNil)) _ _ _
      refine ⟨_, rfl, _, rfl, b, n + 1 + i, _, _, rfl, bx2, by omega, goods_letters, by rw [List.length_map, tl_letters]; decide, fun H3 x fr3 bx3 hx => ?_⟩
      obtain ⟨c, hc, rfl⟩ := mem_gv hx
      refine ⟨_, fr3 _ _ e2 hDb, ?_, (fr2.trans fr3).young nDs0, ?_, cs ++ [c], ?_, ?_, ?_⟩
      · rw [List.length_map, hl2]
        exact small1000 (by omega)
      · exact (bx3.mono (by omega)).upd hDb
      · rw [upd_same, List.map_append]
        rfl
      · rw [List.length_append, List.length_singleton, hl2]
      · intro c' h'
        rcases List.mem_append.mp h' with h' | h'
        · exact hc2 c' h'
        · rw [List.mem_singleton.mp h']
          exact letter_of hc
    rintro H2 ⟨fr2, bx2, cs, e2, hl2, hc2⟩
    have hlong : cs.length ≤ 8 ∧ 1 ≤ cs.length := by omega
    refine ⟨_, rfl, b, n + 1 + (1 + r).toNat, 4, rfl, bx2, by omega, by decide, by decide, fun H3 so fr3 bx3 so0 so1 => ?_⟩
    refine ⟨_, rfl, _, rfl, b, n + 1 + (1 + r).toNat + 1, _, rfl, bx3, by omega, by omega, by omega, fun H4 spi fr4 bx4 sp0 sp1 => ?_⟩
    obtain ⟨sp, rfl⟩ := Int.eq_ofNat_of_zero_le sp0
    refine ⟨Nat.zero_le _, fun F nF => ⟨_, _, _, rfl, ?_⟩⟩
    have e4 : H4 Ds = some (.lst (cs.map gv)) := fr4 _ _ (fr3 _ _ e2 hDb) hDb
    have fr5 : LwB.Fr b H H4 := fr2.trans (fr3.trans fr4)
    have hFb : F ≠ b := bx4.ne_new nF
    have nF0 : H F = none := fr5.free hFb nF
    have hFD : Ds ≠ F := ne_of_none e4 nF
    have bx5 : Bx (n + 20) (upd H4 F (.lst [])) b := (bx4.mono (by omega)).new nF
    generalize hH5 : upd H4 F (.lst []) = H5 at bx5
    have e5 : H5 Ds = some (.lst (cs.map gv)) := by rw [← hH5, upd_ne hFD]; exact e4
    have eF : H5 F = some (.lst []) := by rw [← hH5]; exact upd_same
    have fr6 : LwB.Fr b H H5 := by rw [← hH5]; exact fr5.young nF0
    refine ⟨_, rfl, _, rfl, _, rfl, b, n + 20, m, _, _, rfl, bx5, by omega, by omega, goods_letters, fun H6 pk ys rest fr7 bx6 npk hpk pm hyl => ?_⟩
    obtain ⟨ds, rs, rfl, pm2⟩ := picked pm
    have hyl2 : ds.length = m := by
      rw [List.length_map, List.length_map, tl_letters] at hyl
      have : (List.range' 97 26).length = 26 := rfl
      omega
    have dnod : ds.Nodup := (List.nodup_append.mp (pm2.nodup_iff.mpr letters_nodup)).1
    have dlet : ∀ c ∈ ds, Letter c := fun c h => letter_of (pm2.subset (List.mem_append_left _ h))
    have hpb : pk ≠ b := bx5.ne_new npk
    have npk0 : H pk = none := fr6.free hpb npk
    have e6 : H6 Ds = some (.lst (cs.map gv)) := fr7 _ _ e5 hDb
    have eF6 : H6 F = some (.lst []) := fr7 _ _ eF hFb
    have hpF : pk ≠ F := (ne_of_none eF npk).symm
    have hpD : pk ≠ Ds := (ne_of_none e5 npk).symm
    -- the place at which the names differ
    let j : Nat := if so = 0 then 0 else if so < 3 then sp else 0
    refine ⟨pk, rfl, ⟨_, SqL.of hpk⟩, for_list (K := K) (a := pk) (xs := ds.map gv)
      (fun i σ H' => ∃ x8 : Option V, σ = [some (.ref b), some (.int m), some (.str letters), some (.int (1 + r)), some (.ref Ds), some (.int so), some (.int sp), some (.ref F), x8, none] ∧
        LwB.Fr b H H' ∧ Bx (n + 20 + m + 9 * i) H' b ∧ H' pk = some (.lst (ds.map gv)) ∧ H' Ds = some (.lst (cs.map gv)) ∧
        ∃ ss : List Str, H' F = some (.lst (ss.map V.str)) ∧ ss.length = i ∧ (∀ z ∈ ss, NameOk z) ∧ ss.map (fun z => (tl z)[j]?) = (ds.take i).map some)
      ⟨none, rfl, fr6.trans fr7, bx6, hpk, e6, [], eF6, rfl, (fun z h => nomatch h), rfl⟩ (fun i σ H' _ ⟨_, _, _, _, h, _⟩ => SqL.of h) ?_ ?_⟩
    · rintro i x σ H' hi ⟨x8, rfl, fr, bx, hpk', eD', ss, eF', hsl, hok, hkey⟩
      obtain ⟨c, hc, rfl⟩ : ∃ c, ds[i]? = some c ∧ x = gv c := by
        rw [List.getElem?_map] at hi
        cases e : ds[i]? with
        | none =>
          rw [e] at hi
          cases hi
        | some c =>
          rw [e] at hi
          exact ⟨c, rfl, (Option.some.inj hi).symm⟩
      have hcl : Letter c := dlet c (List.mem_of_getElem? hc)
      have him : i < 26 := by
        have := (List.getElem?_eq_some_iff.mp hc).1
        omega
      have key : ∀ z : Str, (tl z)[j]? = some c → (ss ++ [z]).map (fun z => (tl z)[j]?) = (ds.take (i + 1)).map some := fun z hz => by
        rw [List.map_append, hkey, List.take_add_one, hc, List.map_append]
        rw [show List.map (fun z => (tl z)[j]?) [z] = [(tl z)[j]?] from rfl, hz]
        rfl
      refine ⟨.int so, rfl, rfl, _, rfl, ite2 (fun h0 => ?_) (fun h0 => ?_)⟩
      · have hso : so = 0 := V.int.inj (of_decide_eq_true h0)
        refine ⟨_, rfl, .inl ⟨rfl, _, SqL.of eF'⟩, _, rfl, F, _, _, rfl, rfl, eF', by rw [List.length_map, hsl]; exact small1000 (by omega), ?_⟩
        refine ⟨_, rfl, fr.young nF0, (bx.mono (by omega)).upd hFb, by rw [upd_ne hpF]; exact hpk', by rw [upd_ne hFD]; exact eD', ss ++ [one c], ?_, ?_, ?_, ?_⟩
        · rw [upd_same, List.map_append]
          rfl
        · rw [List.length_append, List.length_singleton, hsl]
        · intro z hz
          rcases List.mem_append.mp hz with hz | hz
          · exact hok z hz
          · rw [List.mem_singleton.mp hz]
            refine ⟨Nat.le_refl 1, (by show 1 ≤ 8; decide), fun c' h' => ?_⟩
            rw [tl_one, List.mem_singleton] at h'
            rw [h']
            exact hcl
        · refine key _ ?_
          show (tl (one c))[if so = 0 then 0 else if so < 3 then sp else 0]? = some c
          rw [if_pos hso]
          rfl
      · have hso : so ≠ 0 := fun e => h0 (by rw [e]; exact decide_eq_true rfl)
        refine ⟨_, rfl, so, 3, rfl, rfl, _, rfl, ite2 (fun h3 => ?_) (fun h3 => ?_)⟩
        · have hj : j = sp := by
            show (if so = 0 then 0 else if so < 3 then sp else 0) = sp
            rw [if_neg hso, if_pos (of_decide_eq_true h3)]
          have hspl : sp < cs.length := by omega
          refine ⟨_, rfl, .inl ⟨rfl, _, SqL.of eF'⟩, ⟨_, rfl⟩, .ref Ds, rfl, .int sp, rfl, sp, rfl, true, Ds, _, rfl, .lst eD', fun Ha pa sa na qa => ?_⟩
          have ea := (na rfl).2
          rw [cut_to, ← List.map_take] at ea
          refine ⟨_, rfl, (by show 1 ≤ sizeLine; decide), fun pb nb => ?_⟩
          have hab : pa ≠ pb := ne_of_none ea nb
          have sb : Same H' (upd Ha pb (.lst [gv c])) := sa.trans (same_new nb)
          refine ⟨pa, pb, (cs.take sp).map gv, [gv c], rfl, rfl, by rw [upd_ne hab]; exact ea, upd_same, ?_, fun pc nc => ?_⟩
          · rw [List.length_map, List.length_take]
            exact Nat.le_trans (show min sp cs.length + 1 ≤ 9 by omega) (by decide)
          have sc : Same H' (upd (upd Ha pb (.lst [gv c])) pc (.lst ((cs.take sp).map gv ++ [gv c]))) := sb.trans (same_new nc)
          generalize hHc : upd (upd Ha pb (.lst [gv c])) pc (.lst ((cs.take sp).map gv ++ [gv c])) = Hc at sc ⊢
          have ec : Hc pc = some (.lst ((cs.take sp).map gv ++ [gv c])) := by rw [← hHc]; exact upd_same
          refine ⟨.ref Ds, rfl, _, rfl, sp, 1, rfl, rfl, sp + 1, rfl, true, Ds, _, rfl, sc.sq (.lst eD'), fun Hd pd sd nd' qd => ?_⟩
          have ed := (nd' rfl).2
          rw [show ((sp : Nat) : Int) + 1 = ((sp + 1 : Nat) : Int) from rfl, cut_from, ← List.map_drop] at ed
          refine ⟨pc, pd, _, _, rfl, rfl, sd _ _ ec, ed, ?_, fun pe ne => ?_⟩
          · rw [List.length_append, List.length_map, List.length_map, List.length_take, List.length_drop]
            exact Nat.le_trans (show min sp cs.length + [gv c].length + (cs.length - (sp + 1)) ≤ 20 by show min sp cs.length + 1 + (cs.length - (sp + 1)) ≤ 20; omega) (by decide)
          have se := sc.trans (sd.trans (same_new (o := HO.lst ((cs.take sp).map gv ++ [gv c] ++ (cs.drop (sp + 1)).map gv)) ne))
          have ev : (cs.take sp).map gv ++ [gv c] ++ (cs.drop (sp + 1)).map gv = ((cs.take sp ++ [c] ++ cs.drop (sp + 1)).map one).map V.str := by
            rw [vals_ones, List.map_append, List.map_append]
            rfl
          have elen : (cs.take sp ++ [c] ++ cs.drop (sp + 1)).length = cs.length := by
            rw [List.length_append, List.length_append, List.length_take, List.length_drop]
            show min sp cs.length + 1 + (cs.length - (sp + 1)) = cs.length
            omega
          refine ⟨_, pe, (cs.take sp ++ [c] ++ cs.drop (sp + 1)).map one, rfl, rfl, .inl (SqL.of (by rw [← ev]; exact upd_same)), ?_, ?_⟩
          · rw [len_ones, List.length_map, elen]
            show cs.length + cs.length * (Str.ofString "").length ≤ 16777216
            rw [show (Str.ofString "").length = 0 by decide +kernel]
            omega
          generalize hHe : upd Hd pe _ = He at se ⊢
          have eFe : He F = some (.lst (ss.map V.str)) := se _ _ eF'
          have frE : LwB.Fr b H' He := Fr.same se
          have ez : tl (Txt.join (Str.ofString "") ((cs.take sp ++ [c] ++ cs.drop (sp + 1)).map one)) = cs.take sp ++ [c] ++ cs.drop (sp + 1) := tl_joined (by decide +kernel) _
          generalize hz : Txt.join (Str.ofString "") ((cs.take sp ++ [c] ++ cs.drop (sp + 1)).map one) = z at ez ⊢
          refine ⟨F, _, _, rfl, rfl, eFe, by rw [List.length_map, hsl]; exact small1000 (by omega), ?_⟩
          refine ⟨_, rfl, (fr.trans frE).young nF0, ((bx.same se).mono (by omega)).upd hFb, by rw [upd_ne hpF]; exact se _ _ hpk', by rw [upd_ne hFD]; exact se _ _ eD', ss ++ [z], ?_, ?_, ?_, ?_⟩
          · rw [upd_same, List.map_append]
            rfl
          · rw [List.length_append, List.length_singleton, hsl]
          · intro y hy
            rcases List.mem_append.mp hy with hy | hy
            · exact hok y hy
            · rw [List.mem_singleton.mp hy]
              refine ⟨by rw [ez, elen]; exact hlong.2, by rw [ez, elen]; exact hlong.1, fun c' h' => ?_⟩
              rw [ez] at h'
              rcases List.mem_append.mp h' with h' | h'
              · rcases List.mem_append.mp h' with h' | h'
                · exact hc2 c' (List.mem_of_mem_take h')
                · rw [List.mem_singleton.mp h']
                  exact hcl
              · exact hc2 c' (List.mem_of_mem_drop h')
          · refine key _ ?_
            rw [ez, hj, List.append_assoc, List.getElem?_append_right (by rw [List.length_take]; omega), List.length_take, show sp - min sp cs.length = 0 by omega]
            rfl
        · have hj : j = 0 := by
            show (if so = 0 then 0 else if so < 3 then sp else 0) = 0
            rw [if_neg hso, if_neg fun e => h3 (decide_eq_true e)]
          refine ⟨_, rfl, .inl ⟨rfl, _, SqL.of eF'⟩, _, rfl, ⟨_, rfl⟩, _, rfl, b, n + 20 + m + 9 * i, 8, rfl, bx, by omega, by decide, by decide, fun Ha t fa ba t0 t1 => ?_⟩
          refine ⟨t, rfl, by omega, by omega, fun L nL => ?_⟩
          have hLb : L ≠ b := ba.ne_new nL
          have eFa : Ha F = some (.lst (ss.map V.str)) := fa _ _ eF' hFb
          have nL0 : H' L = none := fa.free hLb nL
          refine lc_range (lo := 0) (n := t.toNat) (fun u H2 => LwB.Fr b H' H2 ∧ Bx (n + 20 + m + 9 * i + 1 + u) H2 b ∧ ∃ es : List Nat, H2 L = some (.lst (es.map gv)) ∧ es.length = u ∧ ∀ c ∈ es, Letter c)
            ⟨fa.young nL0, ba.new nL, [], upd_same, rfl, fun c h => nomatch h⟩ ?_ ?_
          · rintro u H2 hu ⟨fr2, bx2, es, e2, hl2, hc2⟩
            refine ⟨rfl, ?_⟩
            show tCall spOf [] E0 (tCons (tVar 0) (tCons (tVar 2) tNil)) _ _ _
            refine ⟨_, rfl, _, rfl, b, n + 20 + m + 9 * i + 1 + u, _, _, rfl, bx2, by omega, goods_letters, by rw [List.length_map, tl_letters]; decide, fun H3 x fr3 bx3 hx => ?_⟩
            obtain ⟨e, he, rfl⟩ := mem_gv hx
            refine ⟨_, fr3 _ _ e2 hLb, ?_, (fr2.trans fr3).young nL0, ?_, es ++ [e], ?_, ?_, ?_⟩
            · rw [List.length_map, hl2]
              exact small1000 (by omega)
            · exact (bx3.mono (by omega)).upd hLb
            · rw [upd_same, List.map_append]
              rfl
            · rw [List.length_append, List.length_singleton, hl2]
            · intro c' h'
              rcases List.mem_append.mp h' with h' | h'
              · exact hc2 c' h'
              · rw [List.mem_singleton.mp h']
                exact letter_of he
          rintro H2 ⟨fr2, bx2, es, e2, hl2, hc2⟩
          refine ⟨_, L, es.map one, rfl, rfl, .inl (SqL.of (by rw [vals_ones]; exact e2)), ?_, ?_⟩
          · rw [len_ones, List.length_map]
            show es.length + es.length * (Str.ofString "").length ≤ 16777216
            rw [show (Str.ofString "").length = 0 by decide +kernel]
            omega
          have ez : tl (Txt.join (Str.ofString "") (es.map one)) = es := tl_joined (by decide +kernel) _
          generalize Txt.join (Str.ofString "") (es.map one) = y at ez ⊢
          have eyl : y.length = es.length := by
            rw [← ez]
            exact Array.length_toList.symm
          have ezz : tl (one c ++ y) = c :: es := by
            rw [tl_append, ez]
            rfl
          have hLF : F ≠ L := ne_of_none eFa nL
          have eF2 : H2 F = some (.lst (ss.map V.str)) := fr2 _ _ eF' hFb
          refine ⟨one c, y, rfl, rfl, ?_, ?_⟩
          · rw [eyl]
            exact Nat.le_trans (show (one c).length + es.length ≤ 20 by show 1 + es.length ≤ 20; omega) (by decide)
          generalize one c ++ y = z at ezz ⊢
          refine ⟨F, _, _, rfl, rfl, eF2, by rw [List.length_map, hsl]; exact small1000 (by omega), ?_⟩
          refine ⟨_, rfl, (fr.trans fr2).young nF0, (bx2.mono (by omega)).upd hFb, by rw [upd_ne hpF]; exact fr2 _ _ hpk' hpb, by rw [upd_ne hFD]; exact fr2 _ _ eD' hDb, ss ++ [z], ?_, ?_, ?_, ?_⟩
          · rw [upd_same, List.map_append]
            rfl
          · rw [List.length_append, List.length_singleton, hsl]
          · intro y hy
            rcases List.mem_append.mp hy with hy | hy
            · exact hok y hy
            · rw [List.mem_singleton.mp hy]
              refine ⟨by rw [ezz]; exact Nat.succ_le_succ (Nat.zero_le _), by rw [ezz]; show es.length + 1 ≤ 8; omega, fun c' h' => ?_⟩
              rw [ezz] at h'
              rcases List.mem_cons.mp h' with h' | h'
              · rw [h']
                exact hcl
              · exact hc2 c' h'
          · refine key _ ?_
            rw [ezz, hj]
            rfl
    · rintro σ H' ⟨x8, rfl, fr, bx, hpk', eD', ss, eF', hsl, hok, hkey⟩
      refine ⟨_, rfl, q H' F ss fr (bx.mono ?_) nF0 eF' ⟨hok, ?_⟩ ?_⟩
      · rw [List.length_map, hyl2]
        omega
      · refine nodup_key (f := fun z => (tl z)[j]?) ?_
        rw [hkey, List.length_map, List.take_length]
        exact nodup_some dnod
      · rw [hsl, List.length_map, hyl2]
end
end K13
namespace K13
open PySem PySem.Spec PyProof.Rows L2 IqX RvT LwB EnS TL
section
variable {P : Program} {w : World} {K : PySem.W.Frag} {mg : Str → Option Value} {base : Heap}
theorem ok__law_lies (D : Df K mg "_law_lies" s__law_lies ["_law_verse", "_law_row"]) (B : Bn mg) : Ok P w K mg base 1 "_law_lies" ["_law_verse", "_law_row"] spLies := by
  refine D.ok sc__law_lies (fun vs H Q E h => ?_) (fun f cdv A outer s H vs Q E hr h => ?_)
  · obtain ⟨_, _, _, _, _, _, rfl, _⟩ := h
    rfl
  · obtain ⟨b1, b2, a, c, ws, es, rfl, hw, he, hlen, q⟩ := h
    have nd := sc__law_lies.nd
    refine ⟨_, pss_cons (ps_set (i := 2) nd rfl (.inl rfl) pe_int)
      (pss_cons (ps_for PassesOwn.never rfl (pi_seq (pv 1)) (pg_name (i := 3) nd rfl (.inl rfl))
        (pss_one (ps_set (i := 2) nd rfl (.inl rfl) (pe_op op_add (pv 2) (pe_int1 B.int (pa_cons
          (pe_and (pe_cmpR op_lt (pv 2) (pe_len B.len (pa_cons (pv 0) pa_nil)) (nomark _)) (pe_one (pe_cmpR op_eq (pe_ix ix_sq (pv 0) (pv 2) (fun _ _ => rfl)) (pv 3) (nomark _)))) pa_nil))))))
      (pss_one (ps_ret (pe_cmpR op_eq (pv 2) (pe_len B.len (pa_cons (pv 0) pa_nil)) (nomark _))))), ?_⟩
    refine ⟨.ref c, rfl, b2, c, rfl, ⟨_, he.B⟩, for_seq (K := K) (b := b2) (a := c) (xs := es.map V.str)
      (fun i σ H' => ∃ (k : Nat) (x3 : Option V), σ = [some (.ref a), some (.ref c), some (.int k), x3] ∧ H' = H ∧ k ≤ ws.length ∧ mt ws es = k + mt (ws.drop k) (es.drop i))
      ⟨0, none, rfl, rfl, Nat.zero_le _, by rw [List.drop_zero, List.drop_zero]; omega⟩ (fun i σ H' _ ⟨_, _, _, e, _⟩ => by rw [e]; exact he.B) ?_ ?_⟩
    · rintro i x σ H' hi ⟨k, x3, rfl, rfl, hk, em⟩
      obtain ⟨z, hz, rfl⟩ := map_get hi
      refine ⟨_, rfl, _, rfl, .ref a, rfl, b1, a, _, rfl, hw, _, _, rfl, rfl, _, rfl, ite2 (fun h1 => ?_) (fun h1 => ?_)⟩
      · have hlt : k < ws.length := by
          have := of_decide_eq_true h1
          rw [List.length_map] at this
          omega
        have hwz : ws[k]? = some ws[k] := List.getElem?_eq_getElem hlt
        refine ⟨.ref a, rfl, _, rfl, b1, a, _, k, .str ws[k], rfl, rfl, hw, atI_nat (get_map hwz), _, rfl, rfl, .inr ⟨_, rfl, _, _, rfl, rfl, ?_⟩⟩
        by_cases e : ws[k] = z
        · refine ⟨k + 1, some (.str z), ?_, rfl, hlt, ?_⟩
          · rw [e, decide_eq_true rfl]
            rfl
          · rw [em, drop_at hz, drop_at hwz, mt_hit e.symm]
            omega
        · refine ⟨k, some (.str z), ?_, rfl, hk, ?_⟩
          · rw [decide_eq_false (fun q => e (V.str.inj q))]
            show [some (V.ref a), some (V.ref c), some (V.int ((k : Int) + 0)), some (V.str z)] = _
            rw [Int.add_zero]
          · rw [em, drop_at hz, drop_at hwz, mt_miss fun q => e q.symm]
      · have hge : ws.length ≤ k := by
          have : ¬ (decide (_ < _) = true) := h1
          rw [decide_eq_true_eq, List.length_map] at this
          omega
        refine .inr ⟨_, rfl, _, _, rfl, rfl, ?_⟩
        refine ⟨k, some (.str z), ?_, rfl, hk, ?_⟩
        · show [some (V.ref a), some (V.ref c), some (V.int ((k : Int) + 0)), some (V.str z)] = _
          rw [Int.add_zero]
        · rw [em, List.drop_eq_nil_of_le hge, mt_nil, mt_nil]
    · rintro σ H' ⟨k, x3, rfl, rfl, hk, em⟩
      refine ⟨_, rfl, .ref a, rfl, b1, a, _, rfl, hw, rfl, ?_⟩
      have e : decide (V.int (k : Int) = V.int (((ws.map V.str).length : Nat) : Int)) = isPart ws es := by
        rw [isPart_mt, em, List.length_map, List.length_map, List.drop_length, mt_end]
        by_cases h : k = ws.length
        · rw [h]
          simp
        · rw [decide_eq_false (by intro q; have := V.int.inj q; omega), decide_eq_false (by omega)]
      show Q (V.bl (decide (V.int (k : Int) = V.int (((ws.map V.str).length : Nat) : Int)))) _
      rw [e]
      exact q
theorem ok__law_event_row (D : Df K mg "_law_event_row" s__law_event_row ["_law_box_here", "_law_tags", "_law_most"]) (B : Bn mg) (OT : Ok P w K mg base 1 "_law_take" ["_law_box_here", "_law_size_so"] spTake) (OO : Ok P w K mg base 2 "_law_of" ["_law_box_here", "_law_goods_so"] spOf) :
    Ok P w K mg base 3 "_law_event_row" ["_law_box_here", "_law_tags", "_law_most"] spRow := by
  refine D.ok sc__law_event_row (fun vs H Q E h => ?_) (fun f cdv A outer s H vs Q E hr h => ?_)
  · obtain ⟨_, _, _, _, _, rfl, _⟩ := h
    rfl
  · obtain ⟨b, l, n, m, ss, rfl, hb, hn, hlb, hl, hsl, hs0, hm, q⟩ := h
    have nd := sc__law_event_row.nd
    have hr1 : Room 1 _ := hr.mono (by decide)
    refine ⟨_, pss_one (ps_ret (pe_tupQ B.tuple (pa_cons (pe_lc (own := [("_law_turn", 3)]) (g := gName 3) (by rfl) nd (pi_range1 (by rfl) B.range (pa_cons (pe_c OT hr1 (pa_cons (pv 0) (pa_cons (pe_op op_add (pv 2) pe_int) pa_nil))) pa_nil))
        (blkOk_by (N := ["_law_box_here", "_law_tags", "_law_most", "_law_turn"]) (sc := defScope s__law_event_row) (by decide +kernel))
        (fun _ _ _ _ _ => pg_name (i := 3) nd rfl (.inl rfl)) (fun _ _ _ _ _ => pts_nil) (fun _ _ _ _ _ => pe_c OO hr (pa_cons (pv 0) (pa_cons (pv 1) pa_nil)))) pa_nil))), ?_⟩
    refine ⟨_, rfl, _, rfl, _, _, rfl, rfl, b, n, _, rfl, hb, by omega, by omega, by omega, fun H1 t f1 b1 t0 t1 => ?_⟩
    refine ⟨t, rfl, by omega, by omega, fun L nL => ?_⟩
    have hLb : L ≠ b := b1.ne_new nL
    have nL0 : H L = none := f1.free hLb nL
    refine lc_range (lo := 0) (n := t.toNat) (fun u H2 => LwB.Fr b H H2 ∧ Bx (n + 1 + u) H2 b ∧ ∃ es : List Str, H2 L = some (.lst (es.map V.str)) ∧ es.length = u ∧ ∀ e ∈ es, e ∈ ss)
      ⟨f1.young nL0, b1.new nL, [], upd_same, rfl, fun c h => nomatch h⟩ ?_ ?_
    · rintro u H2 hu ⟨fr2, bx2, es, e2, hl2, hc2⟩
      refine ⟨rfl, ?_⟩
      show tCall spOf [] E0 (tCons (tVar 0) (tCons (tVar 1) tNil)) _ _ _
      refine ⟨_, rfl, _, rfl, b, n + 1 + u, _, _, rfl, bx2, by omega, .inr ⟨true, l, rfl, hlb, fr2.sq hlb hl, by rw [List.length_map]; exact hsl⟩, by rw [List.length_map]; exact hs0, fun H3 x fr3 bx3 hx => ?_⟩
      obtain ⟨e, he, rfl⟩ := List.mem_map.mp hx
      refine ⟨_, fr3 _ _ e2 hLb, ?_, (fr2.trans fr3).young nL0, ?_, es ++ [e], ?_, ?_, ?_⟩
      · rw [List.length_map, hl2]
        exact small1000 (by omega)
      · exact (bx3.mono (by omega)).upd hLb
      · rw [upd_same, List.map_append]
        rfl
      · rw [List.length_append, List.length_singleton, hl2]
      · intro c' h'
        rcases List.mem_append.mp h' with h' | h'
        · exact hc2 c' h'
        · rw [List.mem_singleton.mp h']
          exact he
    rintro H2 ⟨fr2, bx2, es, e2, hl2, hc2⟩
    refine ⟨true, L, _, rfl, .lst e2, fun H3 p s3 hp => ?_⟩
    have b3 : Bx (n + 1 + m) H3 b := (bx2.mono (by omega)).same s3
    exact q H3 p es (fr2.trans (Fr.same s3)) b3 hp (hp.ne_box b3) (by omega) hc2
end
end K13
namespace LwB
open PySem PySem.Spec PyProof.Rows L2 IqX RvT EnS TL NsT CpN
variable [LwB.KC]
/-! ### defs that draw -/
/-- what is told is a tree of R; the box had n draws, then so many more -/
def spD {ι : Type} (A : ι → List Tr) (P : ι → Prop) (m : ι → Nat) (R : ι → Tr → Prop) : Sp := fun vs H Q _ => Good H ∧ ∃ (b : Addr) (n : Nat) (i : ι) (us : List V), vs = .ref b :: us ∧ Bx n H b ∧ n + m i < 500000000 ∧ P i ∧ Paired (It (rm H b)) (A i) us ∧
  ∀ H' v T, LwB.Fr b H H' → Bx (n + m i) H' b → R i T → It (nv H H') T v → Q v H'
def spD0 {ι : Type} (A : ι → List Tr) (P : ι → Prop) (m : ι → Nat) (R : ι → Tr → Prop) : Sp := fun vs H Q _ => Good H ∧ ∃ (b : Addr) (n : Nat) (i : ι) (us : List V), vs = .ref b :: us ∧ Bx n H b ∧ n + m i < 500000000 ∧ P i ∧ Paired (It (rm H b)) (A i) us ∧
  ∀ H' v T, LwB.Fr b H H' → Bx (n + m i) H' b → R i T → It (rm H' b) T v → Q v H'
/-- without all lists but one -/
def dropL (b : Addr) (H : Hp) : Hp := fun a => if a = b then H a else match H a with
  | some (.lst _) => none
  | o => o
def backL (b : Addr) (H H1 : Hp) : Hp := fun a => if a = b then H1 a else match H a with
  | some (.lst xs) => some (.lst xs)
  | _ => H1 a
theorem dropL_self {b : Addr} {H : Hp} : dropL b H b = H b := if_pos rfl
theorem dropL_lst {a b : Addr} {H : Hp} {xs : List V} (n : a ≠ b) (h : H a = some (.lst xs)) : dropL b H a = none := by
  unfold dropL
  rw [if_neg n, h]
theorem dropL_not {a b : Addr} {H : Hp} {o : HO} (h : H a = some o) (hn : ∀ xs, o ≠ .lst xs) : dropL b H a = some o := by
  unfold dropL
  split
  · exact h
  · rw [h]
    split
    · rename_i xs e
      cases e
      exact absurd rfl (hn xs)
    · rfl
theorem dropL_none {a b : Addr} {H : Hp} (h : H a = none) : dropL b H a = none := by
  unfold dropL
  split
  · exact h
  · rw [h]
theorem dropL_sub {a b : Addr} {H : Hp} {o : HO} (h : dropL b H a = some o) : H a = some o := by
  unfold dropL at h
  split at h
  · exact h
  · split at h
    · cases h
    · exact h
theorem backL_self {b : Addr} {H H1 : Hp} : backL b H H1 b = H1 b := if_pos rfl
theorem backL_lst {a b : Addr} {H H1 : Hp} {xs : List V} (n : a ≠ b) (h : H a = some (.lst xs)) : backL b H H1 a = some (.lst xs) := by
  unfold backL
  rw [if_neg n, h]
theorem backL_not {a b : Addr} {H H1 : Hp} (hn : a ≠ b → ∀ xs, H a ≠ some (.lst xs)) : backL b H H1 a = H1 a := by
  unfold backL
  split
  · rfl
  · rename_i ne
    split
    · rename_i xs e
      exact absurd e (hn ne xs)
    · rfl
section
variable {P : Program} {w : World} {K : PySem.W.Frag} {mg : Str → Option Value} {base : Heap} {k : Nat} {f : Addr} {fd : FuncData} {ps : List Str} {sp sp' : Sp}
theorem fn_drop (F : FnOk P w K mg base CX0 k f fd ps sp') (hlen : ∀ vs H Q E, sp vs H Q E → vs.length = ps.length)
    (hsp : ∀ vs H Q E, sp vs H Q E → ∃ b, sp' vs (dropL b H) (fun v H1 => (∀ a xs, a ≠ b → H a = some (.lst xs) → H1 a = none) → Q v (backL b H H1)) E) : FnOk P w K mg base CX0 k f fd ps sp := by
  refine ⟨hlen, fun A outer s H args us vs Q E hr e0 hb hv hs => ?_⟩
  obtain ⟨b, hs'⟩ := hsp vs H Q E hs
  have e1 : Env0 P w K mg base A outer s (dropL b H) := ⟨e0.frames, e0.mod, fun c o e => ⟨(e0.bs c o e).1, dropL_none (e0.bs c o e).2⟩, e0.bsz, e0.funs, fun c hc => dropL_none (e0.frf c hc), fun c u e => by
    refine (e0.hok c u (dropL_sub e)).stay (fun _ _ _ z => z) (fun d z => dropL_not z fun _ => nofun) fun d ys z => dropL_not z fun _ => nofun, e0.bare⟩
  refine codeAny_mono (F.run A outer s _ args us vs _ E hr e1 hb hv hs') fun r s' h => ?_
  cases r with
  | error e => exact h
  | ok fl =>
    cases fl with
    | next => exact h
    | brk => exact h
    | cont => exact h
    | ret u =>
      obtain ⟨v, H1, os, bare, un, hok1, r1, q⟩ := h
      have gone : ∀ a xs, a ≠ b → H a = some (.lst xs) → H1 a = none := fun a xs n e => by
        obtain ⟨_, its, k, _, eo⟩ := e0.hok a _ e
        exact un.free a _ eo (dropL_lst n e) (by simp)
      refine ⟨v, backL b H H1, os, bare, ⟨fun c ob e n hb hx => un.keep c ob e (dropL_none n) hb hx, fun c ob e n hb hx => un.slot c ob e (dropL_none n) hb hx, fun c ob e n hx => ?_, un.there, fun c ys e => ?_, fun c ob ys e => ?_, fun c ps e => ?_⟩, fun c u e => ?_, r1, q gone⟩
      · rw [backL_not fun _ xs z => by rw [n] at z; cases z]
        exact un.free c ob e (dropL_none n) hx
      · rw [backL_not fun _ xs z => by rw [e] at z; cases z]
        exact un.tups c ys (dropL_not e fun _ => nofun)
      · rw [backL_not fun _ xs z => by rw [e] at z; cases z]
        exact un.frzs c ob ys (dropL_not e fun _ => nofun)
      · rw [backL_not fun _ xs z => by rw [e] at z; cases z]
        exact un.tbls c ps (dropL_not e fun _ => nofun)
      · by_cases hc : c ≠ b ∧ ∃ xs, H c = some (.lst xs)
        · obtain ⟨ne, xs, hx⟩ := hc
          rw [backL_lst ne hx] at e
          cases e
          obtain ⟨z, its, k, rv, eo⟩ := e0.hok c _ hx
          refine ⟨z, its, k, rv, un.keep c _ eo (dropL_lst ne hx) (fun q => ?_) (by simp)⟩
          have := e0.frf c q
          rw [hx] at this
          cases this
        · have hn : c ≠ b → ∀ xs, H c ≠ some (.lst xs) := fun ne xs z => hc ⟨ne, xs, z⟩
          rw [backL_not hn] at e
          have back : ∀ {d : Addr} {o : HO}, H1 d = some o → backL b H H1 d = some o := fun {d o} z => by
            rw [backL_not fun ne xs y => by rw [gone d xs ne y] at z; cases z]
            exact z
          exact (hok1 c u e).stay (fun _ _ _ z => z) (fun d z => back z) fun d ys z => back z
theorem Ok.dropD {x : Str} {ι : Type} {A : ι → List Tr} {Pi : ι → Prop} {m : ι → Nat} {R : ι → Tr → Prop} (O : Ok P w K mg base k x ps (spD0 A Pi m R)) (hA : ∀ i, Pi i → Tr.nolAll (A i) = true) (hl : ∀ i, (A i).length + 1 = ps.length) : Ok P w K mg base k x ps (spD A Pi m R) := by
  obtain ⟨f, fd, F, r⟩ := O.ex
  refine ⟨f, fd, fn_drop F (fun vs H Q E ⟨_, b, n, i, us, e, _, _, _, pr, _⟩ => by rw [e, List.length_cons, ← paired_len pr]; exact hl i) fun vs H Q E ⟨gd, b, n, i, us, e, bx, hn, hi, pr, q⟩ => ⟨b, ?_⟩, r⟩
  obtain ⟨xs, hb⟩ := bx_list bx
  refine ⟨fun c hc => dropL_not (gd c hc) fun _ => nofun, b, n, i, us, e, ?_, hn, hi, paired_mem pr fun T v hT it => It.nolA (fun a o h => ?_) (nol_mem (hA i hi) hT) it, fun H1 v T f1 b1 hR it gone => q (backL b H H1) v T (fun a o h ne => ?_) ?_ hR (it.mv fun a o h => ?_)⟩
  · obtain ⟨x0, x1, x2, e0, z⟩ := bx
    exact ⟨x0, x1, x2, by rw [dropL_self]; exact e0, z⟩
  · by_cases hab : a = b
    · rw [hab, rm_self] at h
      cases h
    · rw [rm_ne hab] at h ⊢
      by_cases hx : ∃ ys, o = .lst ys
      · exact .inr hx
      · exact .inl (dropL_not h fun ys z => hx ⟨ys, z⟩)
  · by_cases hx : ∃ ys, o = .lst ys
    · obtain ⟨ys, rfl⟩ := hx
      exact backL_lst ne h
    · rw [backL_not fun _ ys z => hx ⟨ys, by rw [h] at z; exact Option.some.inj z⟩]
      exact f1 a o (dropL_not h fun ys z => hx ⟨ys, z⟩) ne
  · obtain ⟨x0, x1, x2, e0, z⟩ := b1
    exact ⟨x0, x1, x2, by rw [backL_self]; exact e0, z⟩
  · have hab : a ≠ b := by
      rintro rfl
      rw [rm_self] at h
      cases h
    rw [rm_ne hab] at h
    have hnl : ∀ ys, H a ≠ some (.lst ys) := fun ys z => by
      rw [gone a ys hab z] at h
      cases h
    rw [nv_not hnl, backL_not fun _ => hnl]
    exact h
theorem Ok.nolD {x : Str} {ι : Type} {A : ι → List Tr} {Pi : ι → Prop} {m : ι → Nat} {R : ι → Tr → Prop} (O : Ok P w K mg base k x ps (spD0 A Pi m R)) (hR : ∀ i T, Pi i → R i T → T.nol = true) : Ok P w K mg base k x ps (spD A Pi m R) :=
  O.weak fun vs H Q E ⟨gd, b, n, i, us, e, bx, hn, hi, pr, q⟩ => ⟨gd, b, n, i, us, e, bx, hn, hi, pr, fun H' v T f b' r it => q H' v T f b' r (It.nolA (fun a o h => by
    have hab : a ≠ b := by
      rintro rfl
      rw [rm_self] at h
      cases h
    rw [rm_ne hab] at h
    by_cases hx : ∃ ys, H a = some (.lst ys)
    · obtain ⟨ys, hy⟩ := hx
      have := f a _ hy hab
      rw [h] at this
      exact .inr ⟨ys, Option.some.inj this⟩
    · exact .inl (by rw [nv_not fun ys z => hx ⟨ys, z⟩]; exact h)) (hR i T hi r) it)⟩
theorem Df.okD {x : Str} {st : Stmt} {Ns : List Str} {ι : Type} {A : ι → List Tr} {Pi : ι → Prop} {m : ι → Nat} {R : ι → Tr → Prop} (D : Df K mg x st ps) (S : FnScope Ns ps (defScope st)) (hl : ∀ i, (A i).length + 1 = ps.length)
    (hb : ∀ (f : Addr) (cdv : Value) (Ar : Around) (outer : List Env) (s : Shared) (H : Hp) (E : XK), Room k (Ar.deeper (envOfC x (defScope st) s.heap.objs.size f cdv)) → ∀ (b : Addr) (n : Nat) i, Pi i → n + m i < 500000000 →
      PSs (cxOf CX0 P w K mg base Ns x (defScope st) f cdv Ar outer s H E).nox (defBody st) (tS Ns.length (zipE 1 (A i)) [(0, .box b n)] (.any (R i) [(0, .box b (n + m i))]))) (hps : ps.length ≤ Ns.length := by decide) : Ok P w K mg base (k + 1) x ps (spD0 A Pi m R) := by
  refine D.ok S (fun vs H Q E ⟨_, b, n, i, us, e, _, _, _, pr, _⟩ => by rw [e, List.length_cons, ← paired_len pr]; exact hl i) (fun f cdv Ar outer s H vs Q E hr ⟨gd, b, n, i, us, e, bx, hn, hi, pr, q⟩ => ?_)
  subst e
  obtain ⟨xs, hx⟩ := bx_list bx
  have hlen : us.length + 1 = ps.length := by rw [← paired_len pr]; exact hl i
  refine ⟨_, hb f cdv Ar outer s H E hr b n i hi hn, rm H b, ⟨(Vw.refl H gd).rm hx, ?_, fun _ => b, fun p hp => ?_, fun p hp r hr _ => ?_⟩, ?_⟩
  · refine ⟨?_, fun p hp => ?_⟩
    · unfold L2.start
      rw [List.length_append, List.length_map, List.length_replicate, List.length_cons]
      omega
    · obtain ⟨j, e, h⟩ := zipE_mem hp
      obtain ⟨v, hv, i⟩ := paired_at pr h
      refine ⟨v, ?_, i⟩
      have hlt := (List.getElem?_eq_some_iff.mp hv).1
      unfold L2.start
      rw [e, List.getElem?_append_left (by rw [List.length_map, List.length_cons]; omega), List.getElem?_map, Nat.add_comm, List.getElem?_cons_succ, hv]
      rfl
  · rw [List.mem_singleton.mp hp]
    obtain ⟨x0, x1, x2, e, r⟩ := bx
    refine ⟨?_, rm_self, _, e, rfl, x0, x1, x2, rfl, r⟩
    unfold L2.start
    rfl
  · rw [List.mem_singleton.mp hp, List.mem_singleton.mp hr]
  · intro v T σ' W' H' sm S' hT i'
    obtain ⟨_, hW, hB⟩ := S'.box (.head _)
    refine q H' v T (fun a o h hab => S'.vw.sub a o (sm a o (by rw [rm_ne hab]; exact h))) hB hT (i'.mv fun a o h => ?_)
    have hab : a ≠ b := by
      rintro rfl
      rw [hW] at h
      cases h
    rw [rm_ne hab]
    exact S'.vw.sub a o h
end
section
variable {X : Cx} {N : Nat} {env : EnvT} {own own1 own' : OwnT} {rest : List Stmt} {pos pos' p : Pos} {o : Oc} {e : Expr} {es : List Expr}
/-- f(box, ..), such a def -/
theorem de_D {x : Str} {ps : List Str} {k M : Nat} {ι : Type} {A : ι → List Tr} {Pi : ι → Prop} {m : ι → Nat} {R' : ι → Tr → Prop} {eb : Expr} {β n0 n : Nat} {b : Addr} {R : List Tr → Prop} (O : Ok X.prog X.w X.K X.mg X.base k x ps (spD A Pi m R')) (hr : Room k X.A) (hb : PE X eb (tVar β)) (ha : PA X es (tDs N env own R own1))
    (hR : ∀ Ts, R Ts → ∃ i, Pi i ∧ A i = Ts ∧ m i ≤ M) (hn : n + M < 500000000) (hm0 : lookO own β = some (.box b n0) := by rfl) (hm : lookO own1 β = some (.box b n) := by rfl) (hg : Gl X x := by rfl)
    (hdb : (x == ("__debug__" : Str)) = false := by decide) (hs : starEach (eb :: es) X.env = (false, eval eb X.env) :: starEach es X.env := by rfl) (hpl : (backTo pos (starEach es X.env)).any (·.1) = false := by rfl) :
    PE X (.Call (.Name x p) (eb :: es) [] pos) (tD N env own (fun T => ∃ i, R (A i) ∧ Pi i ∧ R' i T) ((β, .box b (n + M)) :: delO β own1)) :=
  de_cG O hr hb ha (fun H us Ts Q gd bx r pr q => by
    obtain ⟨i, hi, e, hM⟩ := hR Ts r
    subst e
    exact ⟨gd, b, n, i, us, rfl, bx, by omega, hi, pr, fun H' v T f b' hT it => q H' v T f (b'.mono (by omega)) ⟨i, r, hi, hT⟩ it⟩) hm0 hm hg hdb hs hpl
/-- return e, of a def that draws -/
theorem s_retD {T : Tr} {R : Tr → Prop} {b : Addr} {n n' β : Nat} (he : PE X e (tLe N env T)) (hR : R T) (hm : lookO own β = some (.box b n) := by rfl) (h : n ≤ n' := by omega) : PSs X (.Return (some e) pos :: rest) (tS N env own (.any R [(β, .box b n')])) :=
  PSs.imp (pss_cons (ps_ret he) pss_any) fun D σ H ⟨W, S, q⟩ => ⟨W, S.vw, S.ev, fun H1 v s1 i1 => q v T σ _ H1 S.keep (((S.step s1).more hm h).sub (fun _ h => nomatch h) fun p hp => by
    rw [List.mem_singleton.mp hp]
    exact .head _) hR i1⟩
/-- return a draw -/
theorem s_retDr {R Pr : Tr → Prop} {b : Addr} {n n' β : Nat} (he : PE X e (tD N env own Pr own1)) (hR : ∀ T, Pr T → R T) (hm : lookO own1 β = some (.box b n) := by rfl) (h : n ≤ n' := by omega) : PSs X (.Return (some e) pos :: rest) (tS N env own (.any R [(β, .box b n')])) :=
  PSs.imp (pss_cons (ps_ret he) pss_any) fun D σ H ⟨W, S, q⟩ => ⟨W, S, fun v T W1 H1 s1 S1 pT i1 => q v T σ W1 H1 s1 ((S1.more hm h).sub (fun _ h => nomatch h) fun p hp => by
    rw [List.mem_singleton.mp hp]
    exact .head _) (hR T pT) i1⟩
/-- tests that draw -/
def tKD (N : Nat) (env : EnvT) (own : OwnT) (Pb : Bool → Prop) (own' : OwnT) : TT := fun σ H Q => ∃ W, Sv N env own σ W H ∧ ∀ c W' H', Same W W' → Sv N env own' σ W' H' → Pb c → Q c H'
theorem kd_val {Pb : Bool → Prop} (h : PE X e (tD N env own (fun T => ∃ c, T = .bl c ∧ Pb c) own')) (he : ∀ whole, isTrue e X.env whole = (do let v ← whole; standAt e.pos; holding [v] (truthy v)) := by intro _; rfl) : PT X e (tKD N env own Pb own') :=
  ⟨fun pins s σ H Q I ⟨W, S, q⟩ => (pt_val h he).run pins s σ H Q I ⟨W, S, fun v T W1 H1 s1 S1 ⟨c, eT, pc⟩ i1 => by
    subst eT
    exact ⟨c, i1.bl_eq, q c W1 H1 s1 S1 pc⟩⟩⟩
theorem kd_not {Pb : Bool → Prop} {pos : Pos} (h : PT X e (tKD N env own Pb own')) : PT X (.UnaryOp .Not e pos) (tKD N env own (fun c => Pb (!c)) own') :=
  ⟨fun pins s σ H Q I ⟨W, S, q⟩ => (pt_not h).run pins s σ H Q I ⟨W, S, fun c W1 H1 s1 S1 pc => q (!c) W1 H1 s1 S1 (by show Pb (!!c); rw [Bool.not_not]; exact pc)⟩⟩
theorem s_ifD {c : Expr} {body orelse : List Stmt} {Pb : Bool → Prop} (hc : PT X c (tKD N env own Pb own1)) (hb : Pb true → PSs X body (tS N env own1 o)) (he : Pb false → PSs X orelse (tS N env own1 o)) : PSs X [.If c body orelse pos] (tS N env own o) :=
  PSs.imp (pss_one (ps_if hc pss_any pss_any)) fun D σ H ⟨W, S, q⟩ => ⟨W, S, fun b W1 H1 s1 S1 pb => by
    cases b with
    | true => exact iteT ⟨_, hb pb, W1, S1, q.mono s1⟩
    | false => exact iteF ⟨_, he pb, W1, S1, q.mono s1⟩⟩
theorem s_ifDF {c : Expr} {body : List Stmt} (hc : PT X c (tKD N env own (fun c => c = false) own1)) (hrest : PSs X rest (tS N env own1 o)) : PSs X (.If c body [] pos :: rest) (tS N env own o) :=
  PSs.imp (pss_cons (ps_if hc pss_any pss_nil) hrest) fun D σ H ⟨W, S, q⟩ => ⟨W, S, fun b W1 H1 s1 S1 pb => by
    subst pb
    exact iteF ⟨W1, S1, q.mono s1⟩⟩
/-- u + w, two rows that are drawn -/
theorem de_catW {a b : Expr} {P1 P2 : Tr → Prop} (h1 : PE X a (tD N env own P1 own1)) (h2 : PE X b (tD N env own1 P2 own')) (i1 : ∀ T, P1 T → ∃ u : List Str, T = trs false u ∧ u.length ≤ 400000) (i2 : ∀ T, P2 T → ∃ u : List Str, T = trs false u ∧ u.length ≤ 400000) :
    PE X (.BinOp a .Add b pos) (tD N env own (fun T => ∃ u w, T = trs false (u ++ w) ∧ P1 (trs false u) ∧ P2 (trs false w)) own') :=
  PE.imp (pe_op op_catQ h1 h2) fun σ H Q ⟨W, S, q⟩ => ⟨W, S, fun v T W1 H1 s1 S1 p1 r1 => ⟨W1, S1, fun u U W2 H2 s2 S2 p2 r2 => by
    obtain ⟨x, rfl, hx⟩ := i1 T p1
    obtain ⟨y, rfl, hy⟩ := i2 U p2
    obtain ⟨a, xs, rfl, ha, la, pa⟩ := (r1.mv s2).sq_inv
    obtain ⟨b, ys, rfl, hb, lb, pb⟩ := r2.sq_inv
    have n1 := paired_len pa
    have n2 := paired_len pb
    rw [List.length_map] at n1 n2
    have e1 := strs_its pa
    have e2 := strs_its pb
    subst e1
    subst e2
    refine ⟨a, b, _, _, rfl, rfl, ha.1.mv fun o z => S2.vw.sub a o z, hb.1.mv fun o z => S2.vw.sub b o z, by omega, fun H3 p3 s3 h3 => ?_⟩
    have S3 := S2.step s3
    refine q _ _ _ H3 ((s1.trans s2).trans S2.keep) S3 ⟨x, y, rfl, p1, p2⟩ (It.nol S3.vw (trs_nol _) (It.of (Is.strs (n := 0) ⟨?_, fun e => nomatch e⟩ (by rw [List.length_append]; omega))))
    rw [← List.map_append] at h3
    exact h3⟩⟩
theorem de_lst1 {a : Expr} {P1 : Tr → Prop} (h1 : PE X a (tD N env own P1 own1)) (hs : starEach [a] X.env = (false, eval a X.env) :: starEach [] X.env := by rfl) : PE X (.List [a] pos) (tD N env own (fun T => ∃ U, T = .sq true [U] ∧ P1 U) own1) :=
  PE.imp (pe_lst (pa_cons (hs := hs) h1 pa_nil)) fun σ H Q ⟨W, S, q⟩ => ⟨W, S, fun v T W1 H1 s1 S1 p1 r1 => ⟨show 1 ≤ sizeLine by decide, fun p np => by
    have s2 := same_new (o := HO.lst [v]) np
    have S2 := S1.step s2
    exact q _ _ _ _ (s1.trans S1.keep) S2 ⟨T, rfl, p1⟩ (It.sq (xs := [v]) (.lst (by rw [vw_new np]; exact upd_same)) (show 1 ≤ 1000000 by decide) (.cons (r1.mv S1.keep) .nil))⟩⟩
theorem de_and {a b : Expr} {p : Bool} {Pb : Bool → Prop} {pos : Pos} (ha : PT X a (tKn N (fullE own env) p)) (hb : p = true → PT X b (tKD N env own Pb own1)) (hm : p = false → ∀ σ W H, Sv N env own σ W H → Sv N env own1 σ W H) : PT X (.BoolOp .And [a, b] pos) (tKD N env own (fun c => if p = true then Pb c else c = false) own1) :=
  ⟨fun pins s σ H Q I ⟨W, S, q⟩ => (PW.pt (pw_and ha (pw_and1 (pt_when hb)))).run pins s σ H Q I ⟨H, S.vw.self, S.full, fun H1 s1 => by
    cases p with
    | true => exact iteT ⟨rfl, _, S.step s1, fun c W' H' s' S' pc => q c W' H' (S.keep.trans s') S' pc⟩
    | false => exact iteF (q false _ H1 S.keep (hm rfl _ _ _ (S.step s1)) rfl)⟩⟩
/-- a draw > a number -/
theorem kd_gt {a : Expr} {P1 : Tr → Prop} {z : Int} {kk : _} {p1 pos : Pos} (h1 : PE X a (tD N env own P1 own1)) (i1 : ∀ T, P1 T → ∃ i : Int, T = .int i) : PT X (.Compare a [.Gt] [.Constant (.int z) kk p1] pos) (tKD N env own (fun _ => True) own1) :=
  ⟨fun pins s σ H Q I ⟨W, S, q⟩ => (pt_cmpR op_gt h1 pe_int (nomark _)).run pins s σ H Q I ⟨W, S, fun v T W1 H1 s1 S1 pT r1 => by
    obtain ⟨i, rfl⟩ := i1 T pT
    rw [r1.int_eq]
    exact ⟨i, z, rfl, rfl, _, rfl, q _ W1 H1 s1 S1 trivial⟩⟩⟩
/-- a test that may draw, whose branch doesn't come back -/
theorem s_ifDX {c : Expr} {body : List Stmt} {Pb : Bool → Prop} (hc : PT X c (tKD N env own Pb own1)) (hb : Pb true → PSs X body (tS N env own1 o)) (hrest : Pb false → PSs X rest (tS N env own1 o)) (ho : o.leaves = true := by rfl) : PSs X (.If c body [] pos :: rest) (tS N env own o) :=
  PSs.imp (pss_cons (ps_if hc pss_any pss_nil) pss_any) fun D σ H ⟨W, S, q⟩ => ⟨W, S, fun b W1 H1 s1 S1 pb => by
    cases b with
    | true =>
      refine iteT ⟨_, hb pb, W1, S1, ?_⟩
      cases o with
      | go _ _ => cases ho
      | _ => exact q.mono s1
    | false => exact iteF ⟨_, hrest pb, W1, S1, q.mono s1⟩⟩
/-- (.., ..), drawn -/
theorem de_tup {es : List Expr} {R : List Tr → Prop} {x1 pos : _} (h : PA X es (tDs N env own R own1)) (hl : ∀ Ts, R Ts → Ts.length ≤ 1000) : PE X (.Tuple es x1 pos) (tD N env own (fun T => ∃ Ts, T = .sq false Ts ∧ R Ts) own1) :=
  PE.imp (pe_tup h) fun σ H Q ⟨W, S, q⟩ => ⟨W, S, fun vs Ts W1 H1 s1 S1 r i1 => by
    have hlen : vs.length ≤ 1000 := by rw [← Paired.length i1]; exact hl Ts r
    refine ⟨Nat.le_trans hlen (by decide), fun p np => ?_⟩
    have s2 := same_new (o := HO.tup vs) np
    refine q _ _ _ _ (s1.trans S1.keep) (S1.step s2) ⟨Ts, rfl, r⟩ (It.sq (.tup (.inl ?_)) (by omega) (paired_imp i1 fun _ _ z => z.mv S1.keep))
    rw [vw_new np]
    exact upd_same⟩
/-- a, b = a pair that is drawn -/
theorem s_unpD2 {i j : Nat} {x y : Str} {px py pt : Pos} {kt : _} {e : Expr} {R : Tr → Tr → Prop} (hc : X.calm = true) (hN : X.N.Nodup) (hi : X.N[i]? = some x) (hj : X.N[j]? = some y) (hx : Loc X.env.scope x) (hy : Loc X.env.scope y)
    (he : PE X e (tD N env own (fun T => ∃ T1 T2, T = .sq false [T1, T2] ∧ R T1 T2) own1)) (hrest : ∀ T1 T2, R T1 T2 → PSs X rest (tS N ((j, T2) :: del j ((i, T1) :: del i env)) own1 o)) (hg1 : PG X (.Name x px) (gName i)) (hg2 : PG X (.Name y py) (gName j)) (hiN : i < N := by decide) (hjN : j < N := by decide) (hfi : freeO i own1 = true := by rfl) (hfj : freeO j own1 = true := by rfl)
    (hs : swapsWithSole [.Tuple [.Name x px, .Name y py] kt pt] e pos.line X.env = pure false := by rfl) (hw : swappedStores [.Tuple [.Name x px, .Name y py] kt pt] e X.env = pure none := by rfl) (h1 : (assignEach [.Tuple [.Name x px, .Name y py] kt pt] X.env).map (·.2) = [assign (.Tuple [.Name x px, .Name y py] kt pt) X.env] := by rfl)
    (ha1 : (assignEach (.Name x px :: [.Name y py]) X.env).map (·.2) = assign (.Name x px) X.env :: (assignEach [.Name y py] X.env).map (·.2) := by rfl) (ha2 : (assignEach (.Name y py :: []) X.env).map (·.2) = assign (.Name y py) X.env :: (assignEach [] X.env).map (·.2) := by rfl)
    (hn : (assignEach [.Name x px, .Name y py] X.env).length = 2 := by rfl) (hst : (assignEach [.Name x px, .Name y py] X.env).findIdx? (·.1) = none := by rfl) :
    PSs X (.Assign [.Tuple [.Name x px, .Name y py] kt pt] e pos :: rest) (tS N env own o) :=
  PSs.imp (pss_cons (ps_asg he (pg_tup (n := 2) hc (pgs_cons (hs := ha1) hg1 (pgs_cons (hs := ha2) hg2 pgs_nil)) hn hst) hs hw h1) pss_any) fun D σ H ⟨W, S, q⟩ => ⟨W, S, fun v T W1 H1 s1 S1 ⟨T1, T2, eT, r⟩ i1 => by
    subst eT
    obtain ⟨g, xs, rfl, hq, hl, pr⟩ := i1.sq_inv
    obtain ⟨v1, v2, rfl, r1, r2⟩ := two_its pr
    have hq1 : Sq false H1 g [v1, v2] := hq.1.mv fun o h => S1.vw.sub g o h
    exact ⟨g, _, rfl, hq1.T, rfl, v1, _, rfl, v2, _, rfl, rfl, _, hrest T1 T2 r, W1, (S1.set hiN hfi r1).set hjN hfj r2, q.mono s1⟩⟩
theorem its_four {H : Hp} {T U V' Z : Tr} {vs : List V} (p : Paired (It H) [T, U, V', Z] vs) : ∃ a b c d, vs = [a, b, c, d] ∧ It H T a ∧ It H U b ∧ It H V' c ∧ It H Z d := by
  cases p with
  | cons r1 p => cases p with
    | cons r2 p => cases p with
      | cons r3 p => cases p with
        | cons r4 p =>
          cases p
          exact ⟨_, _, _, _, rfl, r1, r2, r3, r4⟩
/-- a, b, c, d = a list of four that is drawn -/
theorem s_unpD4 {i j l m : Nat} {x y z u : Str} {px py pz pu pt : Pos} {kt : _} {e : Expr} {R : Tr → Tr → Tr → Tr → Prop} (hc : X.calm = true) (hN : X.N.Nodup) (he : PE X e (tD N env own (fun T => ∃ T1 T2 T3 T4, T = .sq true [T1, T2, T3, T4] ∧ R T1 T2 T3 T4) own1)) (hrest : ∀ T1 T2 T3 T4, R T1 T2 T3 T4 → PSs X rest (tS N ((m, T4) :: del m ((l, T3) :: del l ((j, T2) :: del j ((i, T1) :: del i env)))) own1 o))
    (hg1 : PG X (.Name x px) (gName i)) (hg2 : PG X (.Name y py) (gName j)) (hg3 : PG X (.Name z pz) (gName l)) (hg4 : PG X (.Name u pu) (gName m)) (hiN : i < N := by decide) (hjN : j < N := by decide) (hlN : l < N := by decide) (hmN : m < N := by decide) (hfi : freeO i own1 = true := by rfl) (hfj : freeO j own1 = true := by rfl) (hfl : freeO l own1 = true := by rfl) (hfm : freeO m own1 = true := by rfl)
    (hs : swapsWithSole [.Tuple [.Name x px, .Name y py, .Name z pz, .Name u pu] kt pt] e pos.line X.env = pure false := by rfl) (hw : swappedStores [.Tuple [.Name x px, .Name y py, .Name z pz, .Name u pu] kt pt] e X.env = pure none := by rfl) (h1 : (assignEach [.Tuple [.Name x px, .Name y py, .Name z pz, .Name u pu] kt pt] X.env).map (·.2) = [assign (.Tuple [.Name x px, .Name y py, .Name z pz, .Name u pu] kt pt) X.env] := by rfl)
    (ha1 : (assignEach (.Name x px :: [.Name y py, .Name z pz, .Name u pu]) X.env).map (·.2) = assign (.Name x px) X.env :: (assignEach [.Name y py, .Name z pz, .Name u pu] X.env).map (·.2) := by rfl) (ha2 : (assignEach (.Name y py :: [.Name z pz, .Name u pu]) X.env).map (·.2) = assign (.Name y py) X.env :: (assignEach [.Name z pz, .Name u pu] X.env).map (·.2) := by rfl) (ha3 : (assignEach (.Name z pz :: [.Name u pu]) X.env).map (·.2) = assign (.Name z pz) X.env :: (assignEach [.Name u pu] X.env).map (·.2) := by rfl) (ha4 : (assignEach (.Name u pu :: []) X.env).map (·.2) = assign (.Name u pu) X.env :: (assignEach [] X.env).map (·.2) := by rfl)
    (hn : (assignEach [.Name x px, .Name y py, .Name z pz, .Name u pu] X.env).length = 4 := by rfl) (hst : (assignEach [.Name x px, .Name y py, .Name z pz, .Name u pu] X.env).findIdx? (·.1) = none := by rfl) :
    PSs X (.Assign [.Tuple [.Name x px, .Name y py, .Name z pz, .Name u pu] kt pt] e pos :: rest) (tS N env own o) :=
  PSs.imp (pss_cons (ps_asg he (pg_unl (n := 4) hc (pgs_cons (hs := ha1) hg1 (pgs_cons (hs := ha2) hg2 (pgs_cons (hs := ha3) hg3 (pgs_cons (hs := ha4) hg4 pgs_nil)))) hn hst) hs hw h1) pss_any) fun D σ H ⟨W, S, q⟩ => ⟨W, S, fun v T W1 H1 s1 S1 ⟨T1, T2, T3, T4, eT, r⟩ i1 => by
    subst eT
    obtain ⟨g, xs, rfl, hq, hl, pr⟩ := i1.sq_inv
    obtain ⟨v1, v2, v3, v4, rfl, r1, r2, r3, r4⟩ := its_four pr
    have hq1 : Sq true H1 g [v1, v2, v3, v4] := hq.1.mv fun o h => S1.vw.sub g o h
    exact ⟨g, _, rfl, hq1.L, rfl, v1, _, rfl, v2, _, rfl, v3, _, rfl, v4, _, rfl, rfl, _, hrest T1 T2 T3 T4 r, W1, (((S1.set hiN hfi r1).set hjN hfj r2).set hlN hfl r3).set hmN hfm r4, q.mono s1⟩⟩
end
end LwB
namespace LwB
open PySem PySem.Spec PyProof.Rows L2 IqX RvT EnS TL NsT CpN
variable [LwB.KC]
/-! ### a comprehension over what is drawn; what is drawn, sorted -/
section
variable {N : Nat} {env : EnvT}
theorem lf_coreV {K : PySem.W.Frag} {k : Nat} {t : Bool} {ts : List Tr} {Pr : Tr → Prop} {c : Tr → Bool} {F : Tr → Tr} {tt : TT} (hk : k < N) (hP : ∀ T ∈ ts, Pr T) {σ : L2.St} {W H H1 : Hp} {Q : VK} {v : V}
    (htt : ∀ σ H T (Kb : Bool → Hp → Prop) W, Pr T → Vw W H → Ev N ((k, T) :: del k env) σ W → (∀ H', Same H H' → Kb (c T) H') → tt σ H Kb) (x : Vw W H) (ev : Ev N env σ W)
    (q : ∀ H' g vs, Same H H' → H g = none → H' g = some (.lst vs) → vs.length ≤ 1000000 → Paired (It (rm (vw W H H') g)) ((ts.filter c).map F) vs → Q (.ref g) H') (s1 : Same H H1) (i1 : It (vw W H H1) (.sq t ts) v) :
    tLc (fun _ _ R => ∃ (b : Bool) (a : Addr), v = .ref a ∧ (∃ xs, IqX.SqB K b H1 a xs) ∧ R (if b = true then Itl K a else Itt K a) H1) (gName k) tt (tFam N k (del k env) Pr F) [k] σ H Q := by
  obtain ⟨a, xs, rfl, ha, la, pa⟩ := i1.sq_inv
  have xn := x.next s1
  have evn : Ev N (del k env) σ (vw W H H1) := (ev.sub fun _ h => del_sub h).mv (vw_keep x)
  have hq : Sq t H1 a xs := ha.1.mv fun o e => xn.sub a o e
  refine ⟨t, a, rfl, ⟨xs, hq.B⟩, fun D nD => ?_⟩
  have domB : ∀ {H2 : Hp}, Same H1 H2 → (∃ ys, H2 D = some (.lst ys)) → ∀ b, H2 b = none → upd H1 D (.lst []) b = none := fun {H2} sm ⟨ys, eD⟩ b hb => by
    by_cases hbD : b = D
    · subst hbD
      rw [eD] at hb
      cases hb
    · rw [upd_ne hbD]
      exact sm.free hb
  have WD : vw W H H1 D = none := xn.off nD
  have hmono : ∀ H2 b o, vw W H H1 b = some o → vw (vw W H H1) (upd H1 D (.lst [])) H2 b = some o := fun H2 b o e => by
    have h1 := xn.sub b o e
    have hbD : b ≠ D := by
      rintro rfl
      rw [nD] at h1
      cases h1
    rw [vw_old (o := o) (by rw [upd_ne hbD]; exact h1)]
    exact e
  have hV : ∀ H2, Same H1 H2 → (∃ ys, H2 D = some (.lst ys)) → Vw (vw (vw W H H1) (upd H1 D (.lst [])) H2) H2 := fun H2 sm eD => by
    refine ⟨fun b o e => ?_, fun b o e => ?_, xn.good.mv sm⟩
    · rcases dom_cases (upd H1 D (.lst [])) b with hb | ⟨u, hb⟩
      · rw [vw_new hb] at e
        exact e
      · rw [vw_old hb] at e
        exact sm b o (xn.sub b o e)
    · rcases dom_cases (upd H1 D (.lst [])) b with hb | ⟨u, hb⟩
      · rw [vw_new hb]
        exact .inl e
      · by_cases hbD : b = D
        · subst hbD
          obtain ⟨ys, e2⟩ := eD
          rw [e2] at e
          cases e
          exact .inr ⟨ys, rfl⟩
        · rw [vw_old hb]
          rw [upd_ne hbD] at hb
          have e3 := sm b u hb
          rw [e] at e3
          cases e3
          exact xn.all b o hb
  refine lc_mf (K := K) ts (fun T => if c T = true then some (F T) else none) (fun H' z v => It (vw (vw W H H1) (upd H1 D (.lst [])) H') z v) nD hq la (paired_len pa) ?_ ?_ ?_ ?_
  · exact fun Ha Hb z v' s r => r.mv (vw_mono s)
  · intro Ha z v' ys o sm e r
    refine r.mv fun b o' e' => ?_
    rcases dom_cases (upd H1 D (.lst [])) b with hb | ⟨u, hb⟩
    · rw [vw_new hb] at e' ⊢
      rw [upd_ne]
      · exact e'
      · rintro rfl
        rw [upd_same] at hb
        cases hb
    · rw [vw_old hb] at e' ⊢
      exact e'
  · intro i T z H2 C C0 hT hz sm eD yes no
    have iz := paired_both pa hT hz
    have hp := hP T (List.mem_of_getElem? hT)
    refine ⟨?_, ?_⟩
    · show ((wipe σ [k]).set k (some z)).set k none = wipe σ [k]
      show ((σ.set k none).set k (some z)).set k none = σ.set k none
      rw [List.set_set, List.set_set]
    · have evk : ∀ H3, Ev N ((k, T) :: del k env) ((σ.set k none).set k (some z)) (vw (vw W H H1) (upd H1 D (.lst [])) H3) := fun H3 => ((evn.mv (hmono H3)).put fun _ h => del_ne h).set hk (fun _ h => del_ne h) (iz.mv (hmono H3))
      refine htt _ H2 T _ _ hp (hV H2 sm eD) (evk H2) fun H3 s3 => ?_
      have eD3 : ∃ ys, H3 D = some (.lst ys) := by
        obtain ⟨ys, e⟩ := eD
        exact ⟨ys, s3 _ _ e⟩
      by_cases hc : c T = true
      · rw [hc]
        refine iteT ⟨vw (vw W H H1) (upd H1 D (.lst [])) H3, T, hp, hV H3 (sm.trans s3) eD3, evk H3, fun H' v' s' i' => ?_⟩
        rw [vw_two (domB (sm.trans s3) eD3) s'] at i'
        exact yes v' H' _ (s3.trans s') (if_pos hc) i'
      · have hc' : c T = false := by simpa using hc
        rw [hc']
        exact iteF (no H3 s3 (if_neg hc))
  · intro H2 ys sm eD p2 hyl
    have nDH : H D = none := s1.free nD
    have em := fm_fm c F ts
    rw [em] at p2
    refine q H2 D ys (s1.trans sm) nDH eD (by omega) (paired_imp p2 fun _ _ r => r.mv fun b o e => ?_)
    have hbD : b ≠ D := by
      rintro rfl
      rw [vw_old (o := .lst []) upd_same, WD] at e
      cases e
    rw [rm_ne hbD, ← vw_trans s1 sm]
    rcases dom_cases H1 b with hb | ⟨u, hb⟩
    · rw [vw_new (by rw [upd_ne hbD]; exact hb)] at e
      rw [vw_new hb]
      exact e
    · rw [vw_old (o := u) (by rw [upd_ne hbD]; exact hb)] at e
      rw [vw_old hb]
      exact e
end
section
variable {N : Nat} {env : EnvT}
variable {X : Cx} {own own1 own' : OwnT} {pos pos' p : Pos} {e : Expr}
/-- [elt for y in what is drawn] -/
theorem de_map {elt iter : Expr} {scope : Scope} {tp : Pos} {y : Str} {k : Nat} {t : Bool} {R : List Tr → Prop} (Pr : Tr → Prop) (F : Tr → Tr) (hc : X.calm = true) (hN : X.N.Nodup) (hit : PE X iter (tD N env own (fun T => ∃ ts, T = .sq t ts ∧ R ts) own1)) (ok : BlkOk X.N X.env.scope scope [(y, k)]) (hP : ∀ ts, R ts → ∀ T ∈ ts, Pr T)
    (hg : ∀ (s : Shared) (H : Hp) (C : Addr) (cl : List (Str × Addr)) (fp : List Addr), PG (X.blk s H scope (compEnvC scope cl C X.env) fp) (.Name y tp) (gName k))
    (he : ∀ (s : Shared) (H : Hp) (C : Addr) (cl : List (Str × Addr)) (fp : List Addr) T, Pr T → PE (X.blk s H scope (compEnvC scope cl C X.env) fp) elt (tLe N ((k, T) :: del k env) (F T))) (hk : k < N := by decide) (hs : ∀ x, foldedSetIterable iter X.env x = pure x := by intro _; rfl) :
    PE X (.ListComp elt [⟨.Name y tp, iter, [], 0⟩] scope pos) (tD N env own (fun T => ∃ ts, T = .sq true (ts.map F) ∧ R ts) own1) :=
  PE.imp (pe_lc (own := [(y, k)]) (g := gName k) hc hN (pi_seq hit) ok hg (fun _ _ _ _ _ => pts_nil) (fun s H C cl fp => le_fam (Pr := Pr) (F := F) (he s H C cl fp)) hs) fun σ H Q ⟨W, S, q⟩ => ⟨W, S, fun v T W1 H1 s1 S1 ⟨ts, eT, r⟩ i1 => by
    subst eT
    have ef : ts.filter (fun _ => true) = ts := List.filter_eq_self.mpr fun _ _ => rfl
    exact lf_coreV (K := X.K) (N := N) (env := env) (c := fun _ => true) (F := F) hk (hP ts r) (fun σ H T Kb W _ _ _ q => q H (Same.refl H)) S1.vw S1.ev (fun H2 g vs s2 ng eg hl p => by
      rw [ef] at p
      have e1 : LwB.vw W1 H1 H2 g = some (.lst vs) := by rw [vw_new ng]; exact eg
      exact q _ _ _ H2 (s1.trans S1.keep) (S1.step s2) ⟨ts, rfl, r⟩ (It.sq (.lst e1) hl (paired_imp p fun _ _ r => r.mv fun a o e => rm_sub e))) (Same.refl H1) (i1.mv (vw_keep S1.vw))⟩
/-- sorted(a drawn list of texts) -/
theorem de_sortT {R : List Str → Prop} (hm : X.mg "sorted" = none) (he : PE X e (tD N env own (fun T => ∃ ss, T = trs true ss ∧ R ss) own1)) (hl : ∀ ss, R ss → ss.length < 64) (hg : Gl X "sorted" := by rfl) (hs : starEach [e] X.env = (false, eval e X.env) :: starEach [] X.env := by rfl) :
    PE X (.Call (.Name "sorted" p) [e] [] pos) (tD N env own (fun T => ∃ ss ys, T = trs true ys ∧ R ss ∧ ys.Perm ss ∧ sortedS ys = true) own1) :=
  PE.imp (pe_callB cr_sortedS hg hm (by decide +kernel) (pa_cons (hs := hs) he pa_nil) (he := hs)) fun σ H Q ⟨W, S, q⟩ => ⟨W, S, fun v T W1 H1 s1 S1 ⟨ss, eT, r⟩ i1 => by
    subst eT
    obtain ⟨a, xs, rfl, ha, la, pa⟩ := i1.sq_inv
    have ex := strs_its pa
    subst ex
    refine ⟨a, ss, rfl, SqL.of (S1.vw.sub _ _ (ha.2 rfl)), hl ss r, fun ys p h1 h2 np => ?_⟩
    have s2 := same_new (o := HO.lst (ys.map V.str)) np
    have e1 : LwB.vw W1 H1 (upd H1 p (.lst (ys.map V.str))) p = some (.lst (ys.map V.str)) := by rw [vw_new np]; exact upd_same
    have hly : ys.length ≤ 1000000 := by rw [h1.length_eq]; have := hl ss r; omega
    exact q _ _ _ _ (s1.trans S1.keep) (S1.step s2) ⟨ss, ys, rfl, r, h1, h2⟩ (It.sq (.lst e1) (by rw [List.length_map]; exact hly) (its_strs _ ys))⟩
end
section
variable {X : Cx} {N : Nat} {env : EnvT} {own own1 : OwnT} {rest body : List Stmt} {pos tp : Pos} {o : Oc} {iter : Expr} {y : Str} {k : Nat}
/-- for y in what is drawn -/
theorem s_forD {t : Bool} {R : List Tr → Prop} (hc : X.calm = true) (hp : PassesOwn (model X.prog X.w) X.A X.env X.xe) (hi : PE X iter (tD N env own (fun T => ∃ ts, T = .sq t ts ∧ R ts) own1)) (hg : PG X (.Name y tp) (gName k))
    (hall : ∀ ts, R ts → ∃ (I : Nat → EnvT) (O : Nat → OwnT), SubE (I 0) env ∧ O 0 = own1 ∧ (∀ j, freeO k (O j) = true) ∧ (∀ j T, ts[j]? = some T → Turn X N body o ((k, T) :: del k (I j)) (O j) (I (j + 1)) (O (j + 1))) ∧ PSs X rest (tS N (I ts.length) (O ts.length) o)) (hk : k < N := by decide)
    (hs : ∀ x, foldedSetIterable iter X.env x = pure x := by intro _; rfl) : PSs X (.For (.Name y tp) iter body [] pos :: rest) (tS N env own o) :=
  PSs.imp (pss_cons (ps_for hp hc (pi_seq hi) hg pss_any hs) pss_any) fun D σ H ⟨W, S, q⟩ => ⟨W, S, fun v T W1 H1 s1 S1 ⟨ts, eT, r⟩ i1 => by
    subst eT
    obtain ⟨I, O, h0, hO, hf, hb, hrest⟩ := hall ts r
    obtain ⟨a, xs, rfl, ha, la, pa⟩ := i1.sq_inv
    have hq1 : Sq t W1 a xs := ha.1
    subst hO
    refine ⟨t, a, rfl, ⟨xs, (hq1.mv fun o e => S1.vw.sub a o e).B⟩, ?_⟩
    refine for_seq (g := gName k) (tb := fun D σ H => ∃ t, PSs X body t ∧ t D σ H) (D := { D with nx := fun σ H => ∃ t, PSs X rest t ∧ t D σ H }) (K := X.K) (b := t) (a := a) (xs := xs) (fun j σ' H' => ∃ W', Same W1 W' ∧ Sv N (I j) (O j) σ' W' H') ⟨_, Same.refl _, S1.sub h0.mem fun _ h => h⟩ (fun j σ' H' _ ⟨W', s', S'⟩ => (hq1.mv fun o e => S'.vw.sub a o (s' a o e)).B) ?_ ?_
    · rintro j x σ' H' hx ⟨W', s', S'⟩
      obtain ⟨T, hT, iT⟩ := paired_get pa hx
      exact (hb j T hT).meets (S'.set hk (hf j) (iT.mv s')) q (s1.trans s') fun σ2 W2 H2 s2 S2 => ⟨W2, s'.trans s2, S2⟩
    · rintro σ' H' ⟨W', s', S'⟩
      rw [← paired_len pa] at S'
      exact ⟨_, hrest, W', S', q.mono (s1.trans s')⟩⟩
end
section
variable {X : Cx} {N : Nat} {env : EnvT} {own own1 own' : OwnT} {pos : Pos}
theorem des_impq {es : List Expr} {R R' : List Tr → Prop} (h : PA X es (tDs N env own R own')) (i : ∀ Ts, R Ts → R' Ts) : PA X es (tDs N env own R' own') :=
  PA.imp h fun σ H Q ⟨W, S, q⟩ => ⟨W, S, fun vs Ts W1 H1 s1 S1 r p => q vs Ts W1 H1 s1 S1 (i Ts r) p⟩
/-- [.., ..], drawn -/
theorem de_lst {es : List Expr} {R : List Tr → Prop} (h : PA X es (tDs N env own R own1)) (hl : ∀ Ts, R Ts → Ts.length ≤ 1000) : PE X (.List es pos) (tD N env own (fun T => ∃ Ts, T = .sq true Ts ∧ R Ts) own1) :=
  PE.imp (pe_lst h) fun σ H Q ⟨W, S, q⟩ => ⟨W, S, fun vs Ts W1 H1 s1 S1 r i1 => by
    have hlen : vs.length ≤ 1000 := by rw [← Paired.length i1]; exact hl Ts r
    refine ⟨Nat.le_trans hlen (by decide), fun p np => ?_⟩
    have s2 := same_new (o := HO.lst vs) np
    exact q _ _ _ _ (s1.trans S1.keep) (S1.step s2) ⟨Ts, rfl, r⟩ (It.sq (.lst (by rw [vw_new np]; exact upd_same)) (by omega) (paired_imp i1 fun _ _ z => z.mv S1.keep))⟩
/-- xs + what is drawn, lists -/
theorem de_catL {a b : Expr} {Ts : List Tr} {P2 : Tr → Prop} (h1 : PE X a (tD N env own (fun T => T = .sq true Ts) own1)) (h2 : PE X b (tD N env own1 P2 own')) (i2 : ∀ T, P2 T → ∃ Us : List Tr, T = .sq true Us ∧ Us.length ≤ 1000) (hl : Ts.length ≤ 1000) :
    PE X (.BinOp a .Add b pos) (tD N env own (fun T => ∃ Us, T = .sq true (Ts ++ Us) ∧ P2 (.sq true Us)) own') :=
  PE.imp (pe_op op_cat h1 h2) fun σ H Q ⟨W, S, q⟩ => ⟨W, S, fun v T W1 H1 s1 S1 p1 r1 => ⟨W1, S1, fun u U W2 H2 s2 S2 p2 r2 => by
    subst p1
    obtain ⟨Us, rfl, hu⟩ := i2 U p2
    obtain ⟨a, xs, rfl, ha, la, pa⟩ := (r1.mv s2).sq_inv
    obtain ⟨b, ys, rfl, hb, lb, pb⟩ := r2.sq_inv
    have n1 := paired_len pa
    have n2 := paired_len pb
    refine ⟨a, b, xs, ys, rfl, rfl, S2.vw.sub _ _ (ha.2 rfl), S2.vw.sub _ _ (hb.2 rfl), Nat.le_trans (by omega : xs.length + ys.length ≤ 1000000) (by decide), fun p np => ?_⟩
    have s3 := same_new (o := HO.lst (xs ++ ys)) np
    exact q _ _ _ _ ((s1.trans s2).trans S2.keep) (S2.step s3) ⟨Us, rfl, p2⟩ (It.sq (.lst (by rw [vw_new np]; exact upd_same)) (by rw [List.length_append]; omega) (paired_imp (paired_append pa pb) fun _ _ z => z.mv S2.keep))⟩⟩
end
end LwB
namespace K13
open PySem PySem.Spec PyProof.Rows L2 IqX RvT LwB EnS TL NsT CpN
variable [LwB.KC]
section
variable {P : Program} {w : World} {K : PySem.W.Frag} {mg : Str → Option Value} {base : Heap}
theorem dep_trs (t : Bool) (x : List Str) : (trs t x).dep ≤ 1 := by
  show Tr.depAll (x.map Tr.str) + 1 ≤ 1
  have : ∀ l : List Str, Tr.depAll (l.map Tr.str) = 0 := fun l => by
    induction l with
    | nil => rfl
    | cons a l ih2 =>
      show max (Tr.dep (.str a)) (Tr.depAll (l.map Tr.str)) = 0
      rw [ih2]
      rfl
  rw [this]
  exact Nat.le_refl _
theorem dep_rows (t u : Bool) (A : Words) : (trowsX t u A).dep ≤ 2 := by
  show Tr.depAll (A.map (trs u)) + 1 ≤ 2
  have : Tr.depAll (A.map (trs u)) ≤ 1 := by
    induction A with
    | nil => exact Nat.zero_le _
    | cons x A ih =>
      show max (trs u x).dep (Tr.depAll (A.map (trs u))) ≤ 1
      have h1 := dep_trs u x
      omega
  omega
theorem name_nm {z : Str} (h : NameOk z) : isNm z = true := by
  obtain ⟨h1, h2, h3⟩ := h
  have hl : (tl z).length = z.length := by
    show z.cps.toList.length = z.cps.size
    rw [Array.length_toList]
  rw [hl] at h1 h2
  show ((decide (1 ≤ z.length) && decide (z.length ≤ 8)) && (tl z).all isLow) = true
  rw [decide_eq_true h1, decide_eq_true h2, Bool.true_and, Bool.true_and, List.all_eq_true]
  intro c hc
  have := h3 c hc
  show (decide (97 ≤ c) && decide (c ≤ 122)) = true
  rw [Bool.and_eq_true]
  exact ⟨decide_eq_true this.1, decide_eq_true this.2⟩
theorem name_len {z : Str} (h : NameOk z) : z.length ≤ 8 := by
  obtain ⟨_, h2, _⟩ := h
  have hl : (tl z).length = z.length := by
    show z.cps.toList.length = z.cps.size
    rw [Array.length_toList]
  rwa [hl] at h2
theorem log_ok {es : List Str} (h : ∀ e ∈ es, NameOk e) : isLogT (trs false es) = true := by
  show (es.map Tr.str).all isNameT = true
  rw [List.all_map, List.all_eq_true]
  exact fun e he => name_nm (h e he)
theorem base_trows {W : Words} (n : NmW W) : isBaseT (trows false W) = decide (bs W = W) := by
  show ((W.map (trs false)).all isLogT && decide (bs ((W.map (trs false)).map unrow) = (W.map (trs false)).map unrow)) = _
  have h1 : (W.map (trs false)).all isLogT = true := by
    rw [List.all_map, List.all_eq_true]
    exact fun x hx => log_ok (n x hx)
  have h2 : (W.map (trs false)).map unrow = W := unrows_trows false W
  rw [h1, h2, Bool.true_and]
theorem th_rows {b c : Bool} {W : Words} (h77 : W.length < 77) (n : NmW W) : ThOk (trowsX b c W) := by
  refine ⟨fun b' ts e => ?_, fun b' ts U c' us z e hU hus hz => ?_⟩
  · cases e
    rw [List.length_map]
    exact h77
  · cases e
    obtain ⟨x, hx, rfl⟩ := List.mem_map.mp hU
    cases hus
    obtain ⟨a, ha, e⟩ := List.mem_map.mp hz
    cases e
    exact Nat.le_trans (name_len (n x hx _ ha)) (by decide)
structure Br13 (i : List Str × Words) : Prop where
  nm : NamesOk i.1
  pos : 0 < i.1.length
  six : i.1.length ≤ 6
  few : i.2.length ≤ 24
  gd : ∀ x ∈ i.2, Gd i.1 8 x
def scNames : Scope := { kind := .function, names := [(Str.ofString ".0", .local), (Str.ofString "_law_own", .cell), (Str.ofString "_law_due", .cell)], isGenerator := false, isCoroutine := false }
def isStrIn (l : List Str) (T : Tr) : Prop := ∃ z, T = .str z ∧ z ∈ l
theorem map_strIn {l : List Str} : ∀ T ∈ l.map Tr.str, isStrIn l T := fun T h => by
  obtain ⟨z, hz, e⟩ := List.mem_map.mp h
  exact ⟨z, e.symm, hz⟩
theorem filter_strs (c : Str → Bool) (l : List Str) : (l.map Tr.str).filter (fun T => c (unstr T)) = (l.filter c).map Tr.str := by
  rw [List.filter_map]
  rfl
/-- does e stand in a word -/
def inSome (D : Words) (e : Str) : Bool := !(((D.map (trs false)).filter fun T => decide (e ∈ unrow T)).map id).isEmpty
theorem inSome_iff {D : Words} {e : Str} : inSome D e = true ↔ e ∈ D.flatten := by
  unfold inSome
  rw [List.map_id, List.mem_flatten, Bool.not_eq_true', List.isEmpty_eq_false_iff_exists_mem]
  constructor
  · rintro ⟨T, hT⟩
    obtain ⟨h1, h2⟩ := List.mem_filter.mp hT
    obtain ⟨x, hx, rfl⟩ := List.mem_map.mp h1
    rw [unrow_trs] at h2
    exact ⟨x, hx, of_decide_eq_true h2⟩
  · rintro ⟨x, hx, he⟩
    exact ⟨trs false x, List.mem_filter.mpr ⟨List.mem_map.mpr ⟨x, hx, rfl⟩, by rw [unrow_trs]; exact decide_eq_true he⟩⟩
theorem names_eq {D : Words} {ss : List Str} (h : ∀ e ∈ D.flatten, e ∈ ss) : (srtS ss).filter (inSome D) = srtS D.flatten := by
  refine asc_unique ((srtS_asc ss).sublist List.filter_sublist) (srtS_asc _) fun e => ?_
  rw [List.mem_filter, srtS_mem, srtS_mem, inSome_iff]
  exact ⟨fun h => h.2, fun he => ⟨h e he, he⟩⟩
theorem names_few {D : Words} {ss : List Str} (h : ∀ e ∈ D.flatten, e ∈ ss) (h6 : ss.length ≤ 6) : NamesFew D := by
  obtain ⟨n, m⟩ := addS_all D.flatten [] List.nodup_nil
  refine Nat.le_trans (nodup_sub_len n fun x hx => ?_) (Nat.le_trans h6 (by decide))
  rcases (m x).mp hx with h1 | h1
  · cases h1
  · exact h x h1
end
end K13
namespace K13
open PySem PySem.Spec PyProof.Rows L2 IqX RvT LwB EnS TL NsT CpN
variable [LwB.KC]
section
variable {P : Program} {w : World} {K : PySem.W.Frag} {mg : Str → Option Value} {base : Heap}
abbrev slN : List Str := ["_law_box_here", "_law_tags", "_law_rows", "_law_due", "_law_soft", "_law_got", "_law_names_so", "_law_turn", "_law_row", "_law_bent", "_law_own"]
theorem rev_rows (V : Words) : Tr.sq true ((V.map (trs false)).reverse) = trows true V.reverse := by
  show _ = Tr.sq true (V.reverse.map (trs false))
  rw [List.map_reverse]
theorem cat_take (V : Words) : Tr.sq true (V.map (trs false) ++ (V.map (trs false)).take 1) = trows true (V ++ V.take 1) := by
  show _ = Tr.sq true ((V ++ V.take 1).map (trs false))
  rw [List.map_append, List.map_take]
theorem cat_one (V : Words) (es : List Str) : Tr.sq true (V.map (trs false) ++ [trs false es]) = trows true (V ++ [es]) := by
  show _ = Tr.sq true ((V ++ [es]).map (trs false))
  rw [List.map_append]
  rfl
theorem trows_inj {V U : Words} (h : trows true V = trows true U) : V = U := by
  have := congrArg unrows h
  rw [unrows_trows, unrows_trows] at this
  exact this
theorem tr_baseright {k : Nat} (hk : 4 ≤ k) (D : Df K mg "_law_base_right" s__law_base_right ["_law_box_here", "_law_tags", "_law_rows"]) (B : Bn mg) (OE : Ok P w K mg base 3 "_law_event_row" ["_law_box_here", "_law_tags", "_law_most"] spRow)
    (OM : Ok P w K mg base 2 "_law_least" ["_law_rows"] (TLeast true)) (OL : Ok P w K mg base 3 "_law_lists" ["_law_matter"] (TLists 2)) (OQ : Ok P w K mg base 4 "_law_same" ["_law_got", "_law_due"] (TSame 3))
    (OB0 : Ok P w K mg base 3 "base_of" ["logs"] (TBase false false)) (OB1 : Ok P w K mg base 3 "base_of" ["logs"] (TBase true true)) (DB : Df K mg "base_of" s_base_of ["logs"]) (OI : Ok P w K mg base 4 "is_base" ["thing"] TIsBase) (DI : Df K mg "is_base" s_is_base ["thing"])
    (ON0 : Ok P w K mg base 1 "names_in" ["base"] (TNamesIn false false)) (ON1 : Ok P w K mg base 1 "names_in" ["base"] (TNamesIn true true)) (DN : Df K mg "names_in" s_names_in ["base"])
    (OD0 : Ok P w K mg base 2 "does" ["base", "log"] (TDoes false false false)) (OD1 : Ok P w K mg base 2 "does" ["base", "log"] (TDoes true true true)) (DD : Df K mg "does" s_does ["base", "log"]) (ODn : Ok P w K mg base 2 "_law_done" ["_law_words_so", "_law_row"] (TDone false false)) (hk' : k = 4) :
    Ok P w K mg base (k + 1) "_law_base_right" ["_law_box_here", "_law_tags", "_law_rows"] (spD (fun i : List Str × Words => [trs true i.1, trows true i.2]) Br13 (fun _ => 300) fun _ T => T = .bl true) := by
  subst hk'
  refine (D.okD sc__law_base_right (fun _ => rfl) fun f cdv Ar outer s H E hr b n i hi hn => ?_).nolD (fun i T _ e => by rw [e]; rfl)
  obtain ⟨ss, R⟩ := i
  have nd := sc__law_base_right.nd
  have hn' : n + 300 < 500000000 := hn
  have hr1 : Room 1 _ := hr.mono (by omega)
  have hr2 : Room 2 _ := hr.mono (by omega)
  have hr3 : Room 3 _ := hr.mono (by omega)
  have hpos : 0 < ss.length := hi.pos
  have hsix : ss.length ≤ 6 := hi.six
  have hfew : R.length ≤ 24 := hi.few
  have gdR : ∀ x ∈ R, Gd ss 8 x := hi.gd
  have gdD : ∀ x ∈ bs R, Gd ss 8 x := fun x hx => gdR x (bs_sub hx)
  have dl : (bs R).length ≤ 24 := Nat.le_trans (bs_len R) hfew
  have nR : NmW R := nmw_gd hi.nm gdR
  have nD : NmW (bs R) := nmw_gd hi.nm gdD
  have shR : ∀ x ∈ R, x.length ≤ 1000 := fun x hx => Nat.le_trans (gdR x hx).1 (by decide)
  have shD : ∀ x ∈ bs R, x.length ≤ 1000 := fun x hx => Nat.le_trans (gdD x hx).1 (by decide)
  have bb : bs (bs R) = bs R := bs_self (bs_srt R) (bs_ac R)
  have hfl : ∀ e ∈ (bs R).flatten, e ∈ ss := fun e he => by
    obtain ⟨x, hx, hex⟩ := List.mem_flatten.mp he
    exact (gdD x hx).2 e hex
  have kwB : Kw1 "base_of" s_base_of ["logs"] := fun _ _ _ _ _ _ _ => rfl
  have kwI : Kw1 "is_base" s_is_base ["thing"] := fun _ _ _ _ _ _ _ => rfl
  have kwN : Kw1 "names_in" s_names_in ["base"] := fun _ _ _ _ _ _ _ => rfl
  have kwD : Kw2 "does" s_does ["base", "log"] ["log", "base"] := fun _ _ _ _ _ _ _ _ => rfl
  have r77 : R.length < 77 := by omega
  have d77 : (bs R).length < 77 := by omega
  refine s_unpD2 (i := 3) (j := 4) (R := fun T1 T2 => T1 = trows false (bs R) ∧ T2 = trowsX true true R) (own1 := [(0, .box b n)]) rfl nd rfl rfl (by first | exact .inl rfl | exact .inr rfl) (by first | exact .inl rfl | exact .inr rfl) (de_imp (de_of (le_tup (Ts := [trows false (bs R), trowsX true true R]) (les_cons (le_cT OM hr2 R ⟨r77, shR⟩ (les_cons (le_v (pv 2)) les_nil)) (les_cons (le_cT OL hr3 (trows true R) (dep_rows true false R) (les_cons (le_v (pv 2)) les_nil) (trows_lists true R)) les_nil)))) ?_) ?_ (pg_name (i := 3) nd rfl (by first | exact .inl rfl | exact .inr rfl)) (pg_name (i := 4) nd rfl (by first | exact .inl rfl | exact .inr rfl))
  · rintro T rfl
    exact ⟨_, _, rfl, rfl, rfl⟩
  rintro T1 T2 ⟨rfl, rfl⟩
  refine s_set (i := 5) (T := .sq true [trows false (bs R), trows false (bs R), trows false (bs R), .bl true, .bl false]) nd rfl (by first | exact .inl rfl | exact .inr rfl) (le_lst (les_cons (le_cT OB0 hr3 R r77 (les_cons (le_tuple (t := true) (ts := R.map (trs false)) B.tuple (le_v (pv 2))) les_nil)) (les_cons (le_kwT1 (T1 := trowsX true true R) OB1 DB kwB hr3 R r77 (lek_cons (le_v (pv 4)) lek_nil)) (les_cons (le_eq (le_cT OB0 hr3 (bs R) d77 (les_cons (le_v (pv 3)) les_nil)) (by show trows false (bs (bs R)) = _; rw [bb]))
    (les_cons (le_eq (le_cT OI hr (trows false (bs R)) (th_rows d77 nD) (les_cons (le_v (pv 3)) les_nil)) (by show Tr.bl (isBaseT (trows false (bs R))) = _; rw [base_trows nD, decide_eq_true bb])) (les_cons (le_kwT1 (T1 := trowsX true true (bs R)) OI DI kwI hr (trowsX true true (bs R)) (th_rows d77 nD) (lek_cons (le_cT OL hr3 (trows false (bs R)) (dep_rows false false (bs R)) (les_cons (le_v (pv 3)) les_nil) (trows_lists false (bs R))) lek_nil)) les_nil)))))) ?_
  have d1 := dep_rows false false (bs R)
  have d2 := dep_rows true true R
  refine s_ifF (kn_eq (kn_not (kn_val (b := true) (le_cT OQ hr (.sq true [trows false (bs R), trows false (bs R), trows false (bs R), .bl true, .bl false, trowsX true true R]) ?_ (les_cons (le_eq (le_cat (Ts := [trows false (bs R), trows false (bs R), trows false (bs R), .bl true, .bl false]) (Us := [trowsX true true R]) (le_v (pv 5)) (le_lst (les_cons (le_v (pv 4)) les_nil))) rfl) (les_cons (le_lst (les_cons (le_v (pv 3)) (les_cons (le_v (pv 3)) (les_cons (le_v (pv 3)) (les_cons le_bl (les_cons le_bl (les_cons (le_cT OL hr3 (trows true R) (dep_rows true false R) (les_cons (le_v (pv 2)) les_nil) (trows_lists true R)) les_nil))))))) les_nil))))) rfl) ?_
  · show max (trows false (bs R)).dep (max (trows false (bs R)).dep (max (trows false (bs R)).dep (max 0 (max 0 (max (trowsX true true R).dep 0))))) + 1 ≤ 3
    have d1 : (trows false (bs R)).dep ≤ 2 := d1
    omega
  have hs64 : ss.length < 64 := by omega
  have hsl : (srtS ss).length ≤ 6 := Nat.le_trans (srtS_len ss) hsix
  refine s_set (i := 6) (T := trs false (srtS (bs R).flatten)) nd rfl (by first | exact .inl rfl | exact .inr rfl) (le_eq (le_tuple (t := true) (ts := ((srtS ss).filter (inSome (bs R))).map Tr.str) B.tuple (le_eq (le_of (lf_filter (isStrIn (srtS ss)) (fun T => inSome (bs R) (unstr T)) id rfl nd (le_of (lf_sortT (ss := ss) (us := srtS ss) B.sorted (le_v (T := trs true ss) (pv 1)) hs64 (fun ys h1 h2 => srtS_perm hi.nm.2 h1 h2))) (blkOk_by (N := slN) (sc := defScope s__law_base_right) (by decide +kernel)) map_strIn
    (fun _ _ _ _ _ => pg_name (i := 10) nd rfl (by first | exact .inl rfl | exact .inr rfl)) (fun _ _ _ _ _ T ⟨e, he, hem⟩ => ?_) (fun _ _ _ _ _ T _ => le_v (pv 10)))) ?_)) ?_) ?_
  · subst he
    have nE : NameOk e := hi.nm.1 e (srtS_mem.mp hem)
    exact kn_cmp (op_neEK K hr.units) (le_of (lf_filter (isInX false (bs R)) (fun T => decide (e ∈ unrow T)) id rfl nd (le_v (T := trows false (bs R)) (pv 3)) (blkOk_by (N := slN) (sc := scNames) (by decide +kernel)) map_inX
      (fun _ _ _ _ _ => pg_name (i := 8) nd rfl (by first | exact .inl rfl | exact .inr rfl)) (fun _ _ _ _ _ U ⟨x, hx, hxm⟩ => by
        subst hx
        rw [unrow_trs]
        exact kn_inN (t := false) (ks := x) (room65 hr) (le_v (pv 10)) (le_v (T := trs false x) (pv 8)) nE (nD x hxm)) (fun _ _ _ _ _ U _ => le_v (pv 8)))) (le_lst les_nil) r_neE (nomark _)
  · rw [List.map_id, filter_strs]
  · rw [names_eq hfl]
    rfl
  have hNF := names_few hfl hsix
  refine s_ifF (kn_eq (kn_not (kn_val (b := true) (le_cT OQ hr (.sq true [trs false (srtS (bs R).flatten), trs false (srtS (bs R).flatten)]) ?_ (les_cons (le_lst (les_cons (le_cT ON0 hr1 (bs R) hNF (les_cons (le_v (pv 3)) les_nil)) (les_cons (le_kwT1 (T1 := trowsX true true (bs R)) ON1 DN kwN hr1 (bs R) hNF (lek_cons (le_cT OL hr3 (trows false (bs R)) (dep_rows false false (bs R)) (les_cons (le_v (pv 3)) les_nil) (trows_lists false (bs R))) lek_nil)) les_nil))) (les_cons (le_eq (le_of (lf_rep (Ts := [trs false (srtS (bs R).flatten)]) (k := 2) (le_lst (les_cons (le_v (pv 6)) les_nil)))) rfl) les_nil))))) rfl) ?_
  · show max (trs false (srtS (bs R).flatten)).dep (max (trs false (srtS (bs R).flatten)).dep 0) + 1 ≤ 3
    have := dep_trs false (srtS (bs R).flatten)
    omega
  refine s_forR (n := 4) (k := 7) (fun _ => [(1, trs true ss), (2, trows true R), (3, trows false (bs R))]) (fun j => [(0, .box b (n + 50 * j))]) rfl PassesOwn.never B.range le_int (by decide) (pg_name (i := 7) nd rfl (by first | exact .inl rfl | exact .inr rfl)) ⟨rfl, rfl, rfl, trivial⟩ rfl ?_ ?_
  · intro j hj
    refine .inl ?_
    have hm40 : (if j = 3 then 40 else 9) ≤ 40 := by split <;> omega
    refine s_draw (i := 8) (own1 := [(0, .box b (n + 50 * j + 1 + (if j = 3 then 40 else 9)))]) nd rfl (by first | exact .inl rfl | exact .inr rfl) (de_c OE hr3 (pv 0) (des_cons (de_of (le_v (T := trs true ss) (pv 1))) (des_cons (de_of (le_eq (T' := .int ((if j = 3 then 40 else 9 : Nat) : Int)) (le_if (p := decide (j = 3)) (T1 := .int 40) (T2 := .int 9) (kn_eq (kn_cmp op_eq (T1 := .int (j : Nat)) (T2 := .int 3) (le_v (pv 7)) le_int r_eqI (nomark _)) ?_) (fun _ => le_int) (fun _ => le_int)) ?_)) des_nil)) (kd_row (n := n + 50 * j) (m := if j = 3 then 40 else 9) (ss := ss) ?_ (by omega) (by omega) hpos (by omega))) ?_
    · by_cases h : j = 3 <;> simp [h] <;> omega
    · by_cases h : j = 3 <;> simp [h]
    · rintro Ts ⟨T, Us, rfl, rfl, _, _, rfl, rfl, rfl⟩
      rfl
    rintro T ⟨es, rfl, hle, hes⟩
    have he40 : es.length ≤ 1000 := by omega
    refine s_ifF (kn_eq (kn_not (kn_val (b := true) (le_cT OQ hr (.sq true [.bl (dn (bs R) es), .bl (dn (bs R) es)]) (by show max 0 (max 0 0) + 1 ≤ 3; decide) (les_cons (le_lst (les_cons (le_cT OD0 hr2 (bs R, es) trivial (les_cons (le_v (pv 3)) (les_cons (le_v (pv 8)) les_nil))) (les_cons (le_kwT2 (T1 := trowsX true true (bs R)) (T2 := trs true es) OD1 DD kwD hr2 (bs R, es) trivial (lek_cons (le_of (lf_list (t := false) (ts := es.map Tr.str) B.list (le_v (pv 8)))) (lek_cons (le_cT OL hr3 (trows false (bs R)) (dep_rows false false (bs R)) (les_cons (le_v (pv 3)) les_nil) (trows_lists false (bs R))) lek_nil))) les_nil))) (les_cons (le_eq (le_of (lf_rep (Ts := [.bl (dn (bs R) es)]) (k := 2) (le_lst (les_cons (le_cT ODn hr2 (bs R, es) shD (les_cons (le_v (pv 3)) (les_cons (le_v (pv 8)) les_nil))) les_nil)))) rfl) les_nil))))) rfl) (s_goB ⟨rfl, rfl, rfl, trivial⟩)
  refine s_set (i := 9) (T := trows true (bs R)) nd rfl (by first | exact .inl rfl | exact .inr rfl) (le_of (lf_list (t := false) (ts := (bs R).map (trs false)) B.list (le_v (pv 3)))) ?_
  refine s_forD (k := 10) (t := true) (R := fun ts => ∃ es, es.length ≤ 8 ∧ (∀ e ∈ es, e ∈ ss) ∧ ts = [trows true (bs R).reverse, trows true (bs R ++ (bs R).take 1), trows true (bs R ++ [es]), trows true R]) (own1 := [(0, .box b (n + 50 * 4 + 1 + 8))]) rfl PassesOwn.never (de_imp (de_lst (R := fun Ts => ∃ es, es.length ≤ 8 ∧ (∀ e ∈ es, e ∈ ss) ∧ Ts = [trows true (bs R).reverse, trows true (bs R ++ (bs R).take 1), trows true (bs R ++ [es]), trows true R]) (des_impq (des_cons (de_of (le_eq (T' := trows true (bs R).reverse) (le_rev (le_v (T := trows true (bs R)) (pv 9))) ?_)) (des_cons (de_of (le_eq (T' := trows true (bs R ++ (bs R).take 1)) (le_cat (le_v (T := trows true (bs R)) (pv 9)) (le_to (n := 1) (t := true) (ts := (bs R).map (trs false)) (le_v (pv 9))) ?_) ?_)) (des_cons (de_catL (Ts := (bs R).map (trs false)) (de_of (le_v (T := trows true (bs R)) (pv 9))) (de_lst1 (de_c OE hr3 (pv 0) (des_cons (de_of (le_v (T := trs true ss) (pv 1))) (des_cons (de_of le_int) des_nil)) (kd_row (n := n + 50 * 4) (m := 8) (ss := ss) ?_ (by omega) (by omega) hpos (by decide)))) ?_ ?_) (des_cons (de_of (le_of (lf_list (t := true) (ts := R.map (trs false)) B.list (le_v (pv 2))))) des_nil)))) ?_) ?_) ?_) (pg_name (i := 10) nd rfl (by first | exact .inl rfl | exact .inr rfl)) ?_
  · exact rev_rows (bs R)
  · rw [List.length_map]; have := List.length_take_le 1 ((bs R).map (trs false)); rw [List.length_take]; omega
  · exact cat_take (bs R)
  · rintro Ts ⟨T, Us, rfl, rfl, _, _, rfl, rfl, rfl⟩
    rfl
  · rintro T ⟨U, rfl, _⟩
    exact ⟨_, rfl, by show 1 ≤ 1000; decide⟩
  · rw [List.length_map]; omega
  · rintro Ts ⟨T1, _, rfl, rfl, T2, _, rfl, rfl, T3, _, rfl, ⟨Us, rfl, U, e, es, rfl, hle, hes⟩, T4, _, rfl, rfl, rfl⟩
    cases e
    refine ⟨es, hle, hes, ?_⟩
    rw [cat_one]
    rfl
  · rintro Ts ⟨es, _, _, rfl⟩
    show 4 ≤ 1000
    decide
  · rintro T ⟨Ts, rfl, r⟩
    exact ⟨Ts, rfl, r⟩
  rintro ts ⟨es, hle, hes, rfl⟩
  refine ⟨fun _ => [], fun _ => [(0, .box b (n + 50 * 4 + 1 + 8))], trivial, rfl, fun _ => rfl, ?_, s_retD (T := .bl true) le_bl rfl⟩
  intro j T hT
  have key : ∃ V : Words, T = trows true V ∧ V.length ≤ 100 ∧ ∀ x ∈ V, Gd ss 8 x := by
    have hm := List.mem_of_getElem? hT
    simp only [List.mem_cons, List.not_mem_nil, or_false] at hm
    rcases hm with rfl | rfl | rfl | rfl
    · exact ⟨_, rfl, by rw [List.length_reverse]; omega, fun x hx => gdD x (List.mem_reverse.mp hx)⟩
    · exact ⟨_, rfl, by rw [List.length_append, List.length_take]; omega, fun x hx => by
        rcases List.mem_append.mp hx with h | h
        · exact gdD x h
        · exact gdD x (List.mem_of_mem_take h)⟩
    · exact ⟨_, rfl, by rw [List.length_append]; show _ + 1 ≤ 100; omega, fun x hx => by
        rcases List.mem_append.mp hx with h | h
        · exact gdD x h
        · rw [List.mem_singleton.mp h]; exact ⟨hle, hes⟩⟩
    · exact ⟨_, rfl, by omega, gdR⟩
  have key77 : ∀ V : Words, T = trows true V → V.length < 77 := fun V e => by
    have hm := List.mem_of_getElem? hT
    subst e
    simp only [List.mem_cons, List.not_mem_nil, or_false] at hm
    rcases hm with e | e | e | e <;> rw [trows_inj e]
    · rw [List.length_reverse]; omega
    · rw [List.length_append, List.length_take]; omega
    · rw [List.length_append]; show _ + 1 < 77; omega
    · omega
  obtain ⟨V, rfl, _, gV⟩ := key
  have v77 := key77 V rfl
  have nV : NmW V := nmw_gd hi.nm gV
  have shV : ∀ x ∈ V, x.length ≤ 1000 := fun x hx => Nat.le_trans (gV x hx).1 (by decide)
  refine .inl (s_ifF (kn_eq (kn_not (kn_val (b := true) (le_cT OQ hr (.bl (isBaseT (trows false V))) (by show 0 ≤ 3; decide) (les_cons (le_cT OI hr (trows false V) (th_rows v77 nV) (les_cons (le_tuple (t := true) (ts := V.map (trs false)) B.tuple (le_v (pv 10))) les_nil)) (les_cons (le_eq (le_cmp (op_eqK hr.units) (T1 := trows false V) (T2 := trows false (bs V)) (le_tuple (t := true) (ts := V.map (trs false)) B.tuple (le_v (pv 10))) (le_cT OM hr2 V ⟨v77, shV⟩ (les_cons (le_v (pv 10)) les_nil)) (r_eqT (isKs_rows _) (isKs_rows _) (depth_rows _)) (nomark _)) ?_) les_nil))))) rfl) (s_go trivial))
  rw [beqAll_rows, base_trows nV]
  by_cases h : V = bs V
  · rw [decide_eq_true h, decide_eq_true h.symm]
  · rw [decide_eq_false h, decide_eq_false fun e => h e.symm]
end
end K13
namespace LwB
open PySem PySem.Spec PyProof.Rows L2 IqX RvT EnS TL NsT CpN
variable [LwB.KC]
/-! ### comprehensions over the letters of a text; texts put together -/
def chT (z : Str) : List Tr := (tl z).map fun c => Tr.str (Str.mk #[c])
theorem lc_mfZ {β : Type} {z0 : Str} {g : TG} {tt : TT} {te : TE} {vs : List Nat} {σ : L2.St} {H1 : Hp} {D : Addr} {Qd : Hp → Prop} (out : Tr → Option β) (R : Hp → β → V → Prop)
    (nD : H1 D = none) (hl : z0.cps.size ≤ 1000000)
    (mono : ∀ H H' z v, Same H H' → R H z v → R H' z v) (put : ∀ H z v ys o, Same H1 H → H D = some (.lst ys) → R H z v → R (upd H D o) z v)
    (step : ∀ (a : Str) H (C : V → Hp → Prop) (C0 : Hp → Prop), Tr.str a ∈ chT z0 → Same H1 H → (∃ ys, H D = some (.lst ys)) → (∀ y H4 z', Same H H4 → out (.str a) = some z' → R H4 z' y → C y H4) → (∀ H3, Same H H3 → out (.str a) = none → C0 H3) →
      g (.str a) (wipe σ vs) H fun σ2 H2 => wipe σ2 vs = wipe σ vs ∧ tt σ2 H2 fun b H3 => if b = true then te σ2 H3 C else C0 H3)
    (hd : ∀ H ys, Same H1 H → H D = some (.lst ys) → Paired (R H) ((chT z0).filterMap out) ys → ys.length ≤ z0.cps.size → Qd H) :
    ∃ W : Nat → Nat → Hp → Prop, (∃ m, W 0 m (upd H1 D (.lst []))) ∧ ∀ i m H, W i m H →
      ((Its z0).stop i H ∧ Qd H) ∨ ((Its z0).go i H ∧ ∃ Nx : Hp → Prop, (∀ H', Nx H' → ∃ m', m' < m ∧ W (i + 1) m' H') ∧ ∀ x H', (Its z0).yld i H x H' → g x (wipe σ vs) H' fun σ2 H2 => wipe σ2 vs = wipe σ vs ∧ tt σ2 H2 fun b H3 =>
        if b = true then te σ2 H3 fun y H4 => ∃ acc, H4 D = some (.lst acc) ∧ acc.length < sizeLine ∧ Nx (upd H4 D (.lst (acc ++ [y]))) else Nx H3) := by
  have hlc : (chT z0).length = z0.cps.size := by
    unfold chT
    rw [List.length_map]
    show z0.cps.toList.length = _
    rw [Array.length_toList]
  refine lc_it (n := z0.cps.size) walk_str (fun i H => Same H1 H ∧ ∃ ys, H D = some (.lst ys) ∧ Paired (R H) (((chT z0).take i).filterMap out) ys) ⟨same_new nD, [], upd_same, .nil⟩ (fun _ _ _ _ => trivial) ?_ ?_
  · rintro i x H H' hi ⟨sm, ys, eD, pr⟩ ⟨rfl, c, hc, rfl⟩
    have hz : (chT z0)[i]? = some (.str (Str.mk #[c])) := by
      have hc' : (tl z0)[i]? = some c := by
        show z0.cps.toList[i]? = some c
        rw [Array.getElem?_toList]
        exact hc
      unfold chT
      rw [List.getElem?_map, hc']
      rfl
    refine step (Str.mk #[c]) H' _ _ (List.mem_of_getElem? hz) sm ⟨ys, eD⟩ (fun y H4 z' s4 ez r => ?_) (fun H3 s3 ez => ?_)
    · have e4 : H4 D = some (.lst ys) := s4 _ _ eD
      have sm4 := sm.trans s4
      have hyl : ys.length ≤ i := by
        have h1 := paired_len pr
        have h2 := fm_len out ((chT z0).take i)
        rw [List.length_take] at h2
        omega
      refine ⟨ys, e4, Nat.lt_of_le_of_lt hyl (Nat.lt_of_lt_of_le hi (Nat.le_trans hl (by decide))), Same.young sm4 nD, ys ++ [y], upd_same, ?_⟩
      rw [take_snoc hz, List.filterMap_append, List.filterMap_cons_some ez]
      exact paired_snoc (paired_imp pr fun b' v h => put H4 b' v ys _ sm4 e4 (mono H' H4 b' v s4 h)) (put H4 z' y ys _ sm4 e4 r)
    · refine ⟨sm.trans s3, ys, s3 _ _ eD, ?_⟩
      rw [take_snoc hz, List.filterMap_append, List.filterMap_cons_none ez]
      show Paired (R H3) (((chT z0).take i).filterMap out ++ []) ys
      rw [List.append_nil]
      exact paired_imp pr fun b' v h => mono H' H3 b' v s3 h
  · rintro H ⟨sm, ys, eD, pr⟩
    rw [← hlc, List.take_length] at pr
    refine hd H ys sm eD pr ?_
    have h1 := paired_len pr
    have h2 := fm_len out (chT z0)
    omega
section
variable {X : Cx} {N : Nat} {env : EnvT}
theorem lf_coreZ {k : Nat} {z0 : Str} {Pr : Tr → Prop} {c : Tr → Bool} {F : Tr → Tr} {tt : TT} (hk : k < N) (hP : ∀ T ∈ chT z0, Pr T) (hn : z0.cps.size ≤ 1000000) {σ : L2.St} {H : Hp} {Q : VK}
    (htt : ∀ σ H T (Kb : Bool → Hp → Prop) W, Pr T → Vw W H → Ev N ((k, T) :: del k env) σ W → (∀ H', Same H H' → Kb (c T) H') → tt σ H Kb) (h : tLf N env (((chT z0).filter c).map F) σ H Q) :
    tLc (iStr (tLe N env (.str z0))) (gName k) tt (tFam N k (del k env) Pr F) [k] σ H Q := by
  obtain ⟨W, x, ev, q⟩ := h
  refine ⟨W, x, ev, fun H1 v s1 i1 => ?_⟩
  have xn := x.next s1
  have evn : Ev N (del k env) σ (vw W H H1) := (ev.sub fun _ h => del_sub h).mv (vw_keep x)
  refine ⟨z0, i1.str_eq, fun D nD => ?_⟩
  have domB : ∀ {H2 : Hp}, Same H1 H2 → (∃ ys, H2 D = some (.lst ys)) → ∀ b, H2 b = none → upd H1 D (.lst []) b = none := fun {H2} sm ⟨ys, eD⟩ b hb => by
    by_cases hbD : b = D
    · subst hbD
      rw [eD] at hb
      cases hb
    · rw [upd_ne hbD]
      exact sm.free hb
  have WD : vw W H H1 D = none := xn.off nD
  have hmono : ∀ H2 b o, vw W H H1 b = some o → vw (vw W H H1) (upd H1 D (.lst [])) H2 b = some o := fun H2 b o e => by
    have h1 := xn.sub b o e
    have hbD : b ≠ D := by
      rintro rfl
      rw [nD] at h1
      cases h1
    rw [vw_old (o := o) (by rw [upd_ne hbD]; exact h1)]
    exact e
  have hV : ∀ H2, Same H1 H2 → (∃ ys, H2 D = some (.lst ys)) → Vw (vw (vw W H H1) (upd H1 D (.lst [])) H2) H2 := fun H2 sm eD => by
    refine ⟨fun b o e => ?_, fun b o e => ?_, xn.good.mv sm⟩
    · rcases dom_cases (upd H1 D (.lst [])) b with hb | ⟨u, hb⟩
      · rw [vw_new hb] at e
        exact e
      · rw [vw_old hb] at e
        exact sm b o (xn.sub b o e)
    · rcases dom_cases (upd H1 D (.lst [])) b with hb | ⟨u, hb⟩
      · rw [vw_new hb]
        exact .inl e
      · by_cases hbD : b = D
        · subst hbD
          obtain ⟨ys, e2⟩ := eD
          rw [e2] at e
          cases e
          exact .inr ⟨ys, rfl⟩
        · rw [vw_old hb]
          rw [upd_ne hbD] at hb
          have e3 := sm b u hb
          rw [e] at e3
          cases e3
          exact xn.all b o hb
  refine lc_mfZ (z0 := z0) (fun T => if c T = true then some (F T) else none) (fun H' z v => It (vw (vw W H H1) (upd H1 D (.lst [])) H') z v) nD hn ?_ ?_ ?_ ?_
  · exact fun Ha Hb z v' s r => r.mv (vw_mono s)
  · intro Ha z v' ys o sm e r
    refine r.mv fun b o' e' => ?_
    rcases dom_cases (upd H1 D (.lst [])) b with hb | ⟨u, hb⟩
    · rw [vw_new hb] at e' ⊢
      rw [upd_ne]
      · exact e'
      · rintro rfl
        rw [upd_same] at hb
        cases hb
    · rw [vw_old hb] at e' ⊢
      exact e'
  · intro a H2 C C0 hT sm eD yes no
    have iz : It (vw W H H1) (.str a) (.str a) := ⟨0, .str⟩
    generalize hT' : Tr.str a = T at yes no iz hT
    have hp : Pr T := hP T hT
    refine ⟨?_, ?_⟩
    · show ((wipe σ [k]).set k (some (.str a))).set k none = wipe σ [k]
      show ((σ.set k none).set k (some (.str a))).set k none = σ.set k none
      rw [List.set_set, List.set_set]
    · have evk : ∀ H3, Ev N ((k, T) :: del k env) ((σ.set k none).set k (some (.str a))) (vw (vw W H H1) (upd H1 D (.lst [])) H3) := fun H3 => ((evn.mv (hmono H3)).put fun _ h => del_ne h).set hk (fun _ h => del_ne h) (iz.mv (hmono H3))
      refine htt _ H2 T _ _ hp (hV H2 sm eD) (evk H2) fun H3 s3 => ?_
      have eD3 : ∃ ys, H3 D = some (.lst ys) := by
        obtain ⟨ys, e⟩ := eD
        exact ⟨ys, s3 _ _ e⟩
      by_cases hc : c T = true
      · rw [hc]
        refine iteT ⟨vw (vw W H H1) (upd H1 D (.lst [])) H3, T, hp, hV H3 (sm.trans s3) eD3, evk H3, fun H' v' s' i' => ?_⟩
        rw [vw_two (domB (sm.trans s3) eD3) s'] at i'
        exact yes v' H' _ (s3.trans s') (if_pos hc) i'
      · have hc' : c T = false := by simpa using hc
        rw [hc']
        exact iteF (no H3 s3 (if_neg hc))
  · intro H2 ys sm eD p2 hyl
    have nDH : H D = none := s1.free nD
    have em := fm_fm c F (chT z0)
    rw [em] at p2
    refine q H2 D ys (s1.trans sm) nDH eD (by omega) (paired_imp p2 fun _ _ r => r.mv fun b o e => ?_)
    have hbD : b ≠ D := by
      rintro rfl
      rw [vw_old (o := .lst []) upd_same, WD] at e
      cases e
    rw [rm_ne hbD, ← vw_trans s1 sm]
    rcases dom_cases H1 b with hb | ⟨u, hb⟩
    · rw [vw_new (by rw [upd_ne hbD]; exact hb)] at e
      rw [vw_new hb]
      exact e
    · rw [vw_old (o := u) (by rw [upd_ne hbD]; exact hb)] at e
      rw [vw_old hb]
      exact e
/-- [elt for y in a text] -/
theorem lf_mapZ {elt iter : Expr} {scope : Scope} {pos tp : Pos} {y : Str} {k : Nat} {z0 : Str} (Pr : Tr → Prop) (F : Tr → Tr) (hc : X.calm = true) (hN : X.N.Nodup) (hit : PE X iter (tLe N env (.str z0))) (ok : BlkOk X.N X.env.scope scope [(y, k)]) (hP : ∀ T ∈ chT z0, Pr T) (hn : z0.cps.size ≤ 1000000)
    (hg : ∀ (s : Shared) (H : Hp) (C : Addr) (cl : List (Str × Addr)) (fp : List Addr), PG (X.blk s H scope (compEnvC scope cl C X.env) fp) (.Name y tp) (gName k))
    (he : ∀ (s : Shared) (H : Hp) (C : Addr) (cl : List (Str × Addr)) (fp : List Addr) T, Pr T → PE (X.blk s H scope (compEnvC scope cl C X.env) fp) elt (tLe N ((k, T) :: del k env) (F T))) (hk : k < N := by decide) (hs : ∀ x, foldedSetIterable iter X.env x = pure x := by intro _; rfl) :
    PE X (.ListComp elt [⟨.Name y tp, iter, [], 0⟩] scope pos) (tLf N env ((chT z0).map F)) :=
  PE.imp (pe_lc (own := [(y, k)]) (g := gName k) hc hN (pi_str hit) ok hg (fun _ _ _ _ _ => pts_nil) (fun s H C cl fp => le_fam (Pr := Pr) (F := F) (he s H C cl fp)) hs) fun σ H Q h => lf_coreZ (c := fun _ => true) hk hP hn (fun σ H T Kb W _ _ _ q => q H (Same.refl H)) (by
    have e : (chT z0).filter (fun _ => true) = chT z0 := List.filter_eq_self.mpr fun _ _ => rfl
    rw [e]
    exact h)
/-- two texts, one behind the other -/
theorem le_addS {a b : Expr} {u v : Str} {pos : Pos} (h1 : PE X a (tLe N env (.str u))) (h2 : PE X b (tLe N env (.str v))) (hl : u.length + v.length ≤ 1000) : PE X (.BinOp a .Add b pos) (tLe N env (.str (u ++ v))) :=
  PE.imp (pe_op op_add_str h1 h2) fun σ H Q ⟨W, x, ev, q⟩ => ⟨W, x, ev, fun H1 v1 s1 i1 => ⟨vw W H H1, x.next s1, ev.mv (vw_keep x), fun H2 v2 s2 i2 => by
    rw [i1.str_eq, i2.str_eq]
    exact ⟨u, v, rfl, rfl, Nat.le_trans hl (by decide), q H2 _ (s1.trans s2) ⟨0, .str⟩⟩⟩⟩
end
end LwB
set_option maxHeartbeats 4000000
namespace K13
open PySem PySem.Spec PyProof.Rows L2 IqX RvT LwB EnS TL NsT CpN
variable [LwB.KC]
def thS (T : Tr) : Bool := match T with | .str z => decide (z.length ≤ 1000000) | _ => true
def thR (T : Tr) : Bool := match T with | .sq _ us => us.all thS | _ => true
def thB (T : Tr) : Bool := match T with | .sq _ ts => decide (ts.length < 77) && ts.all thR | _ => true
theorem th_of {T : Tr} (h : thB T = true) : ThOk T := by
  refine ⟨fun b ts e => ?_, fun b ts U c us z e hU hus hz => ?_⟩
  · subst e
    have h' : (decide (ts.length < 77) && ts.all thR) = true := h
    rw [Bool.and_eq_true] at h'
    exact of_decide_eq_true h'.1
  · subst e
    have h' : (decide (ts.length < 77) && ts.all thR) = true := h
    rw [Bool.and_eq_true] at h'
    have h2 : thR U = true := List.all_eq_true.mp h'.2 U hU
    subst hus
    have h3 : us.all thS = true := h2
    exact of_decide_eq_true (List.all_eq_true.mp h3 _ hz)
def isTh (T : Tr) : Prop := thB T = true
theorem all_isTh {ts : List Tr} (h : (ts.all thB) = true) : ∀ T ∈ ts, isTh T := fun T hT => List.all_eq_true.mp h T hT
def farF (T : Tr) : Tr := .sq false [.str (("a" : Str) ++ unstr T)]
section
variable {P : Program} {w : World} {K : PySem.W.Frag} {mg : Str → Option Value} {base : Heap}
def THand : Sp := spT (fun _ : Unit => []) (fun _ => True) fun _ => .bl true
theorem tr_hand (D : Df K mg "_law_by_hand_right" s__law_by_hand_right []) (B : Bn mg) (OB0 : Ok P w K mg base 3 "base_of" ["logs"] (TBase false false)) (OB1 : Ok P w K mg base 3 "base_of" ["logs"] (TBase true false)) (OI : Ok P w K mg base 4 "is_base" ["thing"] TIsBase)
    (OD : Ok P w K mg base 2 "does" ["base", "log"] (TDoes false false false)) (ON : Ok P w K mg base 1 "names_in" ["base"] (TNamesIn false false)) (OS : Ok P w K mg base 4 "_law_same" ["_law_got", "_law_due"] (TSame 3)) :
    Ok P w K mg base 5 "_law_by_hand_right" [] THand := by
  refine D.okT sc__law_by_hand_right (fun _ => rfl) (fun i _ => rfl) fun f cdv Ar outer s H E hr i hi => ?_
  have nd := sc__law_by_hand_right.nd
  have hr1 : Room 1 _ := hr.mono (by decide)
  have hr2 : Room 2 _ := hr.mono (by decide)
  have hr3 : Room 3 _ := hr.mono (by decide)
  refine s_set (i := 0) (T := trows true [["ask", "pay", "ask"], ["call"], ["ask", "ask"], ["call", "ask"]]) nd rfl (.inl rfl) (le_lst (les_cons ((le_tup (les_cons (le_str) (les_cons (le_str) (les_cons (le_str) les_nil))))) (les_cons ((le_tup (les_cons (le_str) les_nil))) (les_cons ((le_tup (les_cons (le_str) (les_cons (le_str) les_nil)))) (les_cons ((le_tup (les_cons (le_str) (les_cons (le_str) les_nil)))) les_nil))))) ?_
  refine s_set (i := 1) nd rfl (.inl rfl) (le_lst (les_cons (le_cT OB1 hr3 [["ask", "pay", "ask"], ["call"], ["ask", "ask"], ["call", "ask"]] (by decide) (les_cons (le_v (pv 0)) les_nil)) (les_cons (le_cT OB0 hr3 [] (by decide) (les_cons ((le_tup les_nil)) les_nil)) (les_cons (le_cT OB1 hr3 [[]] (by decide) (les_cons ((le_lst (les_cons ((le_tup les_nil)) les_nil))) les_nil)) (les_cons (le_cT OB1 hr3 [["a"], []] (by decide) (les_cons ((le_lst (les_cons ((le_tup (les_cons (le_str) les_nil))) (les_cons ((le_tup les_nil)) les_nil)))) les_nil)) (les_cons (le_cT OB1 hr3 [["b"], ["a"], ["b"]] (by decide) (les_cons ((le_lst (les_cons ((le_tup (les_cons (le_str) les_nil))) (les_cons ((le_tup (les_cons (le_str) les_nil))) (les_cons ((le_tup (les_cons (le_str) les_nil))) les_nil))))) les_nil)) les_nil)))))) ?_
  refine s_set (i := 2) nd rfl (.inl rfl) (le_lst (les_cons ((le_tup (les_cons ((le_tup (les_cons (le_str) les_nil))) (les_cons ((le_tup (les_cons (le_str) (les_cons (le_str) les_nil)))) les_nil)))) (les_cons ((le_tup les_nil)) (les_cons ((le_tup (les_cons ((le_tup les_nil)) les_nil))) (les_cons ((le_tup (les_cons ((le_tup les_nil)) les_nil))) (les_cons ((le_tup (les_cons ((le_tup (les_cons (le_str) les_nil))) (les_cons ((le_tup (les_cons (le_str) les_nil))) les_nil)))) les_nil)))))) ?_
  refine s_set (i := 3) nd rfl (.inl rfl) (le_lst (les_cons ((le_tup les_nil)) (les_cons ((le_tup (les_cons ((le_tup les_nil)) les_nil))) (les_cons ((le_tup (les_cons ((le_tup (les_cons (le_str) les_nil))) (les_cons ((le_tup (les_cons (le_str) les_nil))) les_nil)))) (les_cons ((le_tup (les_cons ((le_tup (les_cons (le_str) les_nil))) (les_cons ((le_tup (les_cons (le_str) les_nil))) les_nil)))) (les_cons ((le_tup (les_cons ((le_tup (les_cons (le_str) les_nil))) (les_cons ((le_tup (les_cons (le_str) les_nil))) les_nil)))) (les_cons ((le_tup (les_cons ((le_tup (les_cons (le_str) les_nil))) (les_cons ((le_tup (les_cons (le_str) (les_cons (le_str) les_nil)))) les_nil)))) les_nil))))))) ?_
  refine s_set (i := 3) nd rfl (.inl rfl) (le_cat (le_v (pv 3)) (le_lst (les_cons ((le_tup (les_cons ((le_tup (les_cons (le_str) (les_cons (le_str) les_nil)))) (les_cons ((le_tup (les_cons (le_str) les_nil))) les_nil)))) (les_cons ((le_tup (les_cons ((le_tup les_nil)) (les_cons ((le_tup (les_cons (le_str) les_nil))) les_nil)))) (les_cons ((le_tup (les_cons ((le_tup (les_cons (le_str) (les_cons (le_str) les_nil)))) (les_cons ((le_tup (les_cons (le_str) (les_cons (le_str) les_nil)))) les_nil)))) (les_cons ((le_tup (les_cons ((le_tup (les_cons (le_str) les_nil))) les_nil))) (les_cons ((le_lst (les_cons ((le_tup (les_cons (le_str) les_nil))) les_nil))) (les_cons ((le_tup (les_cons ((le_lst (les_cons (le_str) les_nil))) les_nil))) les_nil)))))))) ?_
  refine s_set (i := 1) nd rfl (.inl rfl) (le_cat (le_v (pv 1)) (le_of (lf_map isTh (fun T => .bl (isBaseT T)) rfl nd (le_cat (le_v (pv 3)) (le_lst (les_cons ((le_tup (les_cons ((le_tup (les_cons (le_str) les_nil))) (les_cons (le_non) les_nil)))) (les_cons (le_non) (les_cons (le_int) (les_cons ((le_tup (les_cons (le_str) les_nil))) les_nil)))))) (blkOk_by (N := ["_law_rows", "_law_got", "_law_due", "_law_some", "_law_far", "_law_own", "_law_sign"]) (sc := defScope s__law_by_hand_right) (by decide +kernel)) ?hP
    (fun _ _ _ _ _ => pg_name (i := 5) nd rfl (.inl rfl)) (fun _ _ _ _ _ T hT => le_cT OI hr T (th_of hT) (les_cons (le_v (pv 5)) les_nil)))) ?hl1) ?_
  case hP => exact all_isTh (by decide +kernel)
  case hl1 => decide +kernel
  refine s_set (i := 1) nd rfl (.inl rfl) (le_cat (le_v (pv 1)) (le_lst (les_cons (le_cT OD hr2 ([], []) trivial (les_cons ((le_tup les_nil)) (les_cons ((le_tup les_nil)) les_nil))) (les_cons (le_cT OD hr2 ([[]], []) trivial (les_cons ((le_tup (les_cons ((le_tup les_nil)) les_nil))) (les_cons ((le_tup les_nil)) les_nil))) (les_cons (le_cT OD hr2 ([["a", "b"]], ["b", "a"]) trivial (les_cons ((le_tup (les_cons ((le_tup (les_cons (le_str) (les_cons (le_str) les_nil)))) les_nil))) (les_cons ((le_tup (les_cons (le_str) (les_cons (le_str) les_nil)))) les_nil))) les_nil)))) (by decide +kernel)) ?_
  refine s_set (i := 2) nd rfl (.inl rfl) (le_cat (le_cat (le_cat (le_cat (le_cat (le_v (pv 2)) (le_of (lf_rep (k := 3) (le_lst (les_cons (le_bl) les_nil))))) (le_of (lf_rep (k := 5) (le_lst (les_cons (le_bl) les_nil))))) (le_lst (les_cons (le_bl) les_nil))) (le_of (lf_rep (k := 7) (le_lst (les_cons (le_bl) les_nil))))) (le_lst (les_cons (le_bl) (les_cons (le_bl) (les_cons (le_bl) les_nil))))) ?_
  refine s_set (i := 1) nd rfl (.inl rfl) (le_cat (le_v (pv 1)) (le_lst (les_cons (le_cT ON hr1 [["b", "a"], ["c", "b"]] (by show (_ : Nat) ≤ 60; decide +kernel) (les_cons ((le_tup (les_cons ((le_tup (les_cons (le_str) (les_cons (le_str) les_nil)))) (les_cons ((le_tup (les_cons (le_str) (les_cons (le_str) les_nil)))) les_nil)))) les_nil)) (les_cons (le_cT ON hr1 [] (by show (_ : Nat) ≤ 60; decide +kernel) (les_cons ((le_tup les_nil)) les_nil)) (les_cons (le_cT ON hr1 [[]] (by show (_ : Nat) ≤ 60; decide +kernel) (les_cons ((le_tup (les_cons ((le_tup les_nil)) les_nil))) les_nil)) les_nil)))) (by decide +kernel)) ?_
  refine s_set (i := 1) nd rfl (.inl rfl) (le_cat (le_v (pv 1)) (le_lst (les_cons (le_cT OB1 hr3 [["a", "b"], ["ab"]] (by decide) (les_cons ((le_lst (les_cons ((le_tup (les_cons (le_str) (les_cons (le_str) les_nil)))) (les_cons ((le_tup (les_cons (le_str) les_nil))) les_nil)))) les_nil)) (les_cons (le_cT OD hr2 ([["a", "b"]], ["ab"]) trivial (les_cons ((le_tup (les_cons ((le_tup (les_cons (le_str) (les_cons (le_str) les_nil)))) les_nil))) (les_cons ((le_tup (les_cons (le_str) les_nil))) les_nil))) (les_cons (le_cT ON hr1 [["ab"], ["a", "b"]] (by show (_ : Nat) ≤ 60; decide +kernel) (les_cons ((le_tup (les_cons ((le_tup (les_cons (le_str) les_nil))) (les_cons ((le_tup (les_cons (le_str) (les_cons (le_str) les_nil)))) les_nil)))) les_nil)) les_nil)))) (by decide +kernel)) ?_
  refine s_set (i := 2) nd rfl (.inl rfl) (le_cat (le_v (pv 2)) (le_lst (les_cons ((le_tup (les_cons (le_str) (les_cons (le_str) (les_cons (le_str) les_nil))))) (les_cons ((le_tup les_nil)) (les_cons ((le_tup les_nil)) (les_cons ((le_tup (les_cons ((le_tup (les_cons (le_str) les_nil))) (les_cons ((le_tup (les_cons (le_str) (les_cons (le_str) les_nil)))) les_nil)))) (les_cons (le_bl) (les_cons ((le_tup (les_cons (le_str) (les_cons (le_str) (les_cons (le_str) les_nil))))) les_nil))))))) (by decide +kernel)) ?_
  refine s_set (i := 4) nd rfl (.inl rfl) (le_tuple (t := true) B.tuple (le_of (lf_mapZ (fun T => T ∈ chT "abcdefghijklmnopqrstuvwxyz") farF rfl nd le_str (blkOk_by (N := ["_law_rows", "_law_got", "_law_due", "_law_some", "_law_far", "_law_own", "_law_sign"]) (sc := defScope s__law_by_hand_right) (by decide +kernel)) (fun T h => h) (by decide)
    (fun _ _ _ _ _ => pg_name (i := 6) nd rfl (.inl rfl)) (fun _ _ _ _ _ T hT => ?_)))) ?_
  · obtain ⟨c, _, rfl⟩ := List.mem_map.mp hT
    have hl : (Str.ofString "a").length + 1 ≤ 1000 := by decide +kernel
    exact le_tup (les_cons (le_addS (v := Str.mk #[c]) le_str (le_v (pv 6)) hl) les_nil)
  refine s_set (i := 1) nd rfl (.inl rfl) (le_cat (le_v (pv 1)) (le_lst (les_cons (le_cT OD hr2 ([["c"], ["a", "b"]], ["a", "b"]) trivial (les_cons ((le_tup (les_cons ((le_tup (les_cons (le_str) les_nil))) (les_cons ((le_tup (les_cons (le_str) (les_cons (le_str) les_nil)))) les_nil)))) (les_cons ((le_tup (les_cons (le_str) (les_cons (le_str) les_nil)))) les_nil))) (les_cons (le_cT OI hr (.sq false ((chT "abcdefghijklmnopqrstuvwxyz").map farF)) (th_of (by decide +kernel)) (les_cons (le_v (pv 4)) les_nil)) (les_cons (le_cT OI hr (.sq false [.sq false (List.replicate 60 [Tr.str "a"]).flatten]) (th_of (by decide +kernel)) (les_cons ((le_tup (les_cons (le_repT (K := K) (le_tup (les_cons (le_str) les_nil)) (by decide +kernel)) les_nil))) les_nil)) (les_cons (le_cT OI hr (.sq false ((chT "abcdefghijklmnopqrstuvwxyz").map farF).reverse) (th_of (by decide +kernel)) (les_cons (le_rev (le_v (pv 4))) les_nil)) les_nil))))) (by decide +kernel)) ?_
  refine s_ret (le_cT OS hr _ ?dep (les_cons (le_eq (le_v (pv 1)) ?eq) (les_cons (le_cat (le_v (pv 2)) (le_lst (les_cons (le_bl) (les_cons (le_bl) (les_cons (le_bl) (les_cons (le_bl) les_nil))))) (by decide +kernel)) les_nil)))
  case eq => exact Tr.eq_of _ _ (by decide +kernel)
  case dep => decide +kernel
end
end K13
namespace K13
open PySem PySem.Spec PyProof.Rows L2 IqX RvT LwB EnS TL NsT CpN
variable [LwB.KC]
section
variable {P : Program} {w : World} {K : PySem.W.Frag} {mg : Str → Option Value} {base : Heap}
def isRows (ss : List Str) (k m : Nat) (T : Tr) : Prop := ∃ Ws, T = trows true Ws ∧ Ws.length ≤ k ∧ ∀ w ∈ Ws, Gd ss m w
theorem kd_rows {n k m : Nat} {b : Addr} {ss : List Str} {R : List Tr → Prop} (hR : ∀ Ts, R Ts → Ts = [trs true ss, .int k, .int m]) (hn : n < 600000000) (hs : ss.length ≤ 1000000) (hs0 : 0 < ss.length) (hm : m ≤ 1000) (hk : k ≤ 60) :
    ∀ H us Ts (Q : VK), Bx n H b → R Ts → Paired (It (rm H b)) Ts us → (∀ H' v T, LwB.Fr b H H' → Bx (n + 1 + k * (1 + m)) H' b → isRows ss k m T → It (nv H H') T v → Q v H') → spSomeRows (.ref b :: us) H Q E0 := fun H us Ts Q bx r p q => by
  rw [hR Ts r] at p
  cases p with
  | cons i1 p => cases p with
    | cons i2 p => cases p with
      | cons i3 p =>
        cases p
        rw [i2.int_eq, i3.int_eq]
        obtain ⟨l, xs, rfl, hl, ll, pl⟩ := i1.sq_inv
        have ex := strs_its pl
        subst ex
        have e1 := hl.2 rfl
        have hlb : l ≠ b := by
          rintro rfl
          rw [rm_self] at e1
          cases e1
        refine ⟨b, l, n, k, m, ss, rfl, by omega, by omega, hlb, .lst (rm_sub e1), hs, hs0, hm, by omega, fun H' p ys Ws f b' np ep pr hle hes => q H' _ (trows true Ws) f b' ⟨Ws, rfl, hle, hes⟩ ?_⟩
        have hy := paired_len pr
        have e2 : nv H H' p = some (.lst ys) := by
          unfold nv
          rw [np]
          exact ep
        exact It.sq (.lst e2) (by omega) (paired_map (paired_imp pr fun _ _ z => It.nolA (nv_allF f b') (trs_nol _) (It.of (z.is (n := 0)))))
theorem tr_right (D : Df K mg "_law_right" s__law_right ["_law_box_here"]) (B : Bn mg) (OH : Ok P w K mg base 5 "_law_by_hand_right" [] THand) (OT : Ok P w K mg base 1 "_law_take" ["_law_box_here", "_law_size_so"] spTake) (ON : Ok P w K mg base 3 "_law_names" ["_law_box_here", "_law_much_so"] spNames)
    (OR : Ok P w K mg base 4 "_law_some_rows" ["_law_box_here", "_law_tags", "_law_many", "_law_most"] spSomeRows)
    (OB : Ok P w K mg base 5 "_law_base_right" ["_law_box_here", "_law_tags", "_law_rows"] (spD (fun i : List Str × Words => [trs true i.1, trows true i.2]) Br13 (fun _ => 300) fun _ T => T = .bl true)) : Ok P w K mg base 6 "_law_right" ["_law_box_here"] spRightB := by
  refine D.okB sc__law_right rfl fun f cdv Ar outer s H E hr b => ?_
  have nd := sc__law_right.nd
  have hr1 : Room 1 _ := hr.mono (by omega)
  have hr3 : Room 3 _ := hr.mono (by omega)
  have hr4 : Room 4 _ := hr.mono (by omega)
  refine s_ifF (kn_eq (kn_not (kn_val (b := true) (le_cT0 OH hr () trivial rfl))) rfl) ?_
  refine s_forR (n := 6) (k := 1) (fun _ => []) (fun j => [(0, .box b (0 + 1000 * j))]) rfl PassesOwn.never B.range le_int (by decide) (pg_name (i := 1) nd rfl (.inl rfl)) trivial rfl ?_ (s_retO le_bl rfl (fun _ h => nomatch h))
  intro j hj
  refine .inl ?_
  refine s_draw (i := 2) (own1 := [(0, .box b (0 + 1000 * j + 1 + 400))]) nd rfl (by first | exact .inl rfl | exact .inr rfl) (de_c ON hr3 (pv 0) (des_cons (de_add (de_of le_int) (de_c OT hr1 (pv 0) (des_cons (de_of le_int) des_nil) (kd_take (n := 0 + 1000 * j) (m := 6) ?_ (by omega) (by decide) (by decide))) ?_ ?_) des_nil) (kd_names (n := 0 + 1000 * j + 1) (lo := 1) (hi := 6) ?_ (by omega) (by decide))) ?_
  · rintro Ts ⟨T, Us, rfl, rfl, rfl⟩
    rfl
  · rintro T rfl
    exact ⟨_, rfl⟩
  · rintro T ⟨r, rfl, _⟩
    exact ⟨_, rfl⟩
  · rintro Ts ⟨T, Us, rfl, ⟨i, k, rfl, e1, r, e2, hr⟩, rfl⟩
    cases e1
    cases e2
    exact ⟨1 + r, rfl, by omega, by omega⟩
  rintro T ⟨m, hm1, hm2, ss, rfl, hok, hlen⟩
  have hpos : 0 < ss.length := by omega
  have hk24 : (if j = 5 then 24 else 6) ≤ 24 := by split <;> omega
  have hbud : (if j = 5 then 24 else 6) * (1 + 8) ≤ 216 := by split <;> omega
  refine s_ifDF (own1 := [(0, .box b (0 + 1000 * j + 1 + 400 + 1 + (if j = 5 then 24 else 6) * (1 + 8) + 300))]) ?_ (s_goB trivial)
  refine ⟨fun pins s σ H Q I ⟨W', S, q⟩ => (kd_not (kd_val (Pb := fun c => c = true) (de_imp (de_D (b := b) (M := 300) (n := 0 + 1000 * j + 1 + 400 + 1 + (if j = 5 then 24 else 6) * (1 + 8)) (R := fun Ts => ∃ W, (W.length ≤ 24 ∧ ∀ x ∈ W, Gd ss 8 x) ∧ Ts = [trs true ss, trows true W]) OB hr (pv 0) (des_impq (des_cons (de_of (le_v (T := trs true ss) (pv 2))) (des_cons (de_c OR hr4 (pv 0) (des_cons (de_of (le_v (T := trs true ss) (pv 2))) (des_cons (de_of (le_eq (T' := .int ((if j = 5 then 24 else 6 : Nat) : Int)) (le_if (p := decide (j = 5)) (T1 := .int 24) (T2 := .int 6) (kn_eq (kn_cmp op_eq (T1 := .int (j : Nat)) (T2 := .int 5) (le_v (pv 1)) le_int r_eqI (nomark _)) ?_) (fun _ => le_int) (fun _ => le_int)) ?_)) (des_cons (de_of le_int) des_nil)))
    (kd_rows (n := 0 + 1000 * j + 1 + 400) (k := if j = 5 then 24 else 6) (m := 8) (ss := ss) ?_ (by omega) (by omega) hpos (by decide) (by omega))) des_nil)) ?_) ?_ (by omega)) ?_))).run pins s σ H Q I ⟨W', S, fun c W2 H2 s2 S2 hc => q c W2 H2 s2 S2 ?_⟩⟩
  · by_cases h : j = 5 <;> simp [h] <;> omega
  · by_cases h : j = 5 <;> simp [h]
  · rintro Ts ⟨T, Us, rfl, rfl, _, _, rfl, rfl, _, _, rfl, rfl, rfl⟩
    rfl
  · rintro Ts ⟨T, Us, rfl, rfl, T2, _, rfl, ⟨W, rfl, h1, h2⟩, rfl⟩
    exact ⟨W, ⟨by omega, h2⟩, rfl⟩
  · rintro Ts ⟨W, ⟨h1, h2⟩, rfl⟩
    exact ⟨(ss, W), ⟨hok, hpos, by show ss.length ≤ 6; omega, h1, h2⟩, rfl, Nat.le_refl _⟩
  · rintro T ⟨_, _, _, rfl⟩
    exact ⟨true, rfl, rfl⟩
  · simpa using hc
end
end K13
namespace K13
open PySem PySem.Spec PyProof.Rows L2 IqX RvT LwB EnS
section
variable {P : Program} {w : World} {K : PySem.W.Frag} {mg : Str → Option Value} {base : Heap}
theorem ok__law_box (D : Df K mg "_law_box" s__law_box ["_law_script", "_law_k"]) (B : Bn mg) : Ok P w K mg base 1 "_law_box" ["_law_script", "_law_k"] spBox := by
  refine D.ok sc__law_box (fun vs H Q E h => ?_) (fun f cdv A outer s H vs Q E hr h => ?_)
  · obtain ⟨_, _, _, rfl, _⟩ := h
    rfl
  · obtain ⟨a, ns, k, rfl, hS, hk, q⟩ := h
    have nd := sc__law_box.nd
    refine ⟨_, pss_cons (ps_set (i := 2) nd rfl (.inl rfl) (pe_ifExp (pt_cmpR op_lt (pv 1) (pe_len B.len (pa_cons (pv 0) pa_nil)) (nomark _)) (pe_ix ix_sq (pv 0) (pv 1) (fun _ _ => rfl)) pe_int))
      (pss_one (ps_ret (pe_lst (pa_cons (pe_op op_mul (pe_abs B.abs (pa_cons (pv 2) pa_nil)) (pe_int1 B.int (pa_cons (pe_cmpR op_ge (pe_abs B.abs (pa_cons (pv 2) pa_nil)) (pe_op op_pow pe_int pe_int) (nomark _)) pa_nil)))
        (pa_cons (pe_op op_add (pe_op op_add (pe_op op_mod (pe_int1 B.int (pa_cons (pv 2) pa_nil)) pe_int) (pe_op op_mul pe_int (pv 1))) pe_int) (pa_cons pe_int pa_nil)))))), ?_⟩
    have fin : ∀ (c : Int) (bb : Bool), 0 ≤ (if c < 0 then -c else c) * (if bb = true then 1 else 0) := fun c bb => by
      cases bb
      · simp
      · simp
        split <;> omega
    refine ⟨.int k, rfl, .ref a, rfl, true, a, ns.map V.int, rfl, hS, _, _, rfl, rfl, _, rfl, ite2 (fun h1 => ?_) (fun h1 => ?_)⟩
    · have hlt : k < ns.length := by
        have := of_decide_eq_true h1
        rw [List.length_map] at this
        omega
      refine ⟨.ref a, rfl, .int k, rfl, true, a, ns.map V.int, k, .int ns[k], rfl, rfl, hS, atI_nat (by rw [List.getElem?_map, List.getElem?_eq_getElem hlt]; rfl), ?_⟩
      refine ⟨_, rfl, _, rfl, _, rfl, _, rfl, 10, 18, rfl, rfl, ⟨by decide, by decide, by decide⟩, _, _, rfl, rfl, .inr ⟨_, rfl, _, _, rfl, rfl, .inr (by split <;> omega), ?_⟩⟩
      refine ⟨_, rfl, .inl ⟨_, rfl, _, _, rfl, rfl, (show (0 : Int) < 2305843009213693951 by decide), _, rfl, _, _, rfl, rfl, .inl ⟨by decide, by decide⟩, _, _, rfl, rfl, _, _, rfl, rfl, (by show 3 ≤ sizeLine; decide), fun p np => ?_⟩⟩
      refine q _ p (same_new np) np ⟨_, _, 0, upd_same, fin _ _, ?_, ?_, by decide, by decide⟩
      · have := Int.emod_nonneg ns[k] (show (2305843009213693951 : Int) ≠ 0 by decide)
        omega
      · have := Int.emod_lt_of_pos ns[k] (show (0 : Int) < 2305843009213693951 by decide)
        omega
    · refine ⟨_, rfl, _, rfl, _, rfl, _, rfl, 10, 18, rfl, rfl, ⟨by decide, by decide, by decide⟩, _, _, rfl, rfl, .inr ⟨_, rfl, _, _, rfl, rfl, .inr (by split <;> omega), ?_⟩⟩
      refine ⟨_, rfl, .inl ⟨_, rfl, _, _, rfl, rfl, (show (0 : Int) < 2305843009213693951 by decide), _, rfl, _, _, rfl, rfl, .inl ⟨by decide, by decide⟩, _, _, rfl, rfl, _, _, rfl, rfl, (by show 3 ≤ sizeLine; decide), fun p np => ?_⟩⟩
      refine q _ p (same_new np) np ⟨_, _, 0, upd_same, fin _ _, ?_, ?_, by decide, by decide⟩
      · have := Int.emod_nonneg 0 (show (2305843009213693951 : Int) ≠ 0 by decide)
        omega
      · have := Int.emod_lt_of_pos 0 (show (0 : Int) < 2305843009213693951 by decide)
        omega
theorem ok__law_take (D : Df K mg "_law_take" s__law_take ["_law_box_here", "_law_size_so"]) (B : Bn mg) : Ok P w K mg base 1 "_law_take" ["_law_box_here", "_law_size_so"] spTake := by
  refine D.ok sc__law_take (fun vs H Q E h => ?_) (fun f cdv A outer s H vs Q E hr h => ?_)
  · obtain ⟨_, _, _, rfl, _⟩ := h
    rfl
  · obtain ⟨b, n, m, rfl, ⟨x0, x1, x2, hb, h0, h1, h2, h3, h4⟩, hn, hm0, hm1, q⟩ := h
    have nd := sc__law_take.nd
    refine ⟨_, pss_cons (ps_if (pt_cmpR op_gt (pe_ix ix_sq (pv 0) pe_int (fun _ _ => rfl)) pe_int (nomark _))
        (pss_cons (ps_set (i := 2) nd rfl (.inl rfl) (pe_op op_mod (pe_int1 B.int (pa_cons (pe_ix ix_sq (pv 0) pe_int (fun _ _ => rfl)) pa_nil)) (pv 1)))
        (pss_cons (ps_asg (pe_op op_fdivW (pe_ix ix_sq (pv 0) pe_int (fun _ _ => rfl)) (pv 1)) (pg_sub (pv 0) pe_int set_list))
        (pss_one (ps_ret (pv 2))))) pss_nil)
      (pss_cons (ps_asg (pe_op op_add (pe_ix ix_sq (pv 0) pe_int (fun _ _ => rfl)) pe_int) (pg_sub (pv 0) pe_int set_list))
      (pss_cons (ps_set (i := 3) nd rfl (.inl rfl) (pe_op op_mod (pe_int1 B.int (pa_cons (pe_op op_mul (pe_op op_add (pe_ix ix_sq (pv 0) pe_int (fun _ _ => rfl)) (pe_op op_mul pe_int (pe_ix ix_sq (pv 0) pe_int (fun _ _ => rfl)))) (pe_op op_add pe_int (pe_ix ix_sq (pv 0) pe_int (fun _ _ => rfl)))) pa_nil)) pe_int))
      (pss_cons (ps_set (i := 4) nd rfl (.inl rfl) (pe_op op_add (pe_op op_mod (pe_int1 B.int (pa_cons (pv 3) pa_nil)) pe_int) pe_int))
      (pss_cons (ps_set (i := 5) nd rfl (.inl rfl) (pe_op op_mod (pe_int1 B.int (pa_cons (pe_op op_mul (pe_op op_add (pe_op op_add (pv 3) (pe_ix ix_sq (pv 0) pe_int (fun _ _ => rfl))) (pe_op op_fdiv (pe_ix ix_sq (pv 0) pe_int (fun _ _ => rfl)) pe_int)) (pv 4)) pa_nil)) pe_int))
      (pss_one (ps_ret (pe_op op_mod (pe_int1 B.int (pa_cons (pe_op op_fdiv (pe_op op_mod (pe_int1 B.int (pa_cons (pe_op op_add (pe_op op_mul (pv 5) pe_int) (pv 3)) pa_nil)) pe_int) pe_int) pa_nil)) (pv 1)))))))), ?_⟩
    refine ⟨_, rfl, true, b, _, 0, _, rfl, rfl, .lst hb, rfl, _, _, rfl, rfl, _, rfl, ite2 (fun hp => ?_) (fun hp => ?_)⟩
    · refine ⟨_, rfl, true, b, _, 0, _, rfl, rfl, .lst hb, rfl, .inl ⟨_, rfl, _, rfl, _, _, rfl, rfl, hm0, ?_⟩⟩
      refine ⟨_, rfl, true, b, _, 0, _, rfl, rfl, .lst hb, rfl, _, rfl, _, _, rfl, rfl, wide_div hm0 (b := 30) (by omega) (by decide) (by decide), ?_⟩
      refine ⟨_, rfl, b, _, 0, 0, rfl, rfl, hb, rfl, _, rfl, ?_⟩
      refine q _ _ Fr.put ⟨x0 / m, x1, x2, upd_same, Int.ediv_nonneg h0 (by omega), h1, h2, h3, by omega⟩ (Int.emod_nonneg _ (by omega)) (Int.emod_lt_of_pos _ hm0)
    · refine ⟨_, rfl, true, b, _, 2, _, rfl, rfl, .lst hb, rfl, _, _, rfl, rfl, _, rfl, b, _, 2, 2, rfl, rfl, hb, rfl, ?_⟩
      have hb' : (upd H b (.lst ([V.int x0, V.int x1, V.int x2].set 2 (V.int (x2 + 1))))) b = some (.lst [.int x0, .int x1, .int (x2 + 1)]) := upd_same
      generalize hH : upd H b (.lst ([V.int x0, V.int x1, V.int x2].set 2 (V.int (x2 + 1)))) = H1 at hb' ⊢
      have fr : LwB.Fr b H H1 := by rw [← hH]; exact Fr.put
      refine ⟨_, rfl, true, b, _, 1, _, rfl, rfl, .lst hb', rfl, _, rfl, true, b, _, 2, _, rfl, rfl, .lst hb', rfl, _, _, rfl, rfl, .inl ⟨by decide, by decide⟩, _, _, rfl, rfl, ?_⟩
      refine ⟨_, rfl, true, b, _, 2, _, rfl, rfl, .lst hb', rfl, _, _, rfl, rfl, _, _, rfl, rfl, .inr ⟨by omega, by omega⟩, .inl ⟨_, rfl, _, _, rfl, rfl, (show (0 : Int) < 2147483647 by decide), ?_⟩⟩
      generalize ho : (x1 + 48271 * (x2 + 1)) * (39373 + (x2 + 1)) % 2147483647 = once
      have o1 : 0 ≤ once := by rw [← ho]; exact Int.emod_nonneg _ (by decide)
      have o2 : once < 2147483647 := by rw [← ho]; exact Int.emod_lt_of_pos _ (by decide)
      refine ⟨_, rfl, .inl ⟨_, rfl, _, _, rfl, rfl, (show (0 : Int) < 40009 by decide), _, _, rfl, rfl, ?_⟩⟩
      have f1 : 0 ≤ once % 40009 := Int.emod_nonneg _ (by decide)
      have f2 : once % 40009 < 40009 := Int.emod_lt_of_pos _ (by decide)
      refine ⟨_, rfl, _, rfl, true, b, _, 2, _, rfl, rfl, .lst hb', rfl, _, _, rfl, rfl, _, rfl, true, b, _, 1, _, rfl, rfl, .lst hb', rfl, _, _, rfl, rfl, ⟨by decide, by decide⟩, _, _, rfl, rfl, _, rfl, _, _, rfl, rfl, .inr ⟨by omega, by omega⟩, .inl ⟨_, rfl, _, _, rfl, rfl, (show (0 : Int) < 2147483629 by decide), ?_⟩⟩
      generalize ha : (once + (x2 + 1) + x1 / 1000003) * (once % 40009 + 7) % 2147483629 = again
      have a1 : 0 ≤ again := by rw [← ha]; exact Int.emod_nonneg _ (by decide)
      have a2 : again < 2147483629 := by rw [← ha]; exact Int.emod_lt_of_pos _ (by decide)
      refine ⟨_, rfl, _, _, rfl, rfl, .inr ⟨by decide, by decide⟩, _, rfl, _, _, rfl, rfl, .inl ⟨_, rfl, _, _, rfl, rfl, (show (0 : Int) < 2147483587 by decide), _, _, rfl, rfl, ⟨by decide, by decide⟩, .inl ⟨_, rfl, _, rfl, _, _, rfl, rfl, hm0, ?_⟩⟩⟩
      refine q _ _ fr ⟨x0, x1, x2 + 1, hb', h0, h1, h2, by omega, by omega⟩ (Int.emod_nonneg _ (by omega)) (Int.emod_lt_of_pos _ hm0)
theorem ok__law_cells (D : Df K mg "_law_cells" s__law_cells ["_law_script", "_law_top_so"]) (B : Bn mg) : Ok P w K mg base 1 "_law_cells" ["_law_script", "_law_top_so"] (spCells K) := by
  refine D.ok sc__law_cells (fun vs H Q E h => ?_) (fun f cdv A outer s H vs Q E hr h => ?_)
  · obtain ⟨_, _, _, rfl, _⟩ := h
    rfl
  · obtain ⟨a, ns, t, rfl, hS, ht0, ht, hl, q⟩ := h
    have nd := sc__law_cells.nd
    refine ⟨_, pss_cons (ps_set (i := 2) nd rfl (.inl rfl) (PE.imp (t' := tCellsAt K) (pe_orT (pe_listQ B.list (pa_cons (pe_slice sl_list (pv 0) po_none (po_some (pv 1))) pa_nil)) (pe_one (pe_lst (pa_cons pe_int pa_nil)))) ?imp))
      (pss_cons (ps_for PassesOwn.never rfl (pi_enumS (by rfl) B.enumerate (pa_cons (pe_slice sl_list (pv 0) (po_some (pv 1)) (po_some pe_int)) pa_nil))
          (pg_tup rfl (pgs_cons (pg_name (i := 3) nd rfl (.inl rfl)) (pgs_cons (pg_name (i := 4) nd rfl (.inl rfl)) pgs_nil)))
        (pss_cons (ps_set (i := 5) nd rfl (.inl rfl) (pe_op op_mod (pe_int1 B.int (pa_cons (pv 3) pa_nil)) (pv 1)))
        (pss_one (ps_asg (pe_op op_add (pe_ix ix_sq (pv 2) (pv 5) (fun _ _ => rfl)) (pe_op op_mul (pv 4) (pe_op op_add (pv 3) pe_int))) (pg_sub (pv 2) (pv 5) set_list)))))
      (pss_one (ps_ret (pv 2)))), ?_⟩
    case imp =>
      rintro σ H Q ⟨a, ns, t, h0, h1, hS, ht, q⟩
      refine ⟨.ref a, h0, .int t, h1, t, rfl, a, _, rfl, hS, fun p1 np1 => ⟨true, p1, _, rfl, .lst upd_same, fun H2 o no => ⟨_, .inl ⟨_, SqL.of no.2.2, rfl⟩, ?_⟩⟩⟩
      have s1 := same_new (o := HO.lst (cutV (ns.map V.int) none (some (t : Int)))) np1
      rw [cut_to, ← List.map_take] at no s1
      rw [cut_to, ← List.map_take]
      by_cases hn : ns = []
      · subst hn
        rw [if_neg (show ¬ ((!(List.map V.int (List.take t ([] : List Int))).isEmpty) = true) by simp)]
        refine ⟨(by show 1 ≤ sizeLine; decide), fun p np => ?_⟩
        have sH : Same H H2 := s1.trans no.1
        exact q _ p [0] ⟨sH.trans (same_new np), sH.free np, upd_same⟩ (by decide) ht (fun h => absurd h (Nat.not_lt_zero _))
      · have hlen : 0 < ns.length := List.length_pos_iff.mpr hn
        have e : (!((ns.take t).map V.int).isEmpty) = true := by
          cases hc : (ns.take t).map V.int with
          | nil =>
            have := congrArg List.length hc
            rw [List.length_map, List.length_take] at this
            have h2 : min t ns.length = 0 := this
            omega
          | cons x r => rfl
        rw [if_pos e]
        refine q _ o (ns.take t) ⟨s1.trans no.1, s1.free no.2.1, no.2.2⟩ ?_ ?_ ?_ <;> rw [List.length_take] <;> omega
    refine ⟨a, ns, t, rfl, rfl, hS, ht0, fun H1 o zs0 no hz0 hz1 hz2 => ?_⟩
    refine ⟨.ref a, rfl, .int t, rfl, t, rfl, 63, rfl, a, _, rfl, no.1.seq hS, fun p np => ?_⟩
    have hpo : p ≠ o := (ne_of_none no.2.2 np).symm
    have s2 := same_new (o := HO.lst (cutV (ns.map V.int) (some (t : Int)) (some (63 : Int)))) np
    have hp : Sq true (upd H1 p (.lst (cutV (ns.map V.int) (some (t : Int)) (some (63 : Int))))) p (cutV (ns.map V.int) (some (t : Int)) (some (63 : Int))) := .lst upd_same
    generalize upd H1 p (.lst (cutV (ns.map V.int) (some (t : Int)) (some (63 : Int)))) = H2 at s2 hp ⊢
    have ecut : cutV (ns.map V.int) (some (t : Int)) (some (63 : Int)) = ((ns.drop t).take (63 - t)).map V.int := by
      have := cut_mid (ns.map V.int) t 63
      rw [List.map_take, List.map_drop]
      exact this
    rw [ecut] at hp
    refine ⟨true, p, _, rfl, hp.B, for_enumS (K := K) (b := true) (a := p) (xs := ((ns.drop t).take (63 - t)).map V.int)
      (fun i σ H' => ∃ (zs : List Int) (x3 x4 x5 : Option V), σ = [some (.ref a), some (.int t), some (.ref o), x3, x4, x5] ∧ Same H H' ∧ H' o = some (.lst (zs.map V.int)) ∧ zs.length = zs0.length ∧ Sq true H' p (((ns.drop t).take (63 - t)).map V.int))
      ⟨zs0, none, none, none, rfl, no.1.trans s2, s2 _ _ no.2.2, rfl, hp⟩ (fun i σ H' _ ⟨_, _, _, _, _, _, _, _, hp'⟩ => hp'.B) ?_ ?_⟩
    · rintro i x T σ H' hi ⟨zs, x3, x4, x5, rfl, sm, ho, hzl, hp'⟩ nT
      have nTo : o ≠ T := ne_of_none ho nT
      obtain ⟨c, hc, rfl⟩ : ∃ c : Int, ((ns.drop t).take (63 - t))[i]? = some c ∧ x = .int c := by
        rw [List.getElem?_map] at hi
        cases e : ((ns.drop t).take (63 - t))[i]? with
        | none =>
          rw [e] at hi
          cases hi
        | some c =>
          rw [e] at hi
          exact ⟨c, rfl, (Option.some.inj hi).symm⟩
      have hil : i < 63 := by
        have := (List.getElem?_eq_some_iff.mp hc).1
        rw [List.length_take, List.length_drop] at this
        omega
      have htn : t < ns.length := by
        have := (List.getElem?_eq_some_iff.mp hc).1
        rw [List.length_take, List.length_drop] at this
        omega
      have hzt : zs.length = t := hzl.trans (hz2 htn)
      have hkt : i % t < zs.length := by
        rw [hzt]
        exact Nat.mod_lt _ ht0
      have eint : ((i : Nat) : Int) % ((t : Nat) : Int) = ((i % t : Nat) : Int) := rfl
      have sT : Same H (upd H' T (.tup [.int (i : Nat), .int c])) := sm.trans (same_new nT)
      have hoT : (upd H' T (.tup [.int (i : Nat), .int c])) o = some (.lst (zs.map V.int)) := by rw [upd_ne nTo]; exact ho
      have hpT : Sq true (upd H' T (.tup [.int (i : Nat), .int c])) p (((ns.drop t).take (63 - t)).map V.int) := (same_new nT).sq hp'
      refine ⟨T, [.int (i : Nat), .int c], rfl, SqT.of upd_same, rfl, .int (i : Nat), [.int c], rfl, .int c, [], rfl, rfl, ?_⟩
      refine ⟨_, rfl, .inl ⟨_, rfl, _, rfl, _, _, rfl, rfl, (by omega), ?_⟩⟩
      have hat : atI (zs.map V.int) ((i % t : Nat) : Int) = some (.int zs[i % t]) := atI_nat (by rw [List.getElem?_map, List.getElem?_eq_getElem hkt]; rfl)
      refine ⟨_, rfl, _, rfl, true, o, _, _, _, rfl, rfl, .lst hoT, hat, _, rfl, _, rfl, _, _, rfl, rfl, _, _, rfl, rfl, .inr ⟨by omega, by omega⟩, _, _, rfl, rfl, ?_⟩
      refine ⟨_, rfl, _, rfl, o, _, _, i % t, rfl, rfl, hoT, by rw [List.length_map]; exact ixN_nat hkt, ?_⟩
      refine ⟨zs.set (i % t) (zs[i % t] + c * ((i : Nat) + 2)), _, _, _, rfl, Same.young sT no.2.1, ?_, ?_, ?_⟩
      · rw [upd_same, List.map_set]
      · rw [List.length_set]
        exact hzl
      · exact hpT.mv fun u e => by rw [upd_ne hpo]; exact e
    · rintro σ H' ⟨zs, x3, x4, x5, rfl, sm, ho, hzl, hp'⟩
      exact ⟨_, rfl, q H' o zs ⟨sm, no.2.1, ho⟩ (by omega) (by omega)⟩
theorem ok__law_of (D : Df K mg "_law_of" s__law_of ["_law_box_here", "_law_goods_so"]) (B : Bn mg) (OT : Ok P w K mg base 1 "_law_take" ["_law_box_here", "_law_size_so"] spTake) : Ok P w K mg base 2 "_law_of" ["_law_box_here", "_law_goods_so"] spOf := by
  refine D.ok sc__law_of (fun vs H Q E h => ?_) (fun f cdv A outer s H vs Q E hr h => ?_)
  · obtain ⟨_, _, _, _, rfl, _⟩ := h
    rfl
  · obtain ⟨b, n, g, xs, rfl, hb, hn, hG, hx, q⟩ := h
    refine ⟨_, pss_one (ps_ret (pe_ix ix_goods (pv 1) (pe_c OT hr (pa_cons (pv 0) (pa_cons (pe_lenG B.len (pa_cons (pv 1) pa_nil)) pa_nil))) (fun _ _ => rfl))), ?_⟩
    have hl := hG.len
    refine ⟨g, rfl, .ref b, rfl, g, rfl, b, g, xs, rfl, hG, b, n, _, rfl, hb, hn, by omega, by omega, fun H' r fr bx r0 r1 => ?_⟩
    have hlt : r.toNat < xs.length := by omega
    exact ⟨b, xs, r.toNat, xs[r.toNat], by rw [Int.toNat_of_nonneg r0], hG.fr fr, List.getElem?_eq_getElem hlt, q H' _ fr bx (List.getElem_mem hlt)⟩
theorem ok__law_pick (D : Df K mg "_law_pick" s__law_pick ["_law_box_here", "_law_goods_so", "_law_count_so"]) (B : Bn mg) (OT : Ok P w K mg base 1 "_law_take" ["_law_box_here", "_law_size_so"] spTake) : Ok P w K mg base 2 "_law_pick" ["_law_box_here", "_law_goods_so", "_law_count_so"] spPick := by
  refine D.ok sc__law_pick (fun vs H Q E h => ?_) (fun f cdv A outer s H vs Q E hr h => ?_)
  · obtain ⟨_, _, _, _, _, rfl, _⟩ := h
    rfl
  · obtain ⟨b, n, m, g, xs, rfl, hb, hn, hm, hG, q⟩ := h
    have nd := sc__law_pick.nd
    have hl := hG.len
    refine ⟨_, pss_cons (ps_par (i := 3) (j := 4) (by rfl) nd rfl rfl (by decide) rfl rfl (pa_cons (pe_listG rfl B.list (pa_cons (pv 1) pa_nil)) (pa_cons (pe_lst pa_nil) pa_nil)) (by rfl))
      (pss_cons (ps_for PassesOwn.never rfl (pi_range1 (by rfl) B.range (pa_cons (pe_callB (call_min2 rfl) (by rfl) B.min (by decide +kernel) (pa_cons (pe_int1 B.int (pa_cons (pv 2) pa_nil)) (pa_cons (pe_len B.len (pa_cons (pv 3) pa_nil)) pa_nil))) pa_nil)) (pg_name (i := 5) nd rfl (.inl rfl))
        (pss_one (ps_expr (pe_bm PySem.F.plainAttrs_list PySem.F.slot_list_append PySem.F.type_list_append mt_append (pv 4) (pa_cons (pe_bm PySem.F.plainAttrs_list PySem.F.slot_list_pop PySem.F.type_list_pop mt_popAt (pv 3) (pa_cons (pe_c OT hr (pa_cons (pv 0) (pa_cons (pe_len B.len (pa_cons (pv 3) pa_nil)) pa_nil))) pa_nil)) pa_nil)))))
      (pss_one (ps_ret (pv 4)))), ?_⟩
    refine ⟨g, rfl, b, g, xs, rfl, hG, fun H1 p1 n1 => ⟨Nat.zero_le _, fun p2 n2 => ⟨_, _, rfl, ?_⟩⟩⟩
    have hp12 : p1 ≠ p2 := ne_of_none n1.2.2 n2
    have s2 : Same H (upd H1 p2 (.lst [])) := n1.1.trans (same_new n2)
    have np2 : H p2 = none := n1.1.free n2
    have hb1 : p1 ≠ b := hb.ne_new n1.2.1
    have hb2 : p2 ≠ b := hb.ne_new np2
    refine ⟨_, rfl, .inl ⟨_, rfl, _, rfl, true, p1, xs, rfl, .lst (by rw [upd_ne hp12]; exact n1.2.2), _, _, rfl, _, rfl, ?_⟩⟩
    have emin : (if ((xs.length : Nat) : Int) < (m : Int) then ((xs.length : Nat) : Int) else (m : Int)) = ((min m xs.length : Nat) : Int) := by
      split <;> omega
    rw [emin]
    refine ⟨by omega, by omega, for_range (lo := 0) (n := (((min m xs.length : Nat) : Int) - 0).toNat)
      (fun i σ H' => ∃ (x5 : Option V) (pool fs : List V), σ = [some (.ref b), some g, some (.int m), some (.ref p1), some (.ref p2), x5] ∧ LwB.Fr b H H' ∧ Bx (n + i) H' b ∧ H' p1 = some (.lst pool) ∧ H' p2 = some (.lst fs) ∧ fs.length = i ∧ (fs ++ pool).Perm xs)
      ⟨none, xs, [], rfl, Fr.same s2, hb.same s2, by rw [upd_ne hp12]; exact n1.2.2, upd_same, rfl, List.Perm.refl _⟩ ?_ ?_⟩
    · rintro i σ H' hi ⟨x5, pool, fs, rfl, fr, bx, e1, e2, hf, pm⟩
      have hi' : i < min m xs.length := by omega
      have hpl : fs.length + pool.length = xs.length := by
        rw [← List.length_append]
        exact pm.length_eq
      refine ⟨_, rfl, .inl ⟨rfl, _, SqL.of e2⟩, _, rfl, .inl ⟨rfl, _, SqL.of e1⟩, _, rfl, _, rfl, true, p1, pool, rfl, .lst e1, b, n + i, _, rfl, bx, by omega, by omega, by omega, fun H2 r fr2 bx2 r0 r1 => ?_⟩
      have hk : r.toNat < pool.length := by omega
      have e1' : H2 p1 = some (.lst pool) := fr2 _ _ e1 hb1
      have e2' : H2 p2 = some (.lst fs) := fr2 _ _ e2 hb2
      refine ⟨p1, pool, r, r.toNat, pool[r.toNat], rfl, rfl, e1', by omega, by omega, ?_, List.getElem?_eq_getElem hk, ?_⟩
      · have := seqIndex_nat hk
        rw [Int.toNat_of_nonneg r0] at this
        exact this
      · refine ⟨p2, fs, _, rfl, rfl, by rw [upd_ne hp12.symm]; exact e2', by show fs.length < sizeLine; exact Nat.lt_of_le_of_lt (by omega : fs.length ≤ 1000000) (by decide), ?_⟩
        refine ⟨_, pool.eraseIdx r.toNat, fs ++ [pool[r.toNat]], rfl, Fr.young (Fr.young (fr.trans fr2) n1.2.1) np2, ?_, ?_, upd_same, ?_, pick_perm hk pm⟩
        · exact (bx2.upd hb1).upd hb2
        · rw [upd_ne hp12]
          exact upd_same
        · rw [List.length_append, List.length_singleton, hf]
    · rintro σ H' ⟨x5, pool, fs, rfl, fr, bx, e1, e2, hf, pm⟩
      refine ⟨_, rfl, q H' p2 fs pool fr ?_ np2 e2 pm ?_⟩
      · exact bx.mono (by omega)
      · rw [hf]
        omega
end
end K13
namespace K13
open PySem PySem.Spec PyProof.Rows L2 IqX RvT LwB EnS TL NsT
variable [LwB.KC]
section
variable {P : Program} {w : World} {K : PySem.W.Frag} {mg : Str → Option Value} {base : Heap}
theorem fn_law {f : Addr} {fd : FuncData} (F : Fun K "law" "law" s_law f fd) (B : Bn mg) (OC : Ok P w K mg base 1 "_law_cells" ["_law_script", "_law_top_so"] (spCells K)) (OB : Ok P w K mg base 1 "_law_box" ["_law_script", "_law_k"] spBox) {k : Nat} (hk : 1 ≤ k) (OR : Ok P w K mg base k "_law_right" ["_law_box_here"] spRightB) :
    FnOk P w K mg base CX0 (k + 1) f fd ["_law_script"] (spScriptG K) := by
  refine F.ok sc_law (fun vs H Q E h => ?_) (fun cdv A outer s H vs Q E hr h => ?_)
  · obtain ⟨_, _, _, rfl, _⟩ := h
    rfl
  · obtain ⟨gd, a, ns, rfl, hS, hl, q⟩ := h
    have nd := sc_law.nd
    have hr1 : Room 1 _ := hr.mono hk
    refine ⟨_, pss_cons (ps_set (i := 1) nd rfl (.inr rfl) (pe_c OC hr1 (pa_cons (pv 0) (pa_cons pe_int pa_nil))))
      (pss_one (ps_ret (pe_callB (cr_all rfl) (by rfl) B.all (by decide +kernel) (pa_cons
        (pe_lc (own := [("_law_k", 2)]) (g := gName 2) (by rfl) nd (pi_range1 (by rfl) B.range (pa_cons (pe_len B.len (pa_cons (pv 1) pa_nil)) pa_nil))
          (blkOk_by (N := ["_law_script", "_law_cells_so", "_law_k"]) (sc := defScope s_law) (by decide +kernel))
          (fun _ _ _ _ _ => pg_name (i := 2) nd rfl (.inl rfl)) (fun _ _ _ _ _ => pts_nil) (fun _ _ _ _ _ => pe_c OR hr (pa_cons (pe_c OB hr1 (pa_cons (pv 1) (pa_cons (pv 2) pa_nil))) pa_nil))) pa_nil)))), ?_⟩
    refine ⟨_, rfl, a, ns, 3, rfl, hS, by decide, by decide, hl, fun H1 c zs n1 z0 z1 => ?_⟩
    have hc : Sq true H1 c (zs.map V.int) := .lst n1.2.2
    refine ⟨_, rfl, true, c, _, rfl, hc, _, rfl, by rw [List.length_map]; omega, by rw [List.length_map]; omega, fun D nD => ?_⟩
    refine lc_range (lo := 0) (n := (((zs.map V.int).length : Nat) : Int).toNat) (fun i H' => Same H1 H' ∧ H' D = some (.lst ((List.replicate i true).map V.bl)))
      ⟨same_new nD, upd_same⟩ ?_ ?_
    · rintro i H2 hi ⟨sm, eD⟩
      rw [List.length_map] at hi
      refine ⟨rfl, ?_⟩
      show tCall spRightB [] E0 (tCons (tCall spBox [] E0 (tCons (tVar 1) (tCons (tVar 2) tNil))) tNil) _ _ _
      refine ⟨_, rfl, _, rfl, c, zs, i, (by rw [Int.zero_add]; rfl), sm.sq hc, by omega, fun H3 p s3 np bp => ?_⟩
      refine ⟨((gd.mv n1.1).mv sm).mv s3, p, rfl, bp, fun H4 f4 => ?_⟩
      have k4 : Same H2 H4 := fun x o e => f4 x o (s3 x o e) (ne_of_none e np)
      refine ⟨_, k4 _ _ eD, ?_, Same.young (sm.trans k4) nD, ?_⟩
      · rw [List.length_map, List.length_replicate]
        exact small1000 (by omega)
      · rw [upd_same, List.replicate_succ', List.map_append]
        rfl
    · rintro H2 ⟨sm, eD⟩
      refine ⟨D, List.replicate _ true, rfl, SqL.of eD, ?_⟩
      have ea : ∀ n : Nat, (List.replicate n true).all id = true := fun n => by
        rw [List.all_eq_true]
        intro z hz
        exact (List.mem_replicate.mp hz).2
      rw [ea]
      exact q _
end
end K13
namespace K13
open PySem PySem.Spec PyProof.Rows L2 IqX RvT LwB EnS TL NsT
structure Facts [KC] (K : PySem.W.Frag) (mg : Str → Option Value) : Prop where
  d_is_name : Df K mg "is_name" s_is_name ["value"]
  d_is_log : Df K mg "is_log" s_is_log ["thing"]
  d_copied : Df K mg "copied" s_copied ["logs"]
  d_in_order : Df K mg "in_order" s_in_order ["logs"]
  d_is_part : Df K mg "is_part" s_is_part ["word", "log"]
  d_is_base : Df K mg "is_base" s_is_base ["thing"]
  d_base_of : Df K mg "base_of" s_base_of ["logs"]
  d_does : Df K mg "does" s_does ["base", "log"]
  d_names_in : Df K mg "names_in" s_names_in ["base"]
  d__law_box : Df K mg "_law_box" s__law_box ["_law_script", "_law_k"]
  d__law_take : Df K mg "_law_take" s__law_take ["_law_box_here", "_law_size_so"]
  d__law_cells : Df K mg "_law_cells" s__law_cells ["_law_script", "_law_top_so"]
  d__law_of : Df K mg "_law_of" s__law_of ["_law_box_here", "_law_goods_so"]
  d__law_pick : Df K mg "_law_pick" s__law_pick ["_law_box_here", "_law_goods_so", "_law_count_so"]
  d__law_same : Df K mg "_law_same" s__law_same ["_law_got", "_law_due"]
  d__law_lists : Df K mg "_law_lists" s__law_lists ["_law_matter"]
  d__law_names : Df K mg "_law_names" s__law_names ["_law_box_here", "_law_much_so"]
  d__law_lies : Df K mg "_law_lies" s__law_lies ["_law_verse", "_law_row"]
  d__law_sorted : Df K mg "_law_sorted" s__law_sorted ["_law_rows"]
  d__law_least : Df K mg "_law_least" s__law_least ["_law_rows"]
  d__law_event_row : Df K mg "_law_event_row" s__law_event_row ["_law_box_here", "_law_tags", "_law_most"]
  d__law_some_rows : Df K mg "_law_some_rows" s__law_some_rows ["_law_box_here", "_law_tags", "_law_many", "_law_most"]
  d__law_done : Df K mg "_law_done" s__law_done ["_law_words_so", "_law_row"]
  d__law_base_right : Df K mg "_law_base_right" s__law_base_right ["_law_box_here", "_law_tags", "_law_rows"]
  d__law_by_hand_right : Df K mg "_law_by_hand_right" s__law_by_hand_right []
  d__law_right : Df K mg "_law_right" s__law_right ["_law_box_here"]
  bn : Bn mg
  bs : Bs mg
theorem ok_law [KC] {P : Program} {w : World} {K : PySem.W.Frag} {mg : Str → Option Value} {base : Heap} {f : Addr} {fd : FuncData} (F : Fun K "law" "law" s_law f fd) (T : Facts K mg) : FnOk P w K mg base CX0 7 f fd ["_law_script"] (spScriptG K) := by
  have OT := ok__law_take (P := P) (w := w) (base := base) T.d__law_take T.bn
  have OO := ok__law_of T.d__law_of T.bn OT
  have OPk := ok__law_pick T.d__law_pick T.bn OT
  have ON := ok__law_names T.d__law_names T.bn OT OO OPk
  have OE := ok__law_event_row T.d__law_event_row T.bn OT OO
  have OSr := ok__law_some_rows T.d__law_some_rows T.bn OT OE
  have OLs := ok__law_lies (P := P) (w := w) (base := base) T.d__law_lies T.bn
  have OSo := ok__law_sorted (P := P) (w := w) (base := base) T.d__law_sorted T.bn T.bs
  have OLe := ok__law_least T.d__law_least T.bn OSo OLs
  have OPs := ok_is_part (P := P) (w := w) (base := base) T.d_is_part T.bn
  have OIt := (ok_in_orderT (P := P) (w := w) (base := base) T.d_in_order T.bn T.bs).weak (tinO (t := false))
  have OCps := ok_copied (P := P) (w := w) (base := base) T.d_copied T.bn
  have ODs := ok_does T.d_does OPs
  have ODs100 := ODs.weak (tdoes (t := true) (u := false) (b := false))
  have ODs000 := ODs.weak (tdoes (t := false) (u := false) (b := false))
  have ODs111 := ODs.weak (tdoes (t := true) (u := true) (b := true))
  have OBs00 := tr_base_of (t := false) (u := false) T.d_base_of T.bn (OCps.weak (tcopied (t := false) (u := false))) OIt ODs100
  have OBs10 := tr_base_of (t := true) (u := false) T.d_base_of T.bn (OCps.weak (tcopied (t := true) (u := false))) OIt ODs100
  have OBs11 := tr_base_of (t := true) (u := true) T.d_base_of T.bn (OCps.weak (tcopied (t := true) (u := true))) OIt ODs100
  have OIn := ok_is_name (P := P) (w := w) (base := base) T.d_is_name T.bn
  have OIl := (ok_is_log T.d_is_log T.bn OIn).weak tislog
  have OIb := tr_is_base T.d_is_base T.bn OIl OBs00
  have ON0 := tr_names_in (P := P) (w := w) (base := base) (t := false) (u := false) T.d_names_in T.bn
  have ON1 := tr_names_in (P := P) (w := w) (base := base) (t := true) (u := true) T.d_names_in T.bn
  have ODn := (ok__law_done T.d__law_done T.bn OLs).weak (tdone (t := false) (b := false))
  have OLi := (ok__law_lists (P := P) (w := w) (base := base) T.d__law_lists T.bn 3).weak (tlists (n := 2))
  have OSm := (ok__law_same (P := P) (w := w) (base := base) T.d__law_same T.bn 4).weak (tsame (n := 3))
  have OLeT := OLe.weak (tleast (t := true))
  have OBr := tr_baseright (k := 4) (by decide) T.d__law_base_right T.bn OE OLeT OLi OSm OBs00 OBs11 T.d_base_of OIb T.d_is_base ON0 ON1 T.d_names_in ODs000 ODs111 T.d_does ODn rfl
  have OHa := tr_hand T.d__law_by_hand_right T.bn OBs00 OBs10 OIb ODs000 ON0 OSm
  have OR := tr_right T.d__law_right T.bn OHa OT ON OSr OBr
  exact fn_law F T.bn (ok__law_cells T.d__law_cells T.bn) (ok__law_box T.d__law_box T.bn) (by decide) OR
theorem all_mk {l : PySem.W.OpenLaw} {w : World} {K : PySem.W.Frag} {h : Heap} {mg : Str → Option Value} {fa f0 f1 f2 f3 f4 f5 f6 f7 f8 f9 f10 f11 f12 f13 f14 f15 f16 f17 f18 f19 f20 f21 f22 f23 f24 f25 f26 : Addr} (X : K.In h) (G : h.Ns mainGlobals mg) (hfa : mg "law" = some (.ref fa))
    {od0 an0 od1 an1 od2 an2 od3 an3 od4 an4 od5 an5 od6 an6 od7 an7 od8 an8 od9 an9 od10 an10 od11 an11 od12 an12 od13 an13 od14 an14 od15 an15 od16 an16 od17 an17 od18 an18 od19 an19 od20 an20 od21 an21 od22 an22 od23 an23 od24 an24 od25 an25 od26 an26 : Option Addr} {sl0 sl1 sl2 sl3 sl4 sl5 sl6 sl7 sl8 sl9 sl10 sl11 sl12 sl13 sl14 sl15 sl16 sl17 sl18 sl19 sl20 sl21 sl22 sl23 sl24 sl25 sl26 : Array (Option Value)} {oc0 kV0 dc0 pm0 cd0 ct0 oc1 kV1 dc1 pm1 cd1 ct1 oc2 kV2 dc2 pm2 cd2 ct2 oc3 kV3 dc3 pm3 cd3 ct3 oc4 kV4 dc4 pm4 cd4 ct4 oc5 kV5 dc5 pm5 cd5 ct5 oc6 kV6 dc6 pm6 cd6 ct6 oc7 kV7 dc7 pm7 cd7 ct7 oc8 kV8 dc8 pm8 cd8 ct8 oc9 kV9 dc9 pm9 cd9 ct9 oc10 kV10 dc10 pm10 cd10 ct10 oc11 kV11 dc11 pm11 cd11 ct11 oc12 kV12 dc12 pm12 cd12 ct12 oc13 kV13 dc13 pm13 cd13 ct13 oc14 kV14 dc14 pm14 cd14 ct14 oc15 kV15 dc15 pm15 cd15 ct15 oc16 kV16 dc16 pm16 cd16 ct16 oc17 kV17 dc17 pm17 cd17 ct17 oc18 kV18 dc18 pm18 cd18 ct18 oc19 kV19 dc19 pm19 cd19 ct19 oc20 kV20 dc20 pm20 cd20 ct20 oc21 kV21 dc21 pm21 cd21 ct21 oc22 kV22 dc22 pm22 cd22 ct22 oc23 kV23 dc23 pm23 cd23 ct23 oc24 kV24 dc24 pm24 cd24 ct24 oc25 kV25 dc25 pm25 cd25 ct25 oc26 kV26 dc26 pm26 cd26 ct26 : Value}
    (a0 : PySem.W.nsIn K mainGlobals "is_name" = some (some (.ref f0))) (l0 : K.lookup f0 = some ⟨oc0, od0, .func (PySem.W.fnOf "is_name" "is_name" (defArgs s_is_name) (defBody s_is_name) (defScope s_is_name) .none kV0 dc0 pm0 an0 cd0 ct0), sl0⟩) (c0 : PySem.W.codeIn K cd0 "is_name" = true) (k0 : PySem.W.keepIn K (.ref f0) = true)
    (a1 : PySem.W.nsIn K mainGlobals "is_log" = some (some (.ref f1))) (l1 : K.lookup f1 = some ⟨oc1, od1, .func (PySem.W.fnOf "is_log" "is_log" (defArgs s_is_log) (defBody s_is_log) (defScope s_is_log) .none kV1 dc1 pm1 an1 cd1 ct1), sl1⟩) (c1 : PySem.W.codeIn K cd1 "is_log" = true) (k1 : PySem.W.keepIn K (.ref f1) = true)
    (a2 : PySem.W.nsIn K mainGlobals "copied" = some (some (.ref f2))) (l2 : K.lookup f2 = some ⟨oc2, od2, .func (PySem.W.fnOf "copied" "copied" (defArgs s_copied) (defBody s_copied) (defScope s_copied) .none kV2 dc2 pm2 an2 cd2 ct2), sl2⟩) (c2 : PySem.W.codeIn K cd2 "copied" = true) (k2 : PySem.W.keepIn K (.ref f2) = true)
    (a3 : PySem.W.nsIn K mainGlobals "in_order" = some (some (.ref f3))) (l3 : K.lookup f3 = some ⟨oc3, od3, .func (PySem.W.fnOf "in_order" "in_order" (defArgs s_in_order) (defBody s_in_order) (defScope s_in_order) .none kV3 dc3 pm3 an3 cd3 ct3), sl3⟩) (c3 : PySem.W.codeIn K cd3 "in_order" = true) (k3 : PySem.W.keepIn K (.ref f3) = true)
    (a4 : PySem.W.nsIn K mainGlobals "is_part" = some (some (.ref f4))) (l4 : K.lookup f4 = some ⟨oc4, od4, .func (PySem.W.fnOf "is_part" "is_part" (defArgs s_is_part) (defBody s_is_part) (defScope s_is_part) .none kV4 dc4 pm4 an4 cd4 ct4), sl4⟩) (c4 : PySem.W.codeIn K cd4 "is_part" = true) (k4 : PySem.W.keepIn K (.ref f4) = true)
    (a5 : PySem.W.nsIn K mainGlobals "is_base" = some (some (.ref f5))) (l5 : K.lookup f5 = some ⟨oc5, od5, .func (PySem.W.fnOf "is_base" "is_base" (defArgs s_is_base) (defBody s_is_base) (defScope s_is_base) .none kV5 dc5 pm5 an5 cd5 ct5), sl5⟩) (c5 : PySem.W.codeIn K cd5 "is_base" = true) (k5 : PySem.W.keepIn K (.ref f5) = true)
    (a6 : PySem.W.nsIn K mainGlobals "base_of" = some (some (.ref f6))) (l6 : K.lookup f6 = some ⟨oc6, od6, .func (PySem.W.fnOf "base_of" "base_of" (defArgs s_base_of) (defBody s_base_of) (defScope s_base_of) .none kV6 dc6 pm6 an6 cd6 ct6), sl6⟩) (c6 : PySem.W.codeIn K cd6 "base_of" = true) (k6 : PySem.W.keepIn K (.ref f6) = true)
    (a7 : PySem.W.nsIn K mainGlobals "does" = some (some (.ref f7))) (l7 : K.lookup f7 = some ⟨oc7, od7, .func (PySem.W.fnOf "does" "does" (defArgs s_does) (defBody s_does) (defScope s_does) .none kV7 dc7 pm7 an7 cd7 ct7), sl7⟩) (c7 : PySem.W.codeIn K cd7 "does" = true) (k7 : PySem.W.keepIn K (.ref f7) = true)
    (a8 : PySem.W.nsIn K mainGlobals "names_in" = some (some (.ref f8))) (l8 : K.lookup f8 = some ⟨oc8, od8, .func (PySem.W.fnOf "names_in" "names_in" (defArgs s_names_in) (defBody s_names_in) (defScope s_names_in) .none kV8 dc8 pm8 an8 cd8 ct8), sl8⟩) (c8 : PySem.W.codeIn K cd8 "names_in" = true) (k8 : PySem.W.keepIn K (.ref f8) = true)
    (a9 : PySem.W.nsIn K mainGlobals "_law_box" = some (some (.ref f9))) (l9 : K.lookup f9 = some ⟨oc9, od9, .func (PySem.W.fnOf "_law_box" "_law_box" (defArgs s__law_box) (defBody s__law_box) (defScope s__law_box) .none kV9 dc9 pm9 an9 cd9 ct9), sl9⟩) (c9 : PySem.W.codeIn K cd9 "_law_box" = true) (k9 : PySem.W.keepIn K (.ref f9) = true)
    (a10 : PySem.W.nsIn K mainGlobals "_law_take" = some (some (.ref f10))) (l10 : K.lookup f10 = some ⟨oc10, od10, .func (PySem.W.fnOf "_law_take" "_law_take" (defArgs s__law_take) (defBody s__law_take) (defScope s__law_take) .none kV10 dc10 pm10 an10 cd10 ct10), sl10⟩) (c10 : PySem.W.codeIn K cd10 "_law_take" = true) (k10 : PySem.W.keepIn K (.ref f10) = true)
    (a11 : PySem.W.nsIn K mainGlobals "_law_cells" = some (some (.ref f11))) (l11 : K.lookup f11 = some ⟨oc11, od11, .func (PySem.W.fnOf "_law_cells" "_law_cells" (defArgs s__law_cells) (defBody s__law_cells) (defScope s__law_cells) .none kV11 dc11 pm11 an11 cd11 ct11), sl11⟩) (c11 : PySem.W.codeIn K cd11 "_law_cells" = true) (k11 : PySem.W.keepIn K (.ref f11) = true)
    (a12 : PySem.W.nsIn K mainGlobals "_law_of" = some (some (.ref f12))) (l12 : K.lookup f12 = some ⟨oc12, od12, .func (PySem.W.fnOf "_law_of" "_law_of" (defArgs s__law_of) (defBody s__law_of) (defScope s__law_of) .none kV12 dc12 pm12 an12 cd12 ct12), sl12⟩) (c12 : PySem.W.codeIn K cd12 "_law_of" = true) (k12 : PySem.W.keepIn K (.ref f12) = true)
    (a13 : PySem.W.nsIn K mainGlobals "_law_pick" = some (some (.ref f13))) (l13 : K.lookup f13 = some ⟨oc13, od13, .func (PySem.W.fnOf "_law_pick" "_law_pick" (defArgs s__law_pick) (defBody s__law_pick) (defScope s__law_pick) .none kV13 dc13 pm13 an13 cd13 ct13), sl13⟩) (c13 : PySem.W.codeIn K cd13 "_law_pick" = true) (k13 : PySem.W.keepIn K (.ref f13) = true)
    (a14 : PySem.W.nsIn K mainGlobals "_law_same" = some (some (.ref f14))) (l14 : K.lookup f14 = some ⟨oc14, od14, .func (PySem.W.fnOf "_law_same" "_law_same" (defArgs s__law_same) (defBody s__law_same) (defScope s__law_same) .none kV14 dc14 pm14 an14 cd14 ct14), sl14⟩) (c14 : PySem.W.codeIn K cd14 "_law_same" = true) (k14 : PySem.W.keepIn K (.ref f14) = true)
    (a15 : PySem.W.nsIn K mainGlobals "_law_lists" = some (some (.ref f15))) (l15 : K.lookup f15 = some ⟨oc15, od15, .func (PySem.W.fnOf "_law_lists" "_law_lists" (defArgs s__law_lists) (defBody s__law_lists) (defScope s__law_lists) .none kV15 dc15 pm15 an15 cd15 ct15), sl15⟩) (c15 : PySem.W.codeIn K cd15 "_law_lists" = true) (k15 : PySem.W.keepIn K (.ref f15) = true)
    (a16 : PySem.W.nsIn K mainGlobals "_law_names" = some (some (.ref f16))) (l16 : K.lookup f16 = some ⟨oc16, od16, .func (PySem.W.fnOf "_law_names" "_law_names" (defArgs s__law_names) (defBody s__law_names) (defScope s__law_names) .none kV16 dc16 pm16 an16 cd16 ct16), sl16⟩) (c16 : PySem.W.codeIn K cd16 "_law_names" = true) (k16 : PySem.W.keepIn K (.ref f16) = true)
    (a17 : PySem.W.nsIn K mainGlobals "_law_lies" = some (some (.ref f17))) (l17 : K.lookup f17 = some ⟨oc17, od17, .func (PySem.W.fnOf "_law_lies" "_law_lies" (defArgs s__law_lies) (defBody s__law_lies) (defScope s__law_lies) .none kV17 dc17 pm17 an17 cd17 ct17), sl17⟩) (c17 : PySem.W.codeIn K cd17 "_law_lies" = true) (k17 : PySem.W.keepIn K (.ref f17) = true)
    (a18 : PySem.W.nsIn K mainGlobals "_law_sorted" = some (some (.ref f18))) (l18 : K.lookup f18 = some ⟨oc18, od18, .func (PySem.W.fnOf "_law_sorted" "_law_sorted" (defArgs s__law_sorted) (defBody s__law_sorted) (defScope s__law_sorted) .none kV18 dc18 pm18 an18 cd18 ct18), sl18⟩) (c18 : PySem.W.codeIn K cd18 "_law_sorted" = true) (k18 : PySem.W.keepIn K (.ref f18) = true)
    (a19 : PySem.W.nsIn K mainGlobals "_law_least" = some (some (.ref f19))) (l19 : K.lookup f19 = some ⟨oc19, od19, .func (PySem.W.fnOf "_law_least" "_law_least" (defArgs s__law_least) (defBody s__law_least) (defScope s__law_least) .none kV19 dc19 pm19 an19 cd19 ct19), sl19⟩) (c19 : PySem.W.codeIn K cd19 "_law_least" = true) (k19 : PySem.W.keepIn K (.ref f19) = true)
    (a20 : PySem.W.nsIn K mainGlobals "_law_event_row" = some (some (.ref f20))) (l20 : K.lookup f20 = some ⟨oc20, od20, .func (PySem.W.fnOf "_law_event_row" "_law_event_row" (defArgs s__law_event_row) (defBody s__law_event_row) (defScope s__law_event_row) .none kV20 dc20 pm20 an20 cd20 ct20), sl20⟩) (c20 : PySem.W.codeIn K cd20 "_law_event_row" = true) (k20 : PySem.W.keepIn K (.ref f20) = true)
    (a21 : PySem.W.nsIn K mainGlobals "_law_some_rows" = some (some (.ref f21))) (l21 : K.lookup f21 = some ⟨oc21, od21, .func (PySem.W.fnOf "_law_some_rows" "_law_some_rows" (defArgs s__law_some_rows) (defBody s__law_some_rows) (defScope s__law_some_rows) .none kV21 dc21 pm21 an21 cd21 ct21), sl21⟩) (c21 : PySem.W.codeIn K cd21 "_law_some_rows" = true) (k21 : PySem.W.keepIn K (.ref f21) = true)
    (a22 : PySem.W.nsIn K mainGlobals "_law_done" = some (some (.ref f22))) (l22 : K.lookup f22 = some ⟨oc22, od22, .func (PySem.W.fnOf "_law_done" "_law_done" (defArgs s__law_done) (defBody s__law_done) (defScope s__law_done) .none kV22 dc22 pm22 an22 cd22 ct22), sl22⟩) (c22 : PySem.W.codeIn K cd22 "_law_done" = true) (k22 : PySem.W.keepIn K (.ref f22) = true)
    (a23 : PySem.W.nsIn K mainGlobals "_law_base_right" = some (some (.ref f23))) (l23 : K.lookup f23 = some ⟨oc23, od23, .func (PySem.W.fnOf "_law_base_right" "_law_base_right" (defArgs s__law_base_right) (defBody s__law_base_right) (defScope s__law_base_right) .none kV23 dc23 pm23 an23 cd23 ct23), sl23⟩) (c23 : PySem.W.codeIn K cd23 "_law_base_right" = true) (k23 : PySem.W.keepIn K (.ref f23) = true)
    (a24 : PySem.W.nsIn K mainGlobals "_law_by_hand_right" = some (some (.ref f24))) (l24 : K.lookup f24 = some ⟨oc24, od24, .func (PySem.W.fnOf "_law_by_hand_right" "_law_by_hand_right" (defArgs s__law_by_hand_right) (defBody s__law_by_hand_right) (defScope s__law_by_hand_right) .none kV24 dc24 pm24 an24 cd24 ct24), sl24⟩) (c24 : PySem.W.codeIn K cd24 "_law_by_hand_right" = true) (k24 : PySem.W.keepIn K (.ref f24) = true)
    (a25 : PySem.W.nsIn K mainGlobals "_law_right" = some (some (.ref f25))) (l25 : K.lookup f25 = some ⟨oc25, od25, .func (PySem.W.fnOf "_law_right" "_law_right" (defArgs s__law_right) (defBody s__law_right) (defScope s__law_right) .none kV25 dc25 pm25 an25 cd25 ct25), sl25⟩) (c25 : PySem.W.codeIn K cd25 "_law_right" = true) (k25 : PySem.W.keepIn K (.ref f25) = true)
    (a26 : PySem.W.nsIn K mainGlobals "law" = some (some (.ref f26))) (l26 : K.lookup f26 = some ⟨oc26, od26, .func (PySem.W.fnOf "law" "law" (defArgs s_law) (defBody s_law) (defScope s_law) .none kV26 dc26 pm26 an26 cd26 ct26), sl26⟩) (c26 : PySem.W.codeIn K cd26 "law" = true) (k26 : PySem.W.keepIn K (.ref f26) = true)
    (z_len : PySem.W.nsIn K mainGlobals "len" = some none)
    (z_abs : PySem.W.nsIn K mainGlobals "abs" = some none)
    (z_int : PySem.W.nsIn K mainGlobals "int" = some none)
    (z_list : PySem.W.nsIn K mainGlobals "list" = some none)
    (z_tuple : PySem.W.nsIn K mainGlobals "tuple" = some none)
    (z_range : PySem.W.nsIn K mainGlobals "range" = some none)
    (z_min : PySem.W.nsIn K mainGlobals "min" = some none)
    (z_max : PySem.W.nsIn K mainGlobals "max" = some none)
    (z_enumerate : PySem.W.nsIn K mainGlobals "enumerate" = some none)
    (z_zip : PySem.W.nsIn K mainGlobals "zip" = some none)
    (z_isinstance : PySem.W.nsIn K mainGlobals "isinstance" = some none)
    (z_all : PySem.W.nsIn K mainGlobals "all" = some none)
    (z_bool : PySem.W.nsIn K mainGlobals "bool" = some none)
    (z_str : PySem.W.nsIn K mainGlobals "str" = some none)
    (z_iter : PySem.W.nsIn K mainGlobals "iter" = some none)
    (z_sorted : PySem.W.nsIn K mainGlobals "sorted" = some none)
    (z_set : PySem.W.nsIn K mainGlobals "set" = some none)
    (z_any : PySem.W.nsIn K mainGlobals "any" = some none)
    (fin : ∀ (kc : KC) (K' : PySem.W.Frag) (fd : FuncData), Fun K' "law" "law" s_law fa fd → @Facts kc K' mg → ∀ base : Heap, FnOk l.prog w K' mg base CX0 7 fa fd ["_law_script"] (@spScriptG kc K')) :
    ∃ fd : FuncData, (∀ (s : Shared) (v : Value), BindsTo s fd ⟨[v], []⟩ [("_law_script", v)]) ∧ ∀ base : Heap, K.In base → base.Ns mainGlobals mg → FnOk l.prog w K mg base CX0 7 fa fd ["_law_script"] (spScript K) := by
  have e := hfa.symm.trans (PySem.W.mg_of X G a26)
  cases e
  have F0 := fun_mk (st := s_is_name) l0 c0 k0
  have b0 := F0.binds (ps := ["value"]) fun _ _ _ _ _ _ us hl => match us, hl with | [_], _ => rfl
  have F1 := fun_mk (st := s_is_log) l1 c1 k1
  have b1 := F1.binds (ps := ["thing"]) fun _ _ _ _ _ _ us hl => match us, hl with | [_], _ => rfl
  have F2 := fun_mk (st := s_copied) l2 c2 k2
  have b2 := F2.binds (ps := ["logs"]) fun _ _ _ _ _ _ us hl => match us, hl with | [_], _ => rfl
  have F3 := fun_mk (st := s_in_order) l3 c3 k3
  have b3 := F3.binds (ps := ["logs"]) fun _ _ _ _ _ _ us hl => match us, hl with | [_], _ => rfl
  have F4 := fun_mk (st := s_is_part) l4 c4 k4
  have b4 := F4.binds (ps := ["word", "log"]) fun _ _ _ _ _ _ us hl => match us, hl with | [_, _], _ => rfl
  have F5 := fun_mk (st := s_is_base) l5 c5 k5
  have b5 := F5.binds (ps := ["thing"]) fun _ _ _ _ _ _ us hl => match us, hl with | [_], _ => rfl
  have F6 := fun_mk (st := s_base_of) l6 c6 k6
  have b6 := F6.binds (ps := ["logs"]) fun _ _ _ _ _ _ us hl => match us, hl with | [_], _ => rfl
  have F7 := fun_mk (st := s_does) l7 c7 k7
  have b7 := F7.binds (ps := ["base", "log"]) fun _ _ _ _ _ _ us hl => match us, hl with | [_, _], _ => rfl
  have F8 := fun_mk (st := s_names_in) l8 c8 k8
  have b8 := F8.binds (ps := ["base"]) fun _ _ _ _ _ _ us hl => match us, hl with | [_], _ => rfl
  have F9 := fun_mk (st := s__law_box) l9 c9 k9
  have b9 := F9.binds (ps := ["_law_script", "_law_k"]) fun _ _ _ _ _ _ us hl => match us, hl with | [_, _], _ => rfl
  have F10 := fun_mk (st := s__law_take) l10 c10 k10
  have b10 := F10.binds (ps := ["_law_box_here", "_law_size_so"]) fun _ _ _ _ _ _ us hl => match us, hl with | [_, _], _ => rfl
  have F11 := fun_mk (st := s__law_cells) l11 c11 k11
  have b11 := F11.binds (ps := ["_law_script", "_law_top_so"]) fun _ _ _ _ _ _ us hl => match us, hl with | [_, _], _ => rfl
  have F12 := fun_mk (st := s__law_of) l12 c12 k12
  have b12 := F12.binds (ps := ["_law_box_here", "_law_goods_so"]) fun _ _ _ _ _ _ us hl => match us, hl with | [_, _], _ => rfl
  have F13 := fun_mk (st := s__law_pick) l13 c13 k13
  have b13 := F13.binds (ps := ["_law_box_here", "_law_goods_so", "_law_count_so"]) fun _ _ _ _ _ _ us hl => match us, hl with | [_, _, _], _ => rfl
  have F14 := fun_mk (st := s__law_same) l14 c14 k14
  have b14 := F14.binds (ps := ["_law_got", "_law_due"]) fun _ _ _ _ _ _ us hl => match us, hl with | [_, _], _ => rfl
  have F15 := fun_mk (st := s__law_lists) l15 c15 k15
  have b15 := F15.binds (ps := ["_law_matter"]) fun _ _ _ _ _ _ us hl => match us, hl with | [_], _ => rfl
  have F16 := fun_mk (st := s__law_names) l16 c16 k16
  have b16 := F16.binds (ps := ["_law_box_here", "_law_much_so"]) fun _ _ _ _ _ _ us hl => match us, hl with | [_, _], _ => rfl
  have F17 := fun_mk (st := s__law_lies) l17 c17 k17
  have b17 := F17.binds (ps := ["_law_verse", "_law_row"]) fun _ _ _ _ _ _ us hl => match us, hl with | [_, _], _ => rfl
  have F18 := fun_mk (st := s__law_sorted) l18 c18 k18
  have b18 := F18.binds (ps := ["_law_rows"]) fun _ _ _ _ _ _ us hl => match us, hl with | [_], _ => rfl
  have F19 := fun_mk (st := s__law_least) l19 c19 k19
  have b19 := F19.binds (ps := ["_law_rows"]) fun _ _ _ _ _ _ us hl => match us, hl with | [_], _ => rfl
  have F20 := fun_mk (st := s__law_event_row) l20 c20 k20
  have b20 := F20.binds (ps := ["_law_box_here", "_law_tags", "_law_most"]) fun _ _ _ _ _ _ us hl => match us, hl with | [_, _, _], _ => rfl
  have F21 := fun_mk (st := s__law_some_rows) l21 c21 k21
  have b21 := F21.binds (ps := ["_law_box_here", "_law_tags", "_law_many", "_law_most"]) fun _ _ _ _ _ _ us hl => match us, hl with | [_, _, _, _], _ => rfl
  have F22 := fun_mk (st := s__law_done) l22 c22 k22
  have b22 := F22.binds (ps := ["_law_words_so", "_law_row"]) fun _ _ _ _ _ _ us hl => match us, hl with | [_, _], _ => rfl
  have F23 := fun_mk (st := s__law_base_right) l23 c23 k23
  have b23 := F23.binds (ps := ["_law_box_here", "_law_tags", "_law_rows"]) fun _ _ _ _ _ _ us hl => match us, hl with | [_, _, _], _ => rfl
  have F24 := fun_mk (st := s__law_by_hand_right) l24 c24 k24
  have b24 := F24.binds (ps := []) fun _ _ _ _ _ _ us hl => match us, hl with | [], _ => rfl
  have F25 := fun_mk (st := s__law_right) l25 c25 k25
  have b25 := F25.binds (ps := ["_law_box_here"]) fun _ _ _ _ _ _ us hl => match us, hl with | [_], _ => rfl
  have F26 := fun_mk (st := s_law) l26 c26 k26
  letI kcI : KC := ⟨[]⟩
  have FF : Facts K mg := ⟨⟨_, _, F0, PySem.W.mg_of X G a0, b0⟩, ⟨_, _, F1, PySem.W.mg_of X G a1, b1⟩, ⟨_, _, F2, PySem.W.mg_of X G a2, b2⟩, ⟨_, _, F3, PySem.W.mg_of X G a3, b3⟩, ⟨_, _, F4, PySem.W.mg_of X G a4, b4⟩, ⟨_, _, F5, PySem.W.mg_of X G a5, b5⟩, ⟨_, _, F6, PySem.W.mg_of X G a6, b6⟩, ⟨_, _, F7, PySem.W.mg_of X G a7, b7⟩, ⟨_, _, F8, PySem.W.mg_of X G a8, b8⟩, ⟨_, _, F9, PySem.W.mg_of X G a9, b9⟩, ⟨_, _, F10, PySem.W.mg_of X G a10, b10⟩, ⟨_, _, F11, PySem.W.mg_of X G a11, b11⟩, ⟨_, _, F12, PySem.W.mg_of X G a12, b12⟩, ⟨_, _, F13, PySem.W.mg_of X G a13, b13⟩, ⟨_, _, F14, PySem.W.mg_of X G a14, b14⟩, ⟨_, _, F15, PySem.W.mg_of X G a15, b15⟩, ⟨_, _, F16, PySem.W.mg_of X G a16, b16⟩, ⟨_, _, F17, PySem.W.mg_of X G a17, b17⟩, ⟨_, _, F18, PySem.W.mg_of X G a18, b18⟩, ⟨_, _, F19, PySem.W.mg_of X G a19, b19⟩, ⟨_, _, F20, PySem.W.mg_of X G a20, b20⟩, ⟨_, _, F21, PySem.W.mg_of X G a21, b21⟩, ⟨_, _, F22, PySem.W.mg_of X G a22, b22⟩, ⟨_, _, F23, PySem.W.mg_of X G a23, b23⟩, ⟨_, _, F24, PySem.W.mg_of X G a24, b24⟩, ⟨_, _, F25, PySem.W.mg_of X G a25, b25⟩, ⟨PySem.W.mg_none_of X G z_len, PySem.W.mg_none_of X G z_abs, PySem.W.mg_none_of X G z_int, PySem.W.mg_none_of X G z_list, PySem.W.mg_none_of X G z_tuple, PySem.W.mg_none_of X G z_range, PySem.W.mg_none_of X G z_min, PySem.W.mg_none_of X G z_max, PySem.W.mg_none_of X G z_enumerate, PySem.W.mg_none_of X G z_zip, PySem.W.mg_none_of X G z_isinstance, PySem.W.mg_none_of X G z_all, PySem.W.mg_none_of X G z_bool, PySem.W.mg_none_of X G z_str, PySem.W.mg_none_of X G z_iter, PySem.W.mg_none_of X G z_sorted⟩, ⟨PySem.W.mg_none_of X G z_set, PySem.W.mg_none_of X G z_any⟩⟩
  exact ⟨PySem.W.fnOf "law" "law" (defArgs s_law) (defBody s_law) (defScope s_law) .none kV26 dc26 pm26 an26 cd26 ct26, fun s v => .of_eq rfl, fun base hK hN => (fin _ _ _ F26 FF base).imp fun vs H Q E h => ⟨(fun c hc => nomatch hc), h⟩⟩
end K13
open PySem PySem.W PyProof.Rows
set_option maxRecDepth 100000 in
set_option maxHeartbeats 0 in
theorem PySem.Challenge.cw_moredone_k13_bases_from_logs_holds : PySem.Challenge.rw_moredone_k13_bases_from_logs.Holds := by
  w_on; o_law; k_head; (case hw => w_witness2)
  k_fill
  refine L2.walk_of (l := PySem.Challenge.rw_moredone_k13_bases_from_logs) (n := 63) (k := 7) (x := "_law_script") (CX := fun _ => L2.CX0) (sp := fun w => LwB.spScript _) rfl (by decide) rfl ⟨rfl, by decide, by decide⟩ (fun w h Y => PySem.W.kIn_of Y) ?F (fun _ _ a ns hl _ hS => ⟨a, ns, rfl, hS, hl, fun _ => rfl⟩) (fun _ _ _ _ _ h => h)
  case F =>
    intro w mg fa h KX G hmg
    refine' K13.all_mk KX G hmg ?a0 ?l0 ?c0 ?k0 ?a1 ?l1 ?c1 ?k1 ?a2 ?l2 ?c2 ?k2 ?a3 ?l3 ?c3 ?k3 ?a4 ?l4 ?c4 ?k4 ?a5 ?l5 ?c5 ?k5 ?a6 ?l6 ?c6 ?k6 ?a7 ?l7 ?c7 ?k7 ?a8 ?l8 ?c8 ?k8 ?a9 ?l9 ?c9 ?k9 ?a10 ?l10 ?c10 ?k10 ?a11 ?l11 ?c11 ?k11 ?a12 ?l12 ?c12 ?k12 ?a13 ?l13 ?c13 ?k13 ?a14 ?l14 ?c14 ?k14 ?a15 ?l15 ?c15 ?k15 ?a16 ?l16 ?c16 ?k16 ?a17 ?l17 ?c17 ?k17 ?a18 ?l18 ?c18 ?k18 ?a19 ?l19 ?c19 ?k19 ?a20 ?l20 ?c20 ?k20 ?a21 ?l21 ?c21 ?k21 ?a22 ?l22 ?c22 ?k22 ?a23 ?l23 ?c23 ?k23 ?a24 ?l24 ?c24 ?k24 ?a25 ?l25 ?c25 ?k25 ?a26 ?l26 ?c26 ?k26 ?z_len ?z_abs ?z_int ?z_list ?z_tuple ?z_range ?z_min ?z_max ?z_enumerate ?z_zip ?z_isinstance ?z_all ?z_bool ?z_str ?z_iter ?z_sorted ?z_set ?z_any ?fin
    (case a0 => k_is); (case l0 => k_is); (case c0 => k_is); (case k0 => k_is)
    (case a1 => k_is); (case l1 => k_is); (case c1 => k_is); (case k1 => k_is)
    (case a2 => k_is); (case l2 => k_is); (case c2 => k_is); (case k2 => k_is)
    (case a3 => k_is); (case l3 => k_is); (case c3 => k_is); (case k3 => k_is)
    (case a4 => k_is); (case l4 => k_is); (case c4 => k_is); (case k4 => k_is)
    (case a5 => k_is); (case l5 => k_is); (case c5 => k_is); (case k5 => k_is)
    (case a6 => k_is); (case l6 => k_is); (case c6 => k_is); (case k6 => k_is)
    (case a7 => k_is); (case l7 => k_is); (case c7 => k_is); (case k7 => k_is)
    (case a8 => k_is); (case l8 => k_is); (case c8 => k_is); (case k8 => k_is)
    (case a9 => k_is); (case l9 => k_is); (case c9 => k_is); (case k9 => k_is)
    (case a10 => k_is); (case l10 => k_is); (case c10 => k_is); (case k10 => k_is)
    (case a11 => k_is); (case l11 => k_is); (case c11 => k_is); (case k11 => k_is)
    (case a12 => k_is); (case l12 => k_is); (case c12 => k_is); (case k12 => k_is)
    (case a13 => k_is); (case l13 => k_is); (case c13 => k_is); (case k13 => k_is)
    (case a14 => k_is); (case l14 => k_is); (case c14 => k_is); (case k14 => k_is)
    (case a15 => k_is); (case l15 => k_is); (case c15 => k_is); (case k15 => k_is)
    (case a16 => k_is); (case l16 => k_is); (case c16 => k_is); (case k16 => k_is)
    (case a17 => k_is); (case l17 => k_is); (case c17 => k_is); (case k17 => k_is)
    (case a18 => k_is); (case l18 => k_is); (case c18 => k_is); (case k18 => k_is)
    (case a19 => k_is); (case l19 => k_is); (case c19 => k_is); (case k19 => k_is)
    (case a20 => k_is); (case l20 => k_is); (case c20 => k_is); (case k20 => k_is)
    (case a21 => k_is); (case l21 => k_is); (case c21 => k_is); (case k21 => k_is)
    (case a22 => k_is); (case l22 => k_is); (case c22 => k_is); (case k22 => k_is)
    (case a23 => k_is); (case l23 => k_is); (case c23 => k_is); (case k23 => k_is)
    (case a24 => k_is); (case l24 => k_is); (case c24 => k_is); (case k24 => k_is)
    (case a25 => k_is); (case l25 => k_is); (case c25 => k_is); (case k25 => k_is)
    (case a26 => k_is); (case l26 => k_is); (case c26 => k_is); (case k26 => k_is)
    (case z_len => k_is)
    (case z_abs => k_is)
    (case z_int => k_is)
    (case z_list => k_is)
    (case z_tuple => k_is)
    (case z_range => k_is)
    (case z_min => k_is)
    (case z_max => k_is)
    (case z_enumerate => k_is)
    (case z_zip => k_is)
    (case z_isinstance => k_is)
    (case z_all => k_is)
    (case z_bool => k_is)
    (case z_str => k_is)
    (case z_iter => k_is)
    (case z_sorted => k_is)
    (case z_set => k_is)
    (case z_any => k_is)
    exact fun kc K' fd F FF base => @K13.ok_law kc _ _ _ _ _ _ _ F FF
