import PyProof.Rows.All
import Wide.All
import OpenK.AllK
import Wide.FinOn
import PyProof.WalksMore
import HandS.Base
import HandS.Call
import HandS.List
import HandS.ForMost
import HandS.Style
import HandS.TupAny
import HandS.Wide
import HandS.IsInst
import HandS.Flow
import HandS.SortKw
import KE.GoesMore
import KE.GoesEnum
import HandS.More
import PyProof.StrWalks
import HandS.Defaults
import HandS.Zip
import PySem.Challenge.RW_moredone_k10_rests_and_fronts
set_option Elab.async false
set_option linter.all false
set_option maxRecDepth 100000
set_option maxHeartbeats 2000000
namespace IqX
open PySem PySem.Spec PyProof.Rows L2
theorem no_contains_l : typeLookup (.type "list_iterator") "__contains__" = pure none := by rw [typeLookup_type, builtinLookup_eq_fast]; kernel_rfl
theorem no_contains_t : typeLookup (.type "tuple_iterator") "__contains__" = pure none := by rw [typeLookup_type, builtinLookup_eq_fast]; kernel_rfl
theorem plain_ci : plainId "proto.contains_iter" = true := by decide +kernel
theorem entry_ci : entryFor table "proto.contains_iter" = some Builtin.«proto.contains_iter» := entryFor_of_fast (by kernel_rfl)

section
variable {prog : Program} {w : World} {A : Around} {E : Value → Shared → Prop} {s : Shared}
theorem next_list_end {it l : Addr} {i : Nat} {items : Array Value} {Q : Option Value → Shared → Prop} (hh : A.handled = none)
    (hit : s.heap.IsListIter it l i) (hl : s.heap.IsList l items) (hx : items[i]? = none)
    (hQ : ∀ h', Heap.ExtBut it s.heap h' → (∃ u, h'.get? it = some u) → Q none { s with heap := h' }) : wpAny (model prog w) A (pyNext (.ref it)) Q E s := by
  obtain ⟨o, ho, hc, hd⟩ := id hit
  obtain ⟨ol, hol, _, nl, hdl⟩ := hl
  unfold pyNext
  refine wpAny_bind (wpAny_attempt (wpAny_callSpecial?_slot (name := Str.ofString "__next__") hit.typeIs slot_listiter_next
    (wpAny_call_entry slot_listiter_next hit.typeIs entry_listiter_next ?_ (args_listiter_next _))))
  show wpAny _ _ (field (.ref it) 0 >>= _) _ _ s
  refine wpAny_bind (wpAny_field ho hd (x := .ref l) rfl ?_)
  show wpAny _ _ (if (Value.ref l == Value.none) = true then _ else _) _ _ s
  rw [if_neg (show ¬ ((Value.ref l == Value.none) = true) from Bool.false_ne_true)]
  show wpAny _ _ (field (.ref it) 1 >>= _) _ _ s
  refine wpAny_bind (wpAny_field ho hd (x := .int i 0) rfl ?_)
  show wpAny _ _ (seqItems? (.ref l) >>= _) _ _ s
  refine wpAny_bind (wpAny_seqItems hol hdl ?_)
  simp only [Int.toNat_natCast, hx]
  refine wpAny_bind (wpAny_rule (wpAny_bind (wpAny_setField ho hd (by simp) ?_)))
  show wpAny _ _ (newExc (.type "StopIteration") [] >>= _) _ _ _
  refine wpAny_bind ?_
  simp only [newExc, newTuple]
  refine wpAny_bind (wpAny_newObj_type ?_ (by size_fits))
  refine wpAny_bind (m := firstArgMember _ _) (wpAny_of_eq (a := Value.none) (by first | rfl | (simp only [firstArgMember]; rfl)) ?_)
  refine wpAny_newObj_type ?_ (by size_fits)
  simp only [raiseNew]
  refine wpAny_bind (wpAny_handled ?_)
  rw [show A.in1.handled = none from hh]
  refine wpAny_bind (wpAny_pure (wpAny_throw ?_))
  refine wpAny_bind (wpAny_isInstance (T := "StopIteration") (b := true) ⟨_, Heap.get?_push_size _ rfl, rfl⟩ isSubtype_stop ?_)
  exact wpAny_pure (hQ _ (((Heap.SameBut.update ..).extBut.push _).push _) ⟨_, Heap.get?_push_of_some _ (Heap.get?_push_of_some _ (Heap.get?_update_self _ ho (Obj.isFreed_of_fields (Obj.data_mapFields hd _))))⟩)
theorem next_tuple_end {it t : Addr} {i : Nat} {items : Array Value} {Q : Option Value → Shared → Prop} (hh : A.handled = none)
    (hit : s.heap.IsTupleIter it t i) (ht : s.heap.IsTuple t items) (hx : items[i]? = none)
    (hQ : ∀ h', Heap.ExtBut it s.heap h' → (∃ u, h'.get? it = some u) → Q none { s with heap := h' }) : wpAny (model prog w) A (pyNext (.ref it)) Q E s := by
  obtain ⟨o, ho, hc, hd⟩ := id hit
  obtain ⟨ol, hol, _, nl, hdl⟩ := ht
  unfold pyNext
  refine wpAny_bind (wpAny_attempt (wpAny_callSpecial?_slot (name := Str.ofString "__next__") hit.typeIs F.slot_tuple_iterator_next
    (wpAny_call_entry F.slot_tuple_iterator_next hit.typeIs F.entry_tuple_iterator_next ?_ (F.args_tuple_iterator_next_1 _))))
  show wpAny _ _ (field (.ref it) 0 >>= _) _ _ s
  refine wpAny_bind (wpAny_field ho hd (x := .ref t) rfl ?_)
  show wpAny _ _ (if (Value.ref t == Value.none) = true then _ else _) _ _ s
  rw [if_neg (show ¬ ((Value.ref t == Value.none) = true) from Bool.false_ne_true)]
  show wpAny _ _ (field (.ref it) 1 >>= _) _ _ s
  refine wpAny_bind (wpAny_field ho hd (x := .int i 0) rfl ?_)
  show wpAny _ _ (seqItems? (.ref t) >>= _) _ _ s
  refine wpAny_bind (wpAny_seqItems hol hdl ?_)
  simp only [Int.toNat_natCast, hx]
  refine wpAny_bind (wpAny_rule (wpAny_bind (wpAny_setField ho hd (by simp) ?_)))
  show wpAny _ _ (newExc (.type "StopIteration") [] >>= _) _ _ _
  refine wpAny_bind ?_
  simp only [newExc, newTuple]
  refine wpAny_bind (wpAny_newObj_type ?_ (by size_fits))
  refine wpAny_bind (m := firstArgMember _ _) (wpAny_of_eq (a := Value.none) (by first | rfl | (simp only [firstArgMember]; rfl)) ?_)
  refine wpAny_newObj_type ?_ (by size_fits)
  simp only [raiseNew]
  refine wpAny_bind (wpAny_handled ?_)
  first | rw [show A.in1.handled = none from hh] | rw [hh]
  refine wpAny_bind (wpAny_pure (wpAny_throw ?_))
  refine wpAny_bind (wpAny_isInstance (T := "StopIteration") (b := true) ⟨_, Heap.get?_push_size _ rfl, rfl⟩ isSubtype_stop ?_)
  exact wpAny_pure (hQ _ (((Heap.SameBut.update ..).extBut.push _).push _) ⟨_, Heap.get?_push_of_some _ (Heap.get?_push_of_some _ (Heap.get?_update_self _ ho (Obj.isFreed_of_fields (Obj.data_mapFields hd _))))⟩)
end

/-- at it an iterator over the list (b) or tuple at l, the next place is i -/
def IsIt (b : Bool) (h : Heap) (it l : Addr) (i : Nat) : Prop := if b = true then h.IsListIter it l i else h.IsTupleIter it l i
def ItQ (b : Bool) (l it : Addr) (i : Nat) : HO := .ext fun h => IsIt b h it l i
/-- an iterator that has ended -/
def ItX (it : Addr) : HO := .ext fun h => ∃ o, h.get? it = some o
theorem isIt_get {b : Bool} {h : Heap} {it l : Addr} {i : Nat} (x : IsIt b h it l i) : ∃ o, h.get? it = some o := by
  cases b with
  | true => obtain ⟨o, e, _⟩ := (show h.IsListIter it l i from x); exact ⟨o, e⟩
  | false => obtain ⟨o, e, _⟩ := (show h.IsTupleIter it l i from x); exact ⟨o, e⟩
theorem itQ_ok {P : Program} {w : World} {H : Hp} {b : Bool} {h : Heap} {it l : Addr} {i : Nat} (x : IsIt b h it l i) : ObjOk P w H h it (ItQ b l it i) := by
  refine ⟨x, isIt_get x, fun h1 h2 q k => ?_⟩
  cases b with
  | true => obtain ⟨o, e, r⟩ := (show h1.IsListIter it l i from q); exact (show h2.IsListIter it l i from ⟨o, k _ e, r⟩)
  | false => obtain ⟨o, e, r⟩ := (show h1.IsTupleIter it l i from q); exact (show h2.IsTupleIter it l i from ⟨o, k _ e, r⟩)
theorem itX_ok {P : Program} {w : World} {H : Hp} {h : Heap} {it : Addr} (x : ∃ o, h.get? it = some o) : ObjOk P w H h it (ItX it) := by
  refine ⟨x, x, fun h1 h2 q k => ?_⟩
  obtain ⟨o, e⟩ := q
  exact ⟨o, k _ e⟩
section
variable {X : Cx} {pins : List (Addr × Obj)} {σ : L2.St} {H : Hp} {s : Shared} {l it : Addr} {i : Nat} {b : Bool}
theorem itQ_get (I : Inv X pins σ H s) (e : H it = some (ItQ b l it i)) : IsIt b s.heap it l i := (I.hok it _ e).1
/-- a list (b) or a tuple -/
def SqB (K : PySem.W.Frag) (b : Bool) (H : Hp) (a : Addr) (xs : List V) : Prop := if b = true then SqL K H a xs else SqT K H a xs
theorem SqB.list {K : PySem.W.Frag} {H : Hp} {a : Addr} {xs : List V} (h : SqB K true H a xs) : SqL K H a xs := h
theorem SqB.tup {K : PySem.W.Frag} {H : Hp} {a : Addr} {xs : List V} (h : SqB K false H a xs) : SqT K H a xs := h
theorem SqB.or {K : PySem.W.Frag} {H : Hp} {a : Addr} {xs : List V} : ∀ {b : Bool}, SqB K b H a xs → SqL K H a xs ∨ SqT K H a xs
  | true, h => .inl h
  | false, h => .inr h

/-- iter(xs) -/
def rIterQ (K : PySem.W.Frag) : List V → Hp → VK → Prop := fun xs H Q => ∃ (b : Bool) (l : Addr) (zs : List V), xs = [.ref l] ∧ SqB K b H l zs ∧ ∀ it, H it = none → Q (.ref it) (upd H it (ItQ b l it 0))
theorem call_iterQ : CallR X (.builtin "iter") (rIterQ X.K) := by
  intro pins s σ H xs us Q I r h
  obtain ⟨b, l, zs, rfl, hq, q⟩ := h
  obtain rfl := Vals.ref1 r
  refine Calls.call_function_entry (by decide +kernel) (by decide +kernel) PySem.W.kdk_entry_iter (PySem.W.kdk_args_iter _) ?_
  unfold Builtin.«iter»
  refine wpAny_bind (m := someArgs "iter" 1 2 _) (wpAny_of_eq (a := [Value.ref l]) (by first | rfl | kernel_rfl!) ?_)
  show wpAny _ _ (pyIter (.ref l) >>= _) _ _ _
  cases b with
  | true =>
    obtain ⟨its, rv, pl, hz⟩ := I.list hq.list
    refine wpAny_bind (wpAny_pyIter_list pl.isList ?_)
    exact wpAny_pure ⟨_, rfl, .ref s.heap.objs.size, _, I.laid (t' := s.toks) (fun b u e => Heap.get?_push_of_some _ e) (Nat.le_refl _) (itQ_ok (b := true) (show Heap.IsListIter _ _ l 0 from ⟨_, Heap.get?_push_size _ rfl, rfl, rfl⟩)), rfl, q _ (I.hok.fresh (Nat.le_refl _))⟩
  | false =>
    obtain ⟨its, rv, pl, hz⟩ := I.tuple hq.tup
    refine wpAny_bind (wpAny_pyIter_tuple pl ?_)
    exact wpAny_pure ⟨_, rfl, .ref s.heap.objs.size, _, I.laid (t' := s.toks) (fun b u e => Heap.get?_push_of_some _ e) (Nat.le_refl _) (itQ_ok (b := false) (show Heap.IsTupleIter _ _ l 0 from ⟨_, Heap.get?_push_size _ rfl, rfl, rfl⟩)), rfl, q _ (I.hok.fresh (Nat.le_refl _))⟩

/-- pyNext of such an iterator -/
theorem next_itQ {A : Around} {E : Value → Shared → Prop} {zs : List V} {Q : Option Value → Shared → Prop} (hh : A.handled = none) (I : Inv X pins σ H s) (hit : H it = some (ItQ b l it i)) (hl : SqB X.K b H l zs)
    (hS : ∀ x u s', zs[i]? = some x → RelV x u → Inv X pins σ (upd H it (ItQ b l it (i + 1))) s' → Q (some u) s') (hN : ∀ s', zs[i]? = none → Inv X pins σ (upd H it (ItX it)) s' → Q none s') :
    wpAny (model X.prog X.w) A (pyNext (.ref it)) Q E s := by
  have mu : Mut (H it) := by rw [hit]; exact True.intro
  have ii := itQ_get I hit
  cases b with
  | true =>
    obtain ⟨its, rv, pl, hz⟩ := I.list hl.list
    cases hx : zs[i]? with
    | some x =>
      obtain ⟨u, hu, ru⟩ := rv.get hx
      refine wpAny_pyNext_list_item (show s.heap.IsListIter it l i from ii) pl.isList (x := u) (by rw [List.getElem?_toArray]; exact hu) fun h' e' sb => ?_
      exact hS x u _ hx ru (I.write (x := it) (e := it) (t' := s.toks) mu (.inl rfl) (fun b o nb z => (sb.2 b nb).trans z) (isIt_get (b := true) e') (itQ_ok (b := true) e'))
    | none =>
      refine next_list_end hh (show s.heap.IsListIter it l i from ii) pl.isList (by rw [List.getElem?_toArray]; exact rv.none_of hx) fun h' sb ex => ?_
      exact hN _ hx (I.write (x := it) (e := it) (t' := s.toks) mu (.inl rfl) (fun b o nb z => sb b o nb z) ex (itX_ok ex))
  | false =>
    obtain ⟨its, rv, pl, hz⟩ := I.tuple hl.tup
    cases hx : zs[i]? with
    | some x =>
      obtain ⟨u, hu, ru⟩ := rv.get hx
      refine wpAny_pyNext_tuple_item (show s.heap.IsTupleIter it l i from ii) pl (x := u) (by rw [List.getElem?_toArray]; exact hu) fun h' e' sb => ?_
      exact hS x u _ hx ru (I.write (x := it) (e := it) (t' := s.toks) mu (.inl rfl) (fun b o nb z => (sb.2 b nb).trans z) (isIt_get (b := false) e') (itQ_ok (b := false) e'))
    | none =>
      refine next_tuple_end hh (show s.heap.IsTupleIter it l i from ii) pl (by rw [List.getElem?_toArray]; exact rv.none_of hx) fun h' sb ex => ?_
      exact hN _ hx (I.write (x := it) (e := it) (t' := s.toks) mu (.inl rfl) (fun b o nb z => sb b o nb z) ex (itX_ok ex))
/-- x in it -/
theorem ci_loop {A : Around} {R : Result → Shared → Prop} {x : V} {v : Value} {zs : List V} (hh : A.handled = none) (rx : RelV x v) (fx : flatV x = true) (fz : zs.all flatV = true) (hne : l ≠ it) :
    ∀ (k i : Nat) (H : Hp) (s : Shared), zs.length + 1 - i = k → Inv X pins σ H s → H it = some (ItQ b l it i) → SqB X.K b H l zs →
    (∀ j s', i ≤ j → (∃ z, zs[j]? = some z ∧ eqV z x = true) → (∀ m z, i ≤ m → m < j → zs[m]? = some z → eqV z x = false) → Inv X pins σ (upd H it (ItQ b l it (j + 1))) s' → R (.ok (.ret (.bool true))) s') →
    (∀ s', (∀ m z, i ≤ m → zs[m]? = some z → eqV z x = false) → Inv X pins σ (upd H it (ItX it)) s' → R (.ok (.ret (.bool false))) s') →
    codeAny (model X.prog X.w) A (.builtin "proto.contains_iter" ⟨[.ref it, v], []⟩) R s := by
  intro k
  induction k with
  | zero =>
    intro i H s hk I hi hl hT hF
    refine codeAny_builtin entry_ci ?_
    rw [Around.under_plainId plain_ci]
    unfold Builtin.«proto.contains_iter»
    refine wpAny_bind (next_itQ (by exact hh) I hi hl (fun z u s' hz _ _ => ?_) fun s' hz I' => ?_)
    · have := (List.getElem?_eq_some_iff.mp hz).1
      omega
    · refine wpAny_bind (wpAny_rule (wpAny_pure ?_))
      refine hF s' (fun m z hm e => ?_) I'
      have := (List.getElem?_eq_some_iff.mp e).1
      omega
  | succ k ih =>
    intro i H s hk I hi hl hT hF
    refine codeAny_builtin entry_ci ?_
    rw [Around.under_plainId plain_ci]
    unfold Builtin.«proto.contains_iter»
    refine wpAny_bind (next_itQ (by exact hh) I hi hl (fun z u s' hz rz I' => ?_) fun s' hz I' => ?_)
    · have hlt := (List.getElem?_eq_some_iff.mp hz).1
      have fzz : flatV z = true := List.all_eq_true.mp fz z (List.mem_of_getElem? hz)
      refine wpAny_bind (eqAt_V rz rx fzz fx _ _ _ _ ?_)
      cases hb : eqV z x with
      | true =>
        refine wpAny_bind (wpAny_rule (wpAny_pure ?_))
        exact hT i s' (Nat.le_refl _) ⟨z, hz, hb⟩ (fun m z' h1 h2 _ => absurd h2 (Nat.not_lt.mpr h1)) I'
      | false =>
        refine wpAny_pure ⟨plainId_quiet plain_ci _, ?_⟩
        have hl' : SqB X.K b (upd H it (ItQ b l it (i + 1))) l zs := by
          have e : (upd H it (ItQ b l it (i + 1))) l = H l := upd_ne hne
          cases b with
          | true =>
            have q : SqL X.K H l zs := hl
            show SqL X.K _ l zs
            unfold SqL Rd at q ⊢
            simp only [e]
            exact q
          | false =>
            have q : SqT X.K H l zs := hl
            show SqT X.K _ l zs
            unfold SqT Rd at q ⊢
            simp only [e]
            exact q
        refine ih (i + 1) _ s' (by omega) I' upd_same hl' (fun j s2 hj hz2 hm I2 => ?_) fun s2 hm I2 => ?_
        · rw [upd_upd] at I2
          refine hT j s2 (by omega) hz2 (fun m z' h1 h2 e => ?_) I2
          by_cases hmi : m = i
          · subst hmi
            rw [hz] at e
            cases e
            exact hb
          · exact hm m z' (by omega) h2 e
        · rw [upd_upd] at I2
          refine hF s2 (fun m z' h1 e => ?_) I2
          by_cases hmi : m = i
          · subst hmi
            rw [hz] at e
            cases e
            exact hb
          · exact hm m z' (by omega) e
    · refine wpAny_bind (wpAny_rule (wpAny_pure ?_))
      refine hF s' (fun m z hm e => ?_) I'
      have h1 := (List.getElem?_eq_some_iff.mp e).1
      have h2 := List.getElem?_eq_none_iff.mp hz
      omega
/-- the event e in the iterator it over zs, from the place i on -/
def rInIt (K : PySem.W.Frag) : R2 := fun x y H Q => ∃ (it l : Addr) (b : Bool) (i : Nat) (zs : List V), y = .ref it ∧ H it = some (ItQ b l it i) ∧ SqB K b H l zs ∧ l ≠ it ∧ flatV x = true ∧ zs.all flatV = true ∧
  (∀ j, i ≤ j → (∃ z, zs[j]? = some z ∧ eqV z x = true) → (∀ m z, i ≤ m → m < j → zs[m]? = some z → eqV z x = false) → Q (.bl true) (upd H it (ItQ b l it (j + 1)))) ∧
  ((∀ m z, i ≤ m → zs[m]? = some z → eqV z x = false) → Q (.bl false) (upd H it (ItX it)))
theorem contains_itT {T : String} {A : Around} {E : Value → Shared → Prop} {Q : Bool → Shared → Prop} {v : Value} (hT : s.TypeIs (.ref it) T) (hno : typeLookup (.type T) "__contains__" = pure none)
    (hit : ∀ {R E : Value → Shared → Prop} {A : Around}, R (.ref it) s → wpAny (model X.prog X.w) A (pyIter (.ref it)) R E s)
    (hrun : wpAny (model X.prog X.w) A (runValue (.builtin "proto.contains_iter" ⟨[.ref it, v], []⟩)) (fun r s' => ∃ z, r = .bool z ∧ Q z s') E s) :
    wpAny (model X.prog X.w) A (contains (.ref it) v) Q E s := by
  unfold contains
  refine wpAny_holding ?_
  rw [stdlibNamesSay?_of_typeIs hT]
  refine wpAny_bind (wpAny_specialOf hT hno ?_)
  refine wpAny_ite_split (fun hab => absurd hab (by decide)) (fun _ => ?_)
  refine wpAny_bind (wpAny_callSpecialUnlessNone?_none hT hno ?_)
  refine wpAny_bind (wpAny_rule ?_)
  refine wpAny_bind (wpAny_tryCatch (hit ?_))
  refine wpAny_bind (wpAny_mono hrun (fun r s' hr => ?_) fun _ _ z => z)
  obtain ⟨z, rfl, q⟩ := hr
  exact wpAny_pure q
theorem op_in_it (hc : X.calm = true) : OpR X (compareOp .In) (rInIt X.K) := by
  intro pins s σ H x y v u Q I rx ry h
  obtain ⟨it, l, b, i, zs, rfl, hi, hl, hne, fx, fz, qT, qF⟩ := h
  cases ry
  have ii := itQ_get I hi
  have hh : X.A.handled = none := I.ok.hd hc
  show wpAny _ _ ((contains (Value.ref it) v) >>= fun z => pure (Value.bool z)) _ _ s
  have run : wpAny (model X.prog X.w) X.A (runValue (.builtin "proto.contains_iter" ⟨[.ref it, v], []⟩)) (fun r s' => ∃ z, r = .bool z ∧ wpAny (model X.prog X.w) X.A (pure (Value.bool z)) (EP X pins σ Q) X.xe s') X.xe s := by
    refine wpAny_runValue (ci_loop (X := X) (b := b) (l := l) (zs := zs) hh rx fx fz hne _ i H s rfl I hi hl (fun j s' hj hz hm I' => ?_) fun s' hm I' => ?_)
    · exact ⟨true, rfl, wpAny_pure ⟨.bl true, _, I', rfl, qT j hj hz hm⟩⟩
    · exact ⟨false, rfl, wpAny_pure ⟨.bl false, _, I', rfl, qF hm⟩⟩
  cases b with
  | true => exact wpAny_bind (contains_itT (T := "list_iterator") (show s.heap.IsListIter it l i from ii).typeIs no_contains_l (fun q => wpAny_pyIter_listiter (show s.heap.IsListIter it l i from ii) q) run)
  | false => exact wpAny_bind (contains_itT (T := "tuple_iterator") (show s.heap.IsTupleIter it l i from ii).typeIs no_contains_t (fun q => wpAny_pyIter_tupleiter (show s.heap.IsTupleIter it l i from ii) q) run)
end
end IqX
namespace RvT
open PySem PySem.Spec PyProof.Rows L2 HT
section
variable {prog : Program} {w : World} {A : Around} {E : Value → Shared → Prop} {s : Shared}
theorem sliceApplied_rev {sl : Addr} {vl vu vs : Value} {n : Nat} {Q : Int × Int × Nat → Shared → Prop} (hs : s.heap.IsSliceOf sl vl vu vs) (pl : IsPart vl none) (pu : IsPart vu none) (ps : IsPart vs (some (-1)))
    (h : Q ((n : Int) - 1, -1, n) s) : wpAny (model prog w) A (Builtin.Slice.sliceApplied (.ref sl) (pure (n : Int))) Q E s := by
  obtain ⟨os, hos, hcs, hds⟩ := id hs
  unfold Builtin.Slice.sliceApplied Builtin.Slice.sliceFields
  refine wpAny_bind (wpAny_bind (wpAny_field hos hds (x := vl) rfl (wpAny_bind (wpAny_field hos hds (x := vu) rfl (wpAny_bind (wpAny_field hos hds (x := vs) rfl (wpAny_pure ?_)))))))
  refine wpAny_bind (slicePart_ ps ?_)
  show wpAny _ _ (if ((-1 : Int) == 0) = true then _ else _) _ _ s
  rw [if_neg (by decide)]
  refine wpAny_bind (slicePart_ pl (wpAny_bind (slicePart_ pu (wpAny_bind (wpAny_pure ?_)))))
  show wpAny _ _ (pure (((n : Int) - 1), (-1 : Int), Builtin.Slice.slicePlaces ((n : Int) - 1) (-1) (-1))) _ _ s
  have e : Builtin.Slice.slicePlaces ((n : Int) - 1) (-1) (-1) = n := by
    unfold Builtin.Slice.slicePlaces
    have h1 : ¬ ((-1 : Int) > 0) := by omega
    simp only [h1, if_false, Int.neg_neg, Int.ediv_one]
    split <;> omega
  rw [e]
  exact wpAny_pure h
theorem fm_congr {α β : Type} {f g : α → Option β} : ∀ {l : List α}, (∀ x, x ∈ l → f x = g x) → l.filterMap f = l.filterMap g
  | [], _ => rfl
  | x :: r, h => by
    have h1 := h x List.mem_cons_self
    have h2 := fm_congr (f := f) (g := g) (l := r) fun y hy => h y (List.mem_cons_of_mem _ hy)
    rw [List.filterMap_cons, List.filterMap_cons, h1, h2]
theorem pick_rev (xs : Array Value) : ((List.range xs.size).filterMap fun (m : Nat) => xs[(((xs.size : Nat) : Int) - 1 + (m : Int) * (-1)).toNat]?).toArray = xs.toList.reverse.toArray := by
  congr 1
  have e : ∀ m, m ∈ List.range xs.size → xs[(((xs.size : Nat) : Int) - 1 + (m : Int) * (-1)).toNat]? = some (xs.toList.reverse.getD m default) := by
    intro m hm
    have hlt : m < xs.size := List.mem_range.mp hm
    have e1 : (((xs.size : Nat) : Int) - 1 + (m : Int) * (-1)).toNat = xs.size - 1 - m := by omega
    rw [e1, List.getD_eq_getElem?_getD, List.getElem?_reverse (by simpa using hlt)]
    have h2 : xs.size - 1 - m < xs.size := by omega
    rw [Array.getElem?_eq_getElem h2]
    simp [Array.length_toList, Array.getElem?_toList, h2]
  have e2 : (List.range xs.size).filterMap (fun (m : Nat) => xs[(((xs.size : Nat) : Int) - 1 + (m : Int) * (-1)).toNat]?) = (List.range xs.size).map (fun m => xs.toList.reverse.getD m default) := by
    rw [← List.filterMap_eq_map]
    exact fm_congr e
  rw [e2]
  apply List.ext_getElem
  · simp
  · intro i h1 h2
    simp at h1 h2 ⊢
    rw [List.getElem?_reverse (by simpa using h2)]
    simp
    have h3 : xs.size - 1 - i < xs.size := by omega
    simp [Array.getElem?_eq_getElem h3]
theorem getItem_tuple_rev {t sl : Addr} {items : Array Value} {vl vu vs : Value} {Q : Value → Shared → Prop} (ht : IsTup s.heap t items) (hs : s.heap.IsSliceOf sl vl vu vs) (pl : IsPart vl none) (pu : IsPart vu none) (ps : IsPart vs (some (-1)))
    (h : Q (.ref s.heap.objs.size) { s with heap := s.heap.push { cls := .type "tuple", data := .seq items.toList.reverse.toArray } })
    (hsz : items.size ≤ sizeLine) : wpAny (model prog w) A (getItem (.ref t) (.ref sl)) Q E s := by
  have htake : sizeOk (.seq items.toList.reverse.toArray) := by
    show items.toList.reverse.toArray.size ≤ sizeLine
    rw [List.size_toArray, List.length_reverse, Array.length_toList]
    exact hsz
  obtain ⟨os, hos, hcs, hds⟩ := id hs
  have hTs : s.TypeIs (.ref sl) "slice" := ⟨os, hos, hcs⟩
  unfold getItem
  try with_reducible refine wpAny_holding ?_
  first | refine wpAny_bind (wpAny_pure ?_) | skip
  refine wpAny_bind (wpAny_sequenceKey ht.typeIs (by decide) ?_)
  refine wpAny_bind (wpAny_callSpecial?_slot (name := Str.ofString "__getitem__") ht.typeIs PyProof.Rows.slot_tuple_getitem
    (wpAny_call_entry PyProof.Rows.slot_tuple_getitem ht.typeIs entry_tuple_getitem ?_ (args_tuple_getitem _ _)))
  show wpAny _ _ (Builtin.Tuple.tupleItemsOf (.ref t) >>= _) _ _ s
  refine wpAny_bind (tupleItemsOf_ ht ?_)
  refine wpAny_bind (wpAny_typeOf hTs ?_)
  rw [if_pos (by decide)]
  refine wpAny_bind (sliceApplied_rev hs pl pu ps ?_)
  have hno : ¬ ((((items.size : Nat) : Int) - 1 == 0 && (-1 : Int) == 1 && items.size == items.size) = true) := by
    intro q
    rw [Bool.and_eq_true, Bool.and_eq_true] at q
    exact absurd q.1.2 (by decide)
  show wpAny _ _ (if (((items.size : Nat) : Int) - 1 == 0 && (-1 : Int) == 1 && items.size == items.size) = true then _ else _) _ _ s
  rw [if_neg hno, pick_rev]
  first
    | exact wpAny_bind (m := Builtin.Tuple.tupleExact _) (wpAny_newObj_type (wpAny_pure ⟨_, rfl, wpAny_pure h⟩) htake)
    | exact wpAny_bind (m := Builtin.Tuple.tupleExact _) (wpAny_newObj_type (wpAny_bind (wpAny_pure (wpAny_pure ⟨_, rfl, wpAny_pure h⟩))) htake)
    | exact wpAny_bind (wpAny_bind (m := Builtin.Tuple.tupleExact _) (wpAny_newObj_type (wpAny_pure (wpAny_pure ⟨_, rfl, wpAny_pure h⟩)) htake))
    | exact wpAny_bind (wpAny_bind (m := Builtin.Tuple.tupleExact _) (wpAny_newObj_type (wpAny_pure ⟨_, rfl, wpAny_pure h⟩) htake))
end
section
variable {X : Cx}
/-- xs[::-1], a list or a tuple -/
def tRevS (K : PySem.W.Frag) (te : TE) : TE := fun σ H Q => te σ H fun x H1 => ∃ (b : Bool) (a : Addr) (xs : List V), x = .ref a ∧ IqX.SqB K b H1 a xs ∧ ∀ p, H1 p = none → Q (.ref p) (upd H1 p (if b = true then .lst xs.reverse else .tup xs.reverse))
theorem pe_revS {e : Expr} {te : TE} {k : Nat} {p1 p2 p3 pos : Pos} (he : PE X e te) : PE X (.Subscript e (.Slice none none (some (.UnaryOp .USub (.Constant (.int 1) k p1) p2)) p3) pos) (tRevS X.K te) := by
  refine ⟨fun pins s σ H Q I h => ?_⟩
  refine Subscript_ (thn (he.run pins s σ H _ I h) fun v s1 ⟨x, H1, I1, r1, q1⟩ => ?_)
  obtain ⟨b, a, xs, ex, hx, q⟩ := q1
  subst ex
  cases r1
  have hst : PO X (some (.UnaryOp .USub (.Constant (.int 1) k p1) p2)) (tPart (tUn (rU fun i => .int (-i)) (tC (.int 1)))) := po_some (pe_un un_neg pe_int)
  refine wpAny_Slice (thn (po_none.run pins s1 σ H1 (fun o H2 => o = none ∧ H2 = H1) I1 ⟨rfl, rfl⟩) fun vl s2 ⟨l, H2, I2, pl, el, e2⟩ => ?_)
  subst el e2
  refine thn (po_none.run pins s2 σ H2 (fun o H3 => o = none ∧ H3 = H2) I2 ⟨rfl, rfl⟩) fun vu s3 ⟨u, H3, I3, pu, eu, e3⟩ => ?_
  subst eu e3
  refine thn (hst.run pins s3 σ H3 (fun o H4 => o = some (-1) ∧ H4 = H3) I3 ⟨1, rfl, -1, rfl, rfl, rfl⟩) fun vs s4 ⟨o, H4, I4, ps, eo, e4⟩ => ?_
  subst eo e4
  have I5 : Inv X pins σ H4 { s4 with heap := s4.heap.push { cls := .type "slice", data := .fields #[vl, vu, vs] } } := I4.kept (t' := s4.toks) fun b ob q => Heap.get?_push_of_some _ q
  show wpAny (model X.prog X.w) X.A (subscriptTail e (.Slice none none (some (.UnaryOp .USub (.Constant (.int 1) k p1) p2)) p3) (.ref a) (.ref s4.heap.objs.size)) (EP X pins σ Q) X.xe { s4 with heap := s4.heap.push { cls := .type "slice", data := .fields #[vl, vu, vs] } }
  cases b with
  | true =>
    obtain ⟨its, r, ht, hz⟩ := I5.list hx.list
    have hlen := r.length
    refine tail_any (ops := [.ref a, .ref s4.heap.objs.size]) ht.isList.typeIs (PySem.slot_list_getitem.lookup) ?_ (by with_unfolding_all rfl)
    refine wpAny_getItem_list_slice ht.isList (Heap.IsSliceOf.new _ vl vu vs) pl pu ps (by decide) ?_ (by rw [List.size_toArray]; omega)
    rw [PySem.W.krv_pick]
    refine ⟨.ref _, _, I5.laid (t' := s4.toks) (o := .lst xs.reverse) (fun b ob q => Heap.get?_push_of_some _ q) (Nat.le_refl _) ?_, rfl, q _ (I5.hok.fresh (Nat.le_refl _))⟩
    exact ⟨by rw [List.length_reverse]; exact hz, _, 0, r.reverse, Heap.get?_push_size _ rfl⟩
  | false =>
    obtain ⟨its, r, ht, hz⟩ := I5.tuple hx.tup
    have hlen := r.length
    refine tail_any (ops := [.ref a, .ref s4.heap.objs.size]) ht.typeIs (PyProof.Rows.slot_tuple_getitem.lookup) ?_ (by with_unfolding_all rfl)
    refine getItem_tuple_rev ht (Heap.IsSliceOf.new _ vl vu vs) pl pu ps ?_ (by rw [List.size_toArray]; omega)
    refine ⟨.ref _, _, I5.laid (t' := s4.toks) (o := .tup xs.reverse) (fun b ob q => Heap.get?_push_of_some _ q) (Nat.le_refl _) ?_, rfl, q _ (I5.hok.fresh (Nat.le_refl _))⟩
    exact ⟨by rw [List.length_reverse]; exact hz, _, r.reverse, ⟨_, Heap.get?_push_size _ rfl, rfl, _, rfl⟩⟩
/-- for x in xs, a list or a tuple -/
def iSeq (K : PySem.W.Frag) (tl : TE) : TI := fun σ H R => tl σ H fun x H1 => ∃ (b : Bool) (a : Addr), x = .ref a ∧ (∃ xs, IqX.SqB K b H1 a xs) ∧ R (if b = true then Itl K a else Itt K a) H1
theorem pi_seq {tg l : Expr} {tl : TE} (hl : PE X l tl) : PI X tg l (iSeq X.K tl) := by
  refine ⟨fun pins s σ H R I h => ?_⟩
  refine thn (hl.run pins s σ H _ I h) fun v s1 ⟨x, H1, I1, r1, q1⟩ => ?_
  obtain ⟨b, a, e, ⟨xs, hq⟩, q⟩ := q1
  subst e
  cases r1
  cases b with
  | true =>
    obtain ⟨its, rv, p, hz⟩ := I1.list hq.list
    refine wpAny_pyIter_list p.isList ?_
    refine ⟨s1.heap.objs.size, [s1.heap.objs.size], _, _, H1, rfl, I1.kept (t' := s1.toks) fun b o e => Heap.get?_push_of_some _ e, turn_list a _, ⟨_, Heap.get?_push_size _ rfl, rfl, rfl⟩, fun b hb => ?_, q⟩
    have e : b = s1.heap.objs.size := by simpa using hb
    subst e
    exact I1.fpOk (Nat.le_refl _) (I1.hok.fresh (Nat.le_refl _))
  | false =>
    obtain ⟨its, rv, p, hz⟩ := I1.tuple hq.tup
    refine wpAny_pyIter_tuple (show s1.heap.IsTuple a its.toArray from p) ?_
    refine ⟨s1.heap.objs.size, [s1.heap.objs.size], _, _, H1, rfl, I1.kept (t' := s1.toks) fun b o e => Heap.get?_push_of_some _ e, turn_tuple a _, ⟨_, Heap.get?_push_size _ rfl, rfl, rfl⟩, fun b hb => ?_, q⟩
    have e : b = s1.heap.objs.size := by simpa using hb
    subst e
    exact I1.fpOk (Nat.le_refl _) (I1.hok.fresh (Nat.le_refl _))
theorem for_seq {K : PySem.W.Frag} {b : Bool} {a : Addr} {xs : List V} {g : TG} {tb : TS} {D : Ends} {σ : L2.St} {H : Hp} (Pv : Nat → L2.St → Hp → Prop) (h0 : Pv 0 σ H) (hl : ∀ i σ H, i ≤ xs.length → Pv i σ H → IqX.SqB K b H a xs)
    (hs : ∀ i x σ H, xs[i]? = some x → Pv i σ H → g x σ H fun σ2 H2 => tb { D with nx := Pv (i + 1), ct := Pv (i + 1), bk := D.nx } σ2 H2) (hd : ∀ σ H, Pv xs.length σ H → D.nx σ H) :
    ∃ W : Nat → Nat → L2.St → Hp → Prop, (∃ m, W 0 m σ H) ∧ ∀ i m σ H, W i m σ H →
      (((if b = true then Itl K a else Itt K a)).stop i H ∧ D.nx σ H) ∨ (((if b = true then Itl K a else Itt K a)).go i H ∧ ∃ N : L2.St → Hp → Prop, (∀ σ' H', N σ' H' → ∃ m', m' < m ∧ W (i + 1) m' σ' H') ∧ ∀ x H', ((if b = true then Itl K a else Itt K a)).yld i H x H' → g x σ H' fun σ2 H2 => tb { D with nx := N, ct := N, bk := D.nx } σ2 H2) := by
  cases b with
  | true => exact for_list (K := K) (a := a) (xs := xs) Pv h0 hl hs hd
  | false => exact for_tup (K := K) (a := a) (xs := xs) Pv h0 hl hs hd
theorem lc_seq {K : PySem.W.Frag} {b : Bool} {a : Addr} {xs : List V} {g : TG} {tt : TT} {te : TE} {vs : List Nat} {σ : L2.St} {H1 : Hp} {D : Addr} {Qd : Hp → Prop} (Pv : Nat → Hp → Prop) (h0 : Pv 0 (upd H1 D (.lst []))) (hl : ∀ i H, i ≤ xs.length → Pv i H → IqX.SqB K b H a xs)
    (hs : ∀ i x H, xs[i]? = some x → Pv i H → g x (wipe σ vs) H fun σ2 H2 => wipe σ2 vs = wipe σ vs ∧ tt σ2 H2 fun b H3 =>
      if b = true then te σ2 H3 fun y H4 => ∃ acc, H4 D = some (.lst acc) ∧ acc.length < sizeLine ∧ Pv (i + 1) (upd H4 D (.lst (acc ++ [y]))) else Pv (i + 1) H3) (hd : ∀ H, Pv xs.length H → Qd H) :
    ∃ W : Nat → Nat → Hp → Prop, (∃ m, W 0 m (upd H1 D (.lst []))) ∧ ∀ i m H, W i m H →
      ((if b = true then Itl K a else Itt K a).stop i H ∧ Qd H) ∨ ((if b = true then Itl K a else Itt K a).go i H ∧ ∃ Nx : Hp → Prop, (∀ H', Nx H' → ∃ m', m' < m ∧ W (i + 1) m' H') ∧ ∀ x H', (if b = true then Itl K a else Itt K a).yld i H x H' → g x (wipe σ vs) H' fun σ2 H2 => wipe σ2 vs = wipe σ vs ∧ tt σ2 H2 fun b H3 =>
        if b = true then te σ2 H3 fun y H4 => ∃ acc, H4 D = some (.lst acc) ∧ acc.length < sizeLine ∧ Nx (upd H4 D (.lst (acc ++ [y]))) else Nx H3) := by
  cases b with
  | true => exact lc_list (K := K) (a := a) (xs := xs) Pv h0 hl hs hd
  | false => exact lc_tup (K := K) (a := a) (xs := xs) Pv h0 hl hs hd
end
end RvT
namespace EnS
open PySem PySem.Spec PyProof.Rows L2 IqX RvT
open AutoSeq1 (wpAny_loadPart')
theorem meets_enumerate_new1 {v : Value} {o : Obj} {H : Heap → Prop} (B : Begins v o H) :
    Meets (Builtin.«enumerate.__new__» ⟨[.type "enumerate", v], []⟩) (fun _ R s => H s.heap ∧
      R (.ok (.ret (.ref (s.heap.push o).objs.size))) { s with heap := (s.heap.push o).push { cls := .type "enumerate", data := .fields #[.none, .bool false, .ref s.heap.objs.size, rawInt 0, .none, .none] } }) :=
  .of_wp fun prog w A R s h => by
    obtain ⟨hp, g, d, tk, os⟩ := s; obtain ⟨h1, h⟩ := h
    have hsub := sub_enumerate
    have q1 : ∀ {A' : Around} {E : Value → Shared → Prop} {Q : Value → Shared → Prop}, Q (.ref hp.objs.size) ⟨(hp.push o), g, d, tk, os⟩ → wpAny (model prog w) A' (pyIter v) Q E ⟨hp, g, d, tk, os⟩ :=
      fun q => B.iter prog w _ _ ⟨hp, g, d, tk, os⟩ _ (B.keeps _ _ h1 fun b o' e => e) q
    wp_walk
    refine wpAny_stack_any fun st => wpAny_pure ?_
    split
    · rename_i c _ _ _ _ _
      cases (c == Value.type "enumerate")
      · wp_walk using q1
        exact ⟨_, rfl, h⟩
      · wp_walk using q1
        exact ⟨_, rfl, h⟩
    · wp_walk using q1
      exact ⟨_, rfl, h⟩
section
variable {prog : Program} {w : World} {A : Around} {E : Value → Shared → Prop} {s : Shared}
theorem enum_begins1 {v : Value} {o : Obj} {H : Heap → Prop} {Q : Value → Shared → Prop} (B : Begins v o H) (h1 : H s.heap)
    (h : ∀ h', IsEnum h' (s.heap.objs.size + 1) s.heap.objs.size 0 .none → h'.get? s.heap.objs.size = some o → h'.objs.size = s.heap.objs.size + 2 →
      (∀ b o, s.heap.get? b = some o → h'.get? b = some o) → Q (.ref (s.heap.objs.size + 1)) { s with heap := h' }) :
    wpAny (model prog w) A (call (.type "enumerate") [v]) Q E s := by
  refine callType_new F.called_enumerate (by decide) (F.typeCall_enumerate_1 _) (F.newCall_enumerate_1 _) (fun obj => F.args_object_init_2 obj _) F.entry_enumerate_new
    (meets_enumerate_new1 B) ⟨h1, ?_⟩
  have hz : (s.heap.push o).objs.size = s.heap.objs.size + 1 := Heap.size_push ..
  show _ ∧ _
  rw [hz]
  have he : IsEnum ((s.heap.push o).push { cls := .type "enumerate", data := .fields #[.none, .bool false, .ref s.heap.objs.size, rawInt 0, .none, .none] }) (s.heap.objs.size + 1) s.heap.objs.size 0 .none := by
    have := Heap.get?_push_size (s.heap.push o) (o := { cls := .type "enumerate", data := .fields #[.none, .bool false, .ref s.heap.objs.size, rawInt 0, .none, .none] }) rfl
    rw [hz] at this; exact this
  refine ⟨⟨_, he, rfl⟩, h _ he (Heap.get?_push_of_some _ (Heap.get?_push_size _ B.free)) (by rw [Heap.size_push, hz]) fun b o x => Heap.get?_push_of_some _ (Heap.get?_push_of_some _ x)⟩
end
/-- the list (b) or tuple at a as it stands at each turn, each item in a new pair -/
def Ites (b : Bool) (K : PySem.W.Frag) (a : Addr) : It :=
  ⟨fun i H => ∃ (xs : List V) (x : V), SqB K b H a xs ∧ xs[i]? = some x, fun i H v H' => ∃ T x, v = .ref T ∧ H T = none ∧ H' = upd H T (.tup [.int (i : Nat), x]) ∧ ∀ xs, SqB K b H a xs → xs[i]? = some x, fun i H => ∃ xs : List V, SqB K b H a xs ∧ xs.length ≤ i⟩
theorem turn_enumT {P : Program} {w : World} {K : PySem.W.Frag} {elts : List Expr} {kk : Nat} {tpos : Pos} (a e it : Addr) :
    Turn P w K (.Tuple elts kk tpos) (Ites false K a) [e, it] e (fun i h => (∃ old, IsEnum h e it ((i : Nat) : Int) old) ∧ h.IsTupleIter it a i ∧ e ≠ it) where
  mem := by simp
  obj := fun i h st b hb => by
    obtain ⟨⟨old, he⟩, ⟨o, ho, hc, hd⟩, _⟩ := st
    have e' : b = e ∨ b = it := by simpa using hb
    rcases e' with z | z
    · rw [z]; exact ⟨_, he, fun v q => nomatch q⟩
    · rw [z]; exact ⟨o, ho, fun v q => by rw [hd] at q; cases q⟩
  keep := fun i h h' st k => let ⟨⟨old, he⟩, hi, hne⟩ := st; ⟨⟨old, k e (by simp) _ he⟩, hi.at fun o q => k it (by simp) o q, hne⟩
  item := by
    intro X hP hw hK hc i pins s σ H E I hf st hg
    subst hP hw hK
    obtain ⟨⟨old, he⟩, hit, hne⟩ := st
    obtain ⟨xs, x, hq, hx⟩ := hg
    obtain ⟨its, rv, p, hz⟩ := I.tuple hq.tup
    obtain ⟨u, hu, ru⟩ := rv.get hx
    have hel : e < s.heap.objs.size := Heap.lt_size he
    have hil : it < s.heap.objs.size := by obtain ⟨_, q, _⟩ := hit; exact Heap.lt_size q
    have pt : s.heap.IsTuple a its.toArray := p
    have hae : a ≠ it := by
      rintro rfl
      obtain ⟨o1, e1, c1, _⟩ := id hit
      obtain ⟨o2, e2, c2, _⟩ := id pt
      rw [e1] at e2
      cases e2
      rw [c1] at c2
      exact absurd c2 (by decide)
    have haE : e ≠ a := by
      rintro rfl
      obtain ⟨o2, e2, c2, _⟩ := id pt
      have e1 := he
      unfold IsEnum at e1
      rw [e1] at e2
      cases e2
      exact absurd (show Value.type "enumerate" = Value.type "tuple" from c2) (by decide)
    have hii : i < its.toArray.size := by
      rw [List.size_toArray]
      exact (List.getElem?_eq_some_iff.mp hu).1
    refine wpAny_pyNext_enum_itemD (Draws.tuple (A := X.A.in1) (I.ok.hd hc) it a hae its.toArray) he ⟨hit, pt⟩ hii hne (by simp [hne, haE]) fun u' h' tk hP' ho hst' hT hsz hk => ?_
    have eu : u' = u := by
      have h1 : its.toArray[i]? = some u' := hP'
      rw [List.getElem?_toArray, hu] at h1
      exact (Option.some.inj h1).symm
    subst eu
    refine ⟨_, rfl, wpAny_letOwnedTupleGo_enum (s := { s with heap := h', toks := tk + 1 }) ho fun h'' he' sb => ?_⟩
    have hT2 : h''.get? s.heap.objs.size = some { cls := .type "tuple", data := .seq #[.int i tk, u'] } := (sb.2 _ (Nat.ne_of_gt hel)).trans hT
    have new : ObjOk X.prog X.w (upd H s.heap.objs.size (.tup [.int (i : Nat), x])) h'' s.heap.objs.size (.tup [.int (i : Nat), x]) :=
      ⟨by show 2 ≤ sizeLine; decide, [.int i tk, u'], .cons ⟨_, rfl⟩ (.cons ru .nil), ⟨_, hT2, rfl, _, rfl⟩⟩
    have I1 : Inv X pins σ (upd H s.heap.objs.size (.tup [.int (i : Nat), x])) { s with heap := h'', toks := tk + 1 } :=
      I.turnedNew (ch := [e, it]) (fun b ob hb q => (sb.2 b (fun z => hb (by simp [z]))).trans (hk b ob (fun z => hb (by simp [z])) (fun z => hb (by simp [z])) q)) hf (Nat.le_refl _) new
    refine ⟨.ref s.heap.objs.size, _, I1, rfl, ⟨_, x, rfl, I.hok.fresh (Nat.le_refl _), rfl, fun ys hy => by rw [I.tuple_inj hy.tup hq.tup]; exact hx⟩, ⟨⟨u', ?_⟩, hst'.1.at fun o q => (sb.2 it (Ne.symm hne)).trans q, hne⟩, fun b hb => ?_⟩
    · have e1 : ((i + 1 : Nat) : Int) = (i : Int) + 1 := by omega
      rw [e1]; exact he'
    · have hb' : b < s.heap.objs.size := by
        have e' : b = e ∨ b = it := by simpa using hb
        rcases e' with z | z
        · rw [z]; exact hel
        · rw [z]; exact hil
      rw [upd_ne (Nat.ne_of_lt hb')]
      exact (hf b hb).1
  done := by
    intro X hP hw hK hc i pins s σ H E I hf st hg
    subst hP hw hK
    obtain ⟨⟨old, he⟩, hit, hne⟩ := st
    obtain ⟨xs, hq, hx⟩ := hg
    obtain ⟨its, rv, p, hz⟩ := I.tuple hq.tup
    obtain ⟨f0, f1, f2, f3, f4, f5⟩ := hf it (by simp)
    have hl := rv.length
    have pt : s.heap.IsTuple a its.toArray := p
    have hT : s.TypeIs (.ref e) "enumerate" := ⟨_, he, rfl⟩
    unfold pyNext
    refine wpAny_bind (wpAny_attempt (wpAny_callSpecial?_slot (name := Str.ofString "__next__") hT F.slot_enumerate_next
      (wpAny_call_entry F.slot_enumerate_next hT F.entry_enumerate_next ?_ (F.args_enumerate_next_1 _))))
    show wpAny _ _ (field (.ref e) 2 >>= _) _ _ _
    refine wpAny_bind (wpAny_field he rfl (x := .ref it) rfl ?_)
    refine wpAny_bind (wpAny_nextOf_tuple_end (by exact I.ok.hd hc) hit pt (by simp; omega) fun h' x he' hx' => ?_)
    obtain ⟨o, ho, hc'⟩ := hx'
    refine wpAny_bind (wpAny_isInstance (T := "StopIteration") (b := true) ⟨o, ho, hc'⟩ isSubtype_stop ?_)
    exact wpAny_pure ⟨rfl, I.turned (t' := s.toks) (fun b o hb q => he' b o hb q) f0 f1 f3 f4 f5⟩
  self := fun A i s Q E st h => let ⟨⟨_, he⟩, _⟩ := st; wpAny_pyIter_enum he h
def iEnumS (K : PySem.W.Frag) (ta : TA) : TI := fun σ H R => ta σ H fun vs H1 => ∃ (b : Bool) (a : Addr) (xs : List V), vs = [.ref a] ∧ SqB K b H1 a xs ∧ R (Ites b K a) H1
theorem pi_enumS {X : Cx} {e : Expr} {ta : TA} {p pos tpos : Pos} {elts : List Expr} {kk : Nat} (hg : Gl X "enumerate") (hm : X.mg "enumerate" = none) (ha : PA X [e] ta) (hs : starEach [e] X.env = [(false, eval e X.env)] := by rfl) :
    PI X (.Tuple elts kk tpos) (.Call (.Name "enumerate" p) [e] [] pos) (iEnumS X.K ta) := by
  refine ⟨fun pins s σ H R I h => ?_⟩
  refine Call_ (ld_blt I hg hm boot_enumerate (PyProof.Rows.callWith_type1 (thn (ha.run pos pins s σ H _ I h) fun us s1 ⟨vs, H1, I1, r1, q1⟩ => ?_) hs rfl))
  obtain ⟨b, a, xs, ex, hq, q⟩ := q1
  subst ex
  cases r1 with
  | cons r rr =>
    cases rr
    cases r
    have fp : ∀ b', b' ∈ [s1.heap.objs.size + 1, s1.heap.objs.size] → FpOk X pins H1 b' := fun b' hb => by
      have e' : b' = s1.heap.objs.size + 1 ∨ b' = s1.heap.objs.size := by simpa using hb
      have hle : s1.heap.objs.size ≤ b' := by
        rcases e' with z | z
        · rw [z]; exact Nat.le_add_right _ _
        · rw [z]; exact Nat.le_refl _
      exact I1.fpOk hle (I1.hok.fresh hle)
    cases b with
    | true =>
      obtain ⟨its, rv, p', hz⟩ := I1.list hq.list
      refine call_enumerate_list p'.isList fun h' he hit hsz hk => wpAny_pyIter_enum he ?_
      have I2 : Inv X pins σ H1 { s1 with heap := h' } := I1.kept (t' := s1.toks) hk
      exact ⟨s1.heap.objs.size + 1, [s1.heap.objs.size + 1, s1.heap.objs.size], _, Ites true X.K a, H1, rfl, I2, turn_enum a (s1.heap.objs.size + 1) s1.heap.objs.size, ⟨⟨.none, he⟩, hit, Nat.succ_ne_self _⟩, fp, q⟩
    | false =>
      obtain ⟨its, rv, p', hz⟩ := I1.tuple hq.tup
      refine enum_begins1 (begins_tuple a its.toArray) p' fun h' he hit hsz hk => wpAny_pyIter_enum he ?_
      have I2 : Inv X pins σ H1 { s1 with heap := h' } := I1.kept (t' := s1.toks) hk
      exact ⟨s1.heap.objs.size + 1, [s1.heap.objs.size + 1, s1.heap.objs.size], _, Ites false X.K a, H1, rfl, I2, turn_enumT a (s1.heap.objs.size + 1) s1.heap.objs.size, ⟨⟨.none, he⟩, ⟨_, hit, rfl, rfl⟩, Nat.succ_ne_self _⟩, fp, q⟩
/-- for i, x in enumerate(xs) -/
theorem for_enumS {K : PySem.W.Frag} {b : Bool} {a : Addr} {xs : List V} {g : TG} {tb : TS} {D : Ends} {σ : L2.St} {H : Hp} (Pv : Nat → L2.St → Hp → Prop) (h0 : Pv 0 σ H) (hl : ∀ i σ H, i ≤ xs.length → Pv i σ H → SqB K b H a xs)
    (hs : ∀ i x T σ H, xs[i]? = some x → Pv i σ H → H T = none → g (.ref T) σ (upd H T (.tup [.int (i : Nat), x])) fun σ2 H2 => tb { D with nx := Pv (i + 1), ct := Pv (i + 1), bk := D.nx } σ2 H2) (hd : ∀ σ H, Pv xs.length σ H → D.nx σ H) :
    ∃ W : Nat → Nat → L2.St → Hp → Prop, (∃ m, W 0 m σ H) ∧ ∀ i m σ H, W i m σ H →
      ((Ites b K a).stop i H ∧ D.nx σ H) ∨ ((Ites b K a).go i H ∧ ∃ N : L2.St → Hp → Prop, (∀ σ' H', N σ' H' → ∃ m', m' < m ∧ W (i + 1) m' σ' H') ∧ ∀ x H', (Ites b K a).yld i H x H' → g x σ H' fun σ2 H2 => tb { D with nx := N, ct := N, bk := D.nx } σ2 H2) := by
  refine ⟨fun i m σ H => m = xs.length - i ∧ i ≤ xs.length ∧ Pv i σ H, ⟨xs.length, by simp, Nat.zero_le _, h0⟩, ?_⟩
  rintro i m σ H ⟨rfl, hi, p⟩
  have q := hl i σ H hi p
  by_cases hlt : i < xs.length
  · refine .inr ⟨⟨xs, xs[i], q, by simp [hlt]⟩, Pv (i + 1), fun σ' H' p' => ⟨xs.length - (i + 1), by omega, rfl, hlt, p'⟩, fun x H' y => ?_⟩
    obtain ⟨T, z, rfl, nT, rfl, y⟩ := y
    exact hs i z T σ H (y xs q) p nT
  · have e : i = xs.length := by omega
    subst e
    exact .inl ⟨⟨xs, q, Nat.le_refl _⟩, hd σ H p⟩
end EnS
namespace LsX
open PySem PySem.Spec PyProof.Rows L2
section
variable {prog : Program} {w : World} {A : Around} {E : Value → Shared → Prop} {s : Shared}
theorem hint_str {x : Str} {t : Tok} {Q : Bool → Shared → Prop} (h : Q false s) : wpAny (model prog w) A (Builtin.List.listLengthHint (.str x t)) Q E s := by
  have hT : s.TypeIs (.str x t) "str" := typeIs_str s x t
  unfold Builtin.List.listLengthHint
  refine wpAny_bind (wpAny_specialOf hT PySem.F.slot_str_len.lookup ?_)
  generalize hid : ("str.__len__" : String) = id0
  wp_delta
  rw [show splitId id0 = some ("str", "__len__") from by subst hid; decide +kernel]
  subst hid
  refine wpAny_bind (wpAny_isInstance (T := "str") (b := true) hT (by rw [isSubtype_type]; kernel_rfl) ?_)
  refine wpAny_ite_split (fun hab => absurd hab (by decide)) (fun _ => ?_)
  refine wpAny_ite_split (fun _ => ?_) (fun hab => absurd (by decide +kernel) hab)
  refine wpAny_bind (wpAny_typeOf hT ?_)
  exact wpAny_pure h
theorem extend_str {R : Result → Shared → Prop} (hh : A.handled = none) (x : Str) (t : Tok) (S : Addr) (res : Value) (c₀ : Nat) (hS : s.heap.get? S = some { cls := .type "list", data := .seq #[] c₀ })
    (hR : ∀ h' tk acc' c', (∀ b o, b ≠ S → s.heap.get? b = some o → h'.get? b = some o) → h'.get? S = some { cls := .type "list", dict := none, data := .seq acc' c', slots := #[] } →
      ItemsOf (SignAt x) acc' x.cps.size → R (.ok (.ret res)) { s with heap := h', toks := tk }) (hn : x.cps.size ≤ sizeLine) :
    wpAny (model prog w) A.in1 (Builtin.List.listExtendWith (.ref S) (.str x t) res)
      (fun fin s' => match fin with | .done f => R (.ok f) s' | .again c' => c'.quiet = true ∧ codeAny (model prog w) A c' R s') (fun e s' => R (.error e) s') s := by
  have hSI : S ≠ s.heap.objs.size := Nat.ne_of_lt (Heap.lt_size hS)
  have hSf : S ∉ [s.heap.objs.size] := fun hm => hSI (List.mem_singleton.mp hm)
  unfold Builtin.List.listExtendWith
  refine wpAny_bind (wpAny_typeOf (T := "str") (v := .str x t) (typeIs_str s x t) ?_)
  have h1 : Builtin.List.listSameRef (.ref S) (.str x t) = false := rfl
  have h2 : (Value.type "str" == Value.type "list") = false := by decide
  have h3 : (Value.type "str" == Value.type "tuple") = false := by decide
  simp only [h1, h2, h3, Bool.or_false, Bool.false_eq_true, if_false]
  refine wpAny_bind (wpAny_pyIter_str fun o St W hst => ?_)
  refine wpAny_bind (wpAny_holding (hint_str ?_))
  rw [if_neg (by first | decide | decide +kernel)]
  have W' := W A.in1 hh
  refine wpAny_pure ⟨plainId_quiet PySem.F.plain_extend_loop _, codeAny_extend_loopS W'.toS hn _ hSf _ x.cps.size 0 _ _ _ rfl (Nat.zero_le _) hst (Heap.get?_push_of_some _ hS) (ItemsOf.nil _) fun s' acc' c' hm hS' hacc => ?_⟩
  rw [Moved.eq_with hm]
  refine hR s'.heap s'.toks acc' c' (fun b ob hb e => hm.heap b ob (fun hmem => ?_) (Heap.get?_push_of_some _ e)) hS' hacc
  rcases List.mem_cons.mp hmem with e' | hmem
  · exact hb e'
  · exact absurd (Heap.lt_size e) (by rw [List.mem_singleton.mp hmem]; exact Nat.lt_irrefl _)
theorem list_init_str {R : Result → Shared → Prop} (hh : A.handled = none) (x : Str) (t : Tok) (S : Addr) (hS : s.heap.get? S = some { cls := .type "list", data := .seq #[] })
    (hR : ∀ h' tk acc' c', (∀ b o, b ≠ S → s.heap.get? b = some o → h'.get? b = some o) → h'.get? S = some { cls := .type "list", dict := none, data := .seq acc' c', slots := #[] } →
      ItemsOf (SignAt x) acc' x.cps.size → R (.ok (.ret .none)) { s with heap := h', toks := tk }) (hn : x.cps.size ≤ sizeLine) :
    wpAny (model prog w) A.in1 (Builtin.«list.__init__» ⟨[.ref S, .str x t], []⟩)
      (fun fin s' => match fin with | .done f => R (.ok f) s' | .again c' => c'.quiet = true ∧ codeAny (model prog w) A c' R s') (fun e s' => R (.error e) s') s := by
  show wpAny _ _ (do let old ← Builtin.List.listItems (.ref S); Builtin.List.listUpdate (.ref S) (fun _ => #[]); letGo old.toList.reverse; Builtin.List.listExtendWith (.ref S) (.str x t) .none) _ _ s
  refine wpAny_bind ?_
  unfold Builtin.List.listItems
  refine wpAny_bind (wpAny_seqItems hS rfl (wpAny_pure ?_))
  show wpAny _ _ (updateSeq S (fun _ => #[]) >>= fun _ => letGo (#[] : Array Value).toList.reverse >>= fun _ => Builtin.List.listExtendWith (.ref S) (.str x t) .none) _ _ s
  refine wpAny_bind (wpAny_updateSeq hS rfl ?_)
  have hS₂ := Heap.get?_update_self (Obj.mapSeq (fun _ => (#[] : Array Value))) hS rfl
  have oth : ∀ b o, b ≠ S → s.heap.get? b = some o → (s.heap.update S (Obj.mapSeq (fun _ => (#[] : Array Value)))).get? b = some o :=
    fun b o hb e => (Heap.get?_update_other _ _ (Ne.symm hb)).trans e
  refine wpAny_bind (wpAny_letGo ?_)
  refine extend_str hh x t S .none _ hS₂ (fun h' tk acc' c' hk hS' hacc => ?_) hn
  exact hR h' tk acc' c' (fun b o hb e => hk b o hb (oth b o hb e)) hS' hacc
theorem call_list_str {x : Str} {t : Tok} {Q : Value → Shared → Prop} (hh : A.handled = none) (hn : x.cps.size ≤ sizeLine)
    (hQ : ∀ h' tk acc' c', (∀ b o, s.heap.get? b = some o → h'.get? b = some o) →
      h'.get? s.heap.objs.size = some { cls := .type "list", dict := none, data := .seq acc' c', slots := #[] } → ItemsOf (SignAt x) acc' x.cps.size → Q (.ref s.heap.objs.size) { s with heap := h', toks := tk }) :
    wpAny (model prog w) A (call (.type "list") [.str x t]) Q E s := by
  refine callType_codes (Q₁ := fun obj s₁ => obj = .ref s.heap.objs.size ∧ s₁ = { s with heap := s.heap.push { cls := .type "list", data := .seq #[] } }) PySem.F.called_list (PySem.F.typeCall_list_1 _) PySem.F.entry_list_init
    (code_list_new _ ⟨rfl, rfl⟩) fun obj s₁ h₁ => ?_
  obtain ⟨rfl, rfl⟩ := h₁
  have hS : (s.heap.push { cls := .type "list", data := .seq #[] }).get? s.heap.objs.size = some { cls := .type "list", data := .seq #[] } := Heap.get?_push_size _ rfl
  refine ⟨⟨_, hS, rfl⟩, PySem.F.args_list_init_2 _ _, list_init_str (A := A.in1) hh x t _ hS (fun h' tk acc' c' hk hS' hacc => ?_) hn⟩
  exact ⟨rfl, hQ h' tk acc' c' (fun b o e => hk b o (Nat.ne_of_lt (Heap.lt_size e)) (Heap.get?_push_of_some _ e)) hS' hacc⟩
end
/-- list(x), x a text: its signs -/
theorem call_list_signs {X : Cx} (hc : X.calm = true) : CallR X (.type "list") (fun xs H Q => ∃ z : Str, xs = [.str z] ∧ z.cps.size ≤ sizeLine ∧ ∀ p, H p = none → Q (.ref p) (upd H p (.lst (z.cps.toList.map fun c => V.str ⟨#[c]⟩)))) := by
  intro pins s σ H xs us Q I r h
  obtain ⟨z, rfl, hz, q⟩ := h
  obtain ⟨u, rfl, t, rfl⟩ := vals1 r
  refine call_list_str (I.ok.hd hc) hz fun h' tk acc' c' kp e ha => ?_
  have hr : Vals (z.cps.toList.map fun c => V.str ⟨#[c]⟩) acc'.toList := by
    refine vals_of_idx _ _ ?_ fun j u hj => ?_
    · rw [List.length_map, Array.length_toList, Array.length_toList]
      exact ha.1
    · obtain ⟨c, tk', hcj, rfl⟩ := ha.2 j u (by rw [← Array.getElem?_toList]; exact hj)
      refine ⟨.str ⟨#[c]⟩, ?_, tk', rfl⟩
      rw [List.getElem?_map, Array.getElem?_toList, hcj]
      rfl
  exact ⟨.ref s.heap.objs.size, _, I.laid (t' := tk) kp (Nat.le_refl _) (show ObjOk X.prog X.w _ h' _ (.lst _) from ⟨by rw [List.length_map, Array.length_toList]; exact hz, acc'.toList, c', hr, by simpa using e⟩), rfl, q _ (I.hok.fresh (Nat.le_refl _))⟩
end LsX
namespace LwB
open PySem PySem.Spec PyProof.Rows L2 IqX RvT
/-! ### frames: all but the box stays -/
def Fr (b : Addr) (H H' : Hp) : Prop := ∀ a o, H a = some o → a ≠ b → H' a = some o
theorem Fr.refl (b : Addr) (H : Hp) : Fr b H H := fun _ _ h _ => h
theorem Fr.trans {b : Addr} {H H1 H2 : Hp} (x : Fr b H H1) (y : Fr b H1 H2) : Fr b H H2 := fun a o h n => y a o (x a o h n) n
theorem Fr.same {b : Addr} {H H' : Hp} (x : Same H H') : Fr b H H' := fun a o h _ => x a o h
theorem same_new {H : Hp} {p : Addr} {o : HO} (h : H p = none) : Same H (upd H p o) := fun b x e => by
  rw [upd_ne (ne_of_none e h)]
  exact e
theorem Fr.new {b : Addr} {H : Hp} {p : Addr} {o : HO} (h : H p = none) : Fr b H (upd H p o) := Fr.same (same_new h)
theorem Fr.put {b : Addr} {H : Hp} {o : HO} : Fr b H (upd H b o) := fun a x e n => by
  rw [upd_ne n]
  exact e
/-- a store to a thing that was not there at first -/
theorem Fr.young {b : Addr} {H H1 : Hp} {p : Addr} {o : HO} (x : Fr b H H1) (h : H p = none) : Fr b H (upd H1 p o) := fun a u e n => by
  rw [upd_ne (ne_of_none e h)]
  exact x a u e n
theorem Same.young {H H1 : Hp} {p : Addr} {o : HO} (x : Same H H1) (h : H p = none) : Same H (upd H1 p o) := fun a u e => by
  rw [upd_ne (ne_of_none e h)]
  exact x a u e
theorem Fr.free {b : Addr} {H H' : Hp} (x : Fr b H H') {l : Addr} (n : l ≠ b) (h : H' l = none) : H l = none := by
  cases q : H l with
  | none => rfl
  | some o =>
    rw [x l o q n] at h
    cases h
theorem seqL_of {K : PySem.W.Frag} {H H' : Hp} {a : Addr} {xs : List V} (e : ∀ o, H a = some o → H' a = some o) (h : SqL K H a xs) : SqL K H' a xs := by
  rcases h with (h | ⟨o, h⟩) | h
  · exact .inl (.inl (e _ h))
  · exact .inl (.inr ⟨o, e _ h⟩)
  · exact .inr h
theorem seqT_of {K : PySem.W.Frag} {H H' : Hp} {a : Addr} {xs : List V} (e : ∀ o, H a = some o → H' a = some o) (h : SqT K H a xs) : SqT K H' a xs := by
  rcases h with (h | ⟨o, h⟩) | h
  · exact .inl (.inl (e _ h))
  · exact .inl (.inr ⟨o, e _ h⟩)
  · exact .inr h
theorem seqB_of {K : PySem.W.Frag} {b : Bool} {H H' : Hp} {a : Addr} {xs : List V} (e : ∀ o, H a = some o → H' a = some o) (h : SqB K b H a xs) : SqB K b H' a xs := by
  cases b with
  | true => exact seqL_of e h
  | false => exact seqT_of e h
theorem _root_.L2.Same.sqB {K : PySem.W.Frag} {b : Bool} {H H' : Hp} {a : Addr} {xs : List V} (s : Same H H') (h : SqB K b H a xs) : SqB K b H' a xs := seqB_of (fun o e => s a o e) h
theorem _root_.L2.Same.sqT {K : PySem.W.Frag} {H H' : Hp} {a : Addr} {xs : List V} (s : Same H H') (h : SqT K H a xs) : SqT K H' a xs := seqT_of (fun o e => s a o e) h
theorem Fr.sqB {K : PySem.W.Frag} {b : Bool} {c : Addr} {H H' : Hp} {a : Addr} {xs : List V} (s : Fr c H H') (n : a ≠ c) (h : SqB K b H a xs) : SqB K b H' a xs := seqB_of (fun o e => s a o e n) h
theorem Fr.sqL {K : PySem.W.Frag} {c : Addr} {H H' : Hp} {a : Addr} {xs : List V} (s : Fr c H H') (n : a ≠ c) (h : SqL K H a xs) : SqL K H' a xs := seqL_of (fun o e => s a o e n) h
theorem Fr.sqT {K : PySem.W.Frag} {c : Addr} {H H' : Hp} {a : Addr} {xs : List V} (s : Fr c H H') (n : a ≠ c) (h : SqT K H a xs) : SqT K H' a xs := seqT_of (fun o e => s a o e n) h
theorem sqL_lst {K : PySem.W.Frag} {H : Hp} {a : Addr} {xs : List V} (h : H a = some (.lst xs)) : SqB K true H a xs := SqL.of h
theorem sqT_tup {K : PySem.W.Frag} {H : Hp} {a : Addr} {xs : List V} (h : H a = some (.tup xs)) : SqB K false H a xs := SqT.of h

/-- a list (b) or a tuple that stands in H -/
def Sq (b : Bool) (H : Hp) (a : Addr) (xs : List V) : Prop := Rd H a (if b = true then .lst xs else .tup xs)
theorem Sq.there {b : Bool} {H : Hp} {a : Addr} {xs : List V} (h : Sq b H a xs) : ∃ o, H a = some o := by
  rcases h with h | ⟨o, h⟩
  · exact ⟨_, h⟩
  · exact ⟨_, h⟩
theorem Sq.ne {b : Bool} {H : Hp} {a p : Addr} {xs : List V} (h : Sq b H a xs) (n : H p = none) : a ≠ p := by
  obtain ⟨o, e⟩ := h.there
  exact ne_of_none e n
theorem Sq.B {K : PySem.W.Frag} {b : Bool} {H : Hp} {a : Addr} {xs : List V} (h : Sq b H a xs) : SqB K b H a xs := by
  cases b with
  | true => exact .inl h
  | false => exact .inl h
theorem Sq.L {K : PySem.W.Frag} {H : Hp} {a : Addr} {xs : List V} (h : Sq true H a xs) : SqL K H a xs := .inl h
theorem Sq.T {K : PySem.W.Frag} {H : Hp} {a : Addr} {xs : List V} (h : Sq false H a xs) : SqT K H a xs := .inl h
theorem Sq.LT {K : PySem.W.Frag} {b : Bool} {H : Hp} {a : Addr} {xs : List V} (h : Sq b H a xs) : SqL K H a xs ∨ SqT K H a xs := by
  cases b with
  | true => exact .inl (.inl h)
  | false => exact .inr (.inl h)
theorem Sq.of {b : Bool} {H : Hp} {a : Addr} {xs : List V} (h : H a = Option.some (if b = true then HO.lst xs else HO.tup xs)) : Sq b H a xs := .inl h
theorem Sq.lst {H : Hp} {a : Addr} {xs : List V} (h : H a = some (HO.lst xs)) : Sq true H a xs := .inl h
theorem Sq.tup {H : Hp} {a : Addr} {xs : List V} (h : H a = some (HO.tup xs)) : Sq false H a xs := .inl h
theorem Sq.put {b : Bool} {H : Hp} {a : Addr} {xs : List V} : Sq b (L2.upd H a (if b = true then HO.lst xs else HO.tup xs)) a xs := .inl upd_same
theorem Sq.mv {b : Bool} {H H' : Hp} {a : Addr} {xs : List V} (e : ∀ o, H a = some o → H' a = some o) (h : Sq b H a xs) : Sq b H' a xs := by
  rcases h with h | ⟨o, h⟩
  · exact .inl (e _ h)
  · exact .inr ⟨o, e _ h⟩
theorem _root_.L2.Same.sq {b : Bool} {H H' : Hp} {a : Addr} {xs : List V} (s : Same H H') (h : Sq b H a xs) : Sq b H' a xs := h.mv fun o e => s a o e
theorem Fr.sq {b : Bool} {c : Addr} {H H' : Hp} {a : Addr} {xs : List V} (s : Fr c H H') (n : a ≠ c) (h : Sq b H a xs) : Sq b H' a xs := h.mv fun o e => s a o e n
theorem Sq.inj {b : Bool} {H : Hp} {a : Addr} {xs ys : List V} (h : Sq b H a xs) (h' : Sq b H a ys) : xs = ys := by
  rcases h with h | ⟨o, h⟩ <;> rcases h' with h' | ⟨o', h'⟩ <;> (rw [h] at h'; cases b <;> cases h' <;> rfl)

/-! ### the box -/
def Bx (n : Nat) (H : Hp) (b : Addr) : Prop := ∃ x0 x1 x2 : Int, H b = some (.lst [.int x0, .int x1, .int x2]) ∧ 0 ≤ x0 ∧ 0 ≤ x1 ∧ x1 < 2 ^ 62 ∧ 0 ≤ x2 ∧ x2 ≤ (n : Int)
theorem Bx.mono {n m : Nat} {H : Hp} {b : Addr} (h : n ≤ m) (x : Bx n H b) : Bx m H b := by
  obtain ⟨x0, x1, x2, e, h0, h1, h2, h3, h4⟩ := x
  exact ⟨x0, x1, x2, e, h0, h1, h2, h3, by omega⟩
theorem Bx.ne_new {n : Nat} {H : Hp} {b p : Addr} (x : Bx n H b) (h : H p = none) : p ≠ b := by
  obtain ⟨x0, x1, x2, e, _⟩ := x
  exact (ne_of_none e h).symm
theorem Bx.same {n : Nat} {H H' : Hp} {b : Addr} (x : Bx n H b) (s : Same H H') : Bx n H' b := by
  obtain ⟨x0, x1, x2, e, r⟩ := x
  exact ⟨x0, x1, x2, s _ _ e, r⟩
theorem Bx.new {n : Nat} {H : Hp} {b p : Addr} {o : HO} (x : Bx n H b) (h : H p = none) : Bx n (upd H p o) b := x.same (same_new h)
theorem Bx.upd {n : Nat} {H : Hp} {b p : Addr} {o : HO} (x : Bx n H b) (h : p ≠ b) : Bx n (upd H p o) b := by
  obtain ⟨x0, x1, x2, e, r⟩ := x
  exact ⟨x0, x1, x2, by rw [upd_ne h.symm]; exact e, r⟩

/-! ### defs that are called by their names -/
structure Ok (P : Program) (w : World) (K : PySem.W.Frag) (mg : Str → Option Value) (base : Heap) (k : Nat) (x : Str) (ps : List Str) (sp : Sp) : Prop where
  ex : ∃ (f : Addr) (fd : FuncData), FnOk P w K mg base CX0 k f fd ps sp ∧ mg x = some (.ref f) ∧ PySem.W.keepIn K (.ref f) = true ∧ Binds K fd ps [] ∧ ∃ (oc : Value) (od : Option Addr) (osl : Array (Option Value)), K.lookup f = some ⟨oc, od, .func fd, osl⟩
structure Df (K : PySem.W.Frag) (mg : Str → Option Value) (x : Str) (st : Stmt) (ps : List Str) : Prop where
  ex : ∃ (f : Addr) (fd : FuncData), Fun K x x st f fd ∧ mg x = some (.ref f) ∧ Binds K fd ps []
section
variable {P : Program} {w : World} {K : PySem.W.Frag} {mg : Str → Option Value} {base : Heap}
theorem Df.ok {x : Str} {st : Stmt} {N ps : List Str} {k : Nat} {sp : Sp} (D : Df K mg x st ps) (S : FnScope N ps (defScope st)) (len : ∀ vs H Q E, sp vs H Q E → vs.length = ps.length)
    (hbody : ∀ (f : Addr) (cdv : Value) (A : Around) (outer : List Env) (s : Shared) (H : Hp) (vs : List V) (Q : VK) (E : XK), Room k (A.deeper (envOfC x (defScope st) s.heap.objs.size f cdv)) → sp vs H Q E →
      ∃ t, PSs (cxOf CX0 P w K mg base N x (defScope st) f cdv A outer s H E).nox (defBody st) t ∧ t { nx := fun _ H' => Q .non H', rt := Q } (start N vs) H) : Ok P w K mg base (k + 1) x ps sp := by
  obtain ⟨f, fd, F, g, b⟩ := D.ex
  obtain ⟨oc, od, _, _, _, _, _, _, osl, _, lk, _⟩ := F.ex
  exact ⟨f, fd, F.ok S len (hbody f), g, F.kp, b, oc, od, osl, lk⟩
theorem Ok.up {x : Str} {ps : List Str} {k : Nat} {sp sp' : Sp} (O : Ok P w K mg base k x ps sp) (h : sp = sp') : Ok P w K mg base k x ps sp' := h ▸ O
end
section
variable {X : Cx} {k : Nat} {x : Str} {ps : List Str} {sp : Sp} {e : Expr} {es : List Expr} {t : TA} {p pos : Pos}
theorem pe_c (O : Ok X.prog X.w X.K X.mg X.base k x ps sp) (hr : Room k X.A) (ha : PA X (e :: es) t) (hg : Gl X x := by rfl)
    (hdb : (x == ("__debug__" : Str)) = false := by decide) (he : starEach (e :: es) X.env = (false, eval e X.env) :: starEach es X.env := by rfl) (hpl : (backTo pos (starEach es X.env)).any (·.1) = false := by rfl) :
    PE X (.Call (.Name x p) (e :: es) [] pos) (tCall sp [] E0 t) := by
  obtain ⟨f, fd, F, g, kp, b, _⟩ := O.ex
  exact pe_call F hr hg g kp b .nil pass0 ha hdb he hpl
theorem pe_c0 (O : Ok X.prog X.w X.K X.mg X.base k x ps sp) (hr : Room k X.A) (hg : Gl X x := by rfl)
    (hdb : (x == ("__debug__" : Str)) = false := by decide) :
    PE X (.Call (.Name x p) [] [] pos) (tCall sp [] E0 tNil) := by
  obtain ⟨f, fd, F, g, kp, b, _⟩ := O.ex
  exact pe_call0 F hr hg g kp b .nil pass0 hdb
end
/-! ### f(b=.., a=..): two parameters, by their names, the other way about -/
def swap2 {α : Type} : List α → List α → List α
  | [], [x, y] => [y, x]
  | _, _ => []
/-- how the def's two parameters bind by their names, the second one first -/
def Kw2 (x : Str) (st : Stmt) (ps ks : List Str) : Prop := ∀ (kV doc pm : Value) (an : Option Addr) (cdv ct u v : Value), bindArgs (PySem.W.fnOf x x (defArgs st) (defBody st) (defScope st) .none kV doc pm an cdv ct) ⟨[], ks.zip [u, v]⟩ = pure (ps.zip [v, u])
section
variable {X : Cx} {k : Nat} {x : Str} {ps ks : List Str} {sp : Sp} {kws : List Keyword} {tk : TA} {p pos : Pos} {st : Stmt}
def tCall2 (sp : Sp) (tk : TA) : TE := fun σ H Q => tk σ H fun zs H1 => ∃ u v : V, zs = [u, v] ∧ sp [v, u] H1 Q E0
theorem pe_kw2 (O : Ok X.prog X.w X.K X.mg X.base k x ps sp) (D : Df X.K X.mg x st ps) (kb : Kw2 x st ps ks) (hr : Room k X.A) (hkw : PK X kws tk) (hk2 : ks.length = 2 := by rfl) (hg : Gl X x := by rfl)
    (hall : (backToKw pos (keywordEach kws X.env)).all (·.1.isSome) = true := by rfl) (hks : (backToKw pos (keywordEach kws X.env)).filterMap (·.1) = ks := by rfl) (hdb : (x == ("__debug__" : Str)) = false := by decide)
    (hpl : ((backTo pos (starEach [] X.env)).any (·.1) || (backToKw pos (keywordEach kws X.env)).any (·.1.isNone)) = false := by rfl) :
    PE X (.Call (.Name x p) [] kws pos) (tCall2 sp tk) := by
  obtain ⟨f, fd, F, g, kp, b, oc, od, osl, lk⟩ := O.ex
  obtain ⟨f', fd', F', g', b'⟩ := D.ex
  rw [g] at g'
  cases g'
  obtain ⟨oc2, od2, kV, doc, pm, an, cdv, ct, osl2, efd, lk2, _⟩ := F'.ex
  rw [lk] at lk2
  cases lk2
  have K2 : KBn X.K fd ps 0 ks swap2 swap2 := by
    refine ⟨fun s us ws _ l1 l2 => ?_, fun {vs us zs ws} r1 r2 => ?_⟩
    · match us, ws, l1, l2.trans hk2 with
      | [], [u, v], _, _ =>
        rw [efd]
        exact .of_eq (kb kV doc pm an cdv ct u v)
    · cases r1 with
      | nil =>
        cases r2 with
        | nil => exact .nil
        | cons a r2 =>
          cases r2 with
          | nil => exact .nil
          | cons b r2 =>
            cases r2 with
            | nil => exact .cons b (.cons a .nil)
            | cons c r2 => exact .nil
      | cons a r1 => cases r2 <;> exact .nil
  refine ⟨fun pins s σ H Q I h => ?_⟩
  refine wpAny_Call_Name_kw (ld_glob I hg g ?_ hdb)
  refine PySem.W.callWith_KW0 (h₀ := X.base) I.ok.mod.kin kp hall ?_ hpl
  refine thn (hkw.run pos pins s σ H _ I h) fun ws s2 ⟨zs, H2, I2, rz, u, v, ez, q2⟩ => ⟨I2.kIn, ?_⟩
  subst ez
  rw [hks]
  exact run_fnN (us := []) (vs := []) F hr K2 pass0 I2 .nil rz rfl hk2.symm q2
end
/-! ### built-ins that the text leaves as they are -/
structure Bn (mg : Str → Option Value) : Prop where
  len : mg "len" = none
  abs : mg "abs" = none
  int : mg "int" = none
  list : mg "list" = none
  tuple : mg "tuple" = none
  range : mg "range" = none
  min : mg "min" = none
  max : mg "max" = none
  enumerate : mg "enumerate" = none
  zip : mg "zip" = none
  isinstance : mg "isinstance" = none
  all : mg "all" = none
  bool : mg "bool" = none
  str : mg "str" = none
  iter : mg "iter" = none
  sorted : mg "sorted" = none
section
variable {X : Cx} {pos : Pos}
theorem pe_ty {T : Str} {n : String} (hm : X.mg T = none) (hv : bootBuiltins T = some (.type n) := by decide +kernel) (hg : Gl X T := by rfl) (hn : T ≠ Str.ofString "__name__" := by decide) (hd : (T == ("__debug__" : Str)) = false := by decide) : PE X (.Name T pos) (tC (.ty n)) := pe_bltn (hn := hn) (hd := hd) hg hm hv rfl
end
/-! ### texts as values -/
theorem flat_strs (ws : List Str) : (ws.map V.str).all flatV = true := by
  rw [List.all_map]
  exact List.all_eq_true.mpr fun _ _ => rfl
theorem map_get {ws : List Str} {i : Nat} {x : V} (h : (ws.map V.str)[i]? = some x) : ∃ z, ws[i]? = some z ∧ x = .str z := by
  rw [List.getElem?_map] at h
  cases e : ws[i]? with
  | none =>
    rw [e] at h
    cases h
  | some z =>
    rw [e] at h
    exact ⟨z, rfl, (Option.some.inj h).symm⟩
theorem get_map {ws : List Str} {i : Nat} {z : Str} (h : ws[i]? = some z) : (ws.map V.str)[i]? = some (.str z) := by
  rw [List.getElem?_map, h]
  rfl
/-! ### parts -/
def isPart : List Str → List Str → Bool
  | [], _ => true
  | _ :: _, [] => false
  | w :: ws, e :: es => if e = w then isPart ws es else isPart (w :: ws) es
theorem isPart_nil : ∀ es : List Str, isPart [] es = true
  | [] => by simp [isPart]
  | _ :: _ => by simp [isPart]
theorem isPart_find {w : Str} {ws : List Str} : ∀ {es : List Str} {j : Nat}, es[j]? = some w → (∀ (m : Nat) (z : Str), m < j → es[m]? = some z → z ≠ w) → isPart (w :: ws) es = isPart ws (es.drop (j + 1))
  | [], _, h, _ => by simp at h
  | e :: es, 0, h, _ => by
    have : e = w := Option.some.inj h
    show (if e = w then isPart ws es else isPart (w :: ws) es) = _
    rw [if_pos this]
    rfl
  | e :: es, j + 1, h, hm => by
    have hne : e ≠ w := hm 0 e (Nat.succ_pos _) rfl
    show (if e = w then isPart ws es else isPart (w :: ws) es) = _
    rw [if_neg hne, isPart_find (es := es) (j := j) h fun m z h1 h2 => hm (m + 1) z (Nat.succ_lt_succ h1) h2]
    rfl
theorem isPart_miss {w : Str} {ws : List Str} : ∀ {es : List Str}, (∀ (m : Nat) (z : Str), es[m]? = some z → z ≠ w) → isPart (w :: ws) es = false
  | [], _ => rfl
  | e :: es, hm => by
    have hne : e ≠ w := hm 0 e rfl
    show (if e = w then isPart ws es else isPart (w :: ws) es) = _
    rw [if_neg hne]
    exact isPart_miss fun m z h => hm (m + 1) z h
theorem eqV_str {a b : Str} : eqV (.str a) (.str b) = (a == b) := rfl
/-- whether word is a part of log; nothing else changes -/
def spPart : Sp := fun vs H Q _ => ∃ (b1 b2 : Bool) (a c : Addr) (ws es : List Str), vs = [.ref a, .ref c] ∧ Sq b1 H a (ws.map V.str) ∧ Sq b2 H c (es.map V.str) ∧ ∀ H', Same H H' → Q (.bl (isPart ws es)) H'
theorem drop_at {α : Type} {ws : List α} {i : Nat} {z : α} (hz : ws[i]? = some z) : ws.drop i = z :: ws.drop (i + 1) := by
  obtain ⟨h, e⟩ := List.getElem?_eq_some_iff.mp hz
  rw [List.drop_eq_getElem_cons h, e]
end LwB
namespace LwB
open PySem PySem.Spec PyProof.Rows L2 IqX RvT EnS
/-- the places of the longest beginning of word that is a part of log -/
def early : List Str → List Str → Nat → List Nat
  | [], _, _ => []
  | _ :: _, [], _ => []
  | w :: ws, e :: es, k => if e = w then k :: early ws es (k + 1) else early (w :: ws) es (k + 1)
theorem early_nil (es : List Str) (k : Nat) : early [] es k = [] := by
  cases es <;> simp [early]
theorem early_end (ws : List Str) (k : Nat) : early ws [] k = [] := by
  cases ws <;> simp [early]
theorem early_hit {w e : Str} {ws es : List Str} {k : Nat} (h : e = w) : early (w :: ws) (e :: es) k = k :: early ws es (k + 1) := by
  show (if e = w then _ else _) = _
  rw [if_pos h]
theorem early_miss {w e : Str} {ws es : List Str} {k : Nat} (h : e ≠ w) : early (w :: ws) (e :: es) k = early (w :: ws) es (k + 1) := by
  show (if e = w then _ else _) = _
  rw [if_neg h]
theorem early_len : ∀ (es ws : List Str) (k : Nat), (early ws es k).length ≤ ws.length
  | [], ws, k => by rw [early_end]; exact Nat.zero_le _
  | e :: es, [], k => by rw [early_nil]; exact Nat.zero_le _
  | e :: es, w :: ws, k => by
    by_cases h : e = w
    · rw [early_hit h]
      exact Nat.succ_le_succ (early_len es ws (k + 1))
    · rw [early_miss h]
      exact early_len es (w :: ws) (k + 1)
/-- at p a new thing, and all else as it was -/
def NewAt (H H' : Hp) (p : Addr) (o : HO) : Prop := Same H H' ∧ H p = none ∧ H' p = some o
def nats (ns : List Nat) : List V := ns.map fun n => V.int (n : Nat)
def spEarly : Sp := fun vs H Q _ => ∃ (b1 b2 : Bool) (a c : Addr) (ws es : List Str), vs = [.ref a, .ref c] ∧ Sq b1 H a (ws.map V.str) ∧ Sq b2 H c (es.map V.str) ∧ ws.length ≤ 1000 ∧
  ∀ H' p, NewAt H H' p (.lst (nats (early ws es 0))) → Q (.ref p) H'
/-! ### rules over Sq -/
section
variable {X : Cx}
/-- xs[i] -/
def rIxQ : R2 := fun x y H Q => ∃ (b : Bool) (a : Addr) (xs : List V) (i : Int) (v : V), x = .ref a ∧ y = .int i ∧ Sq b H a xs ∧ atI xs i = some v ∧ Q v H
theorem ix_sq : IxR X rIxQ := by
  intro value slice pins s σ H x y v u Q I rx ry h e
  obtain ⟨b, a, xs, i, z, rfl, rfl, hq, ha, q⟩ := h
  refine ix_seq value slice pins s σ H _ _ v u Q I rx ry ?_ e
  cases b with
  | true => exact .inl ⟨a, xs, i, z, rfl, rfl, hq.L, ha, q⟩
  | false => exact .inr (.inl ⟨a, xs, i, z, rfl, rfl, hq.T, ha, q⟩)
/-- len(xs) -/
def rLenQ : List V → Hp → VK → Prop := fun vs H Q => ∃ (b : Bool) (a : Addr) (xs : List V), vs = [.ref a] ∧ Sq b H a xs ∧ Q (.int (xs.length : Nat)) H
theorem call_lenQ : CallR X (.builtin "len") rLenQ := by
  intro pins s σ H xs us Q I r h
  obtain ⟨b, a, zs, rfl, hq, q⟩ := h
  exact call_len_seq pins s σ H _ us Q I r ⟨a, zs, rfl, hq.LT, q⟩
theorem pe_len {e : Expr} {te : TA} {p pos : Pos} (hm : X.mg "len" = none) (he : PA X [e] te) (hg : Gl X "len" := by rfl) (hs : starEach [e] X.env = (false, eval e X.env) :: starEach [] X.env := by rfl) : PE X (.Call (.Name "len" p) [e] [] pos) (tCB rLenQ te) := pe_callB (he := hs) call_lenQ hg hm PySem.boot_len he
/-- xs[lo:hi]: what comes is a list or tuple of the cut -/
def rSlQ : V → Option Int → Option Int → Hp → VK → Prop := fun x lo hi H Q => ∃ (b : Bool) (a : Addr) (xs : List V), x = .ref a ∧ Sq b H a xs ∧ ∀ H' p, Same H H' → (b = true → H p = none ∧ H' p = some (.lst (cutV xs lo hi))) → Sq b H' p (cutV xs lo hi) → Q (.ref p) H'
theorem cutV_whole {xs : List V} {lo hi : Option Int} (h : HT.sIx xs.length 0 lo = 0 ∧ HT.sIx xs.length xs.length hi = xs.length) : cutV xs lo hi = xs := by
  unfold cutV
  rw [h.1, h.2]
  simp
theorem sl_sq : SlR X rSlQ := by
  intro pins s σ H x v vl vu lo hi sl Q I rx hs pl pu h
  obtain ⟨b, a, xs, rfl, hq, q⟩ := h
  cases b with
  | true =>
    exact sl_list pins s σ H _ v vl vu lo hi sl Q I rx hs pl pu ⟨a, xs, rfl, hq.L, fun p np => q _ p (same_new np) (fun _ => ⟨np, upd_same⟩) (Sq.lst upd_same)⟩
  | false =>
    refine sl_tupA pins s σ H _ v vl vu lo hi sl Q I rx hs pl pu ⟨a, xs, rfl, hq.T, fun hw => ?_, fun _ p np => q _ p (same_new np) (fun e => nomatch e) (Sq.tup upd_same)⟩
    refine q H a (Same.refl H) (fun e => nomatch e) ?_
    rw [cutV_whole hw]
    exact hq
/-- tuple(xs) -/
def rTupQ : List V → Hp → VK → Prop := fun vs H Q => ∃ (b : Bool) (a : Addr) (xs : List V), vs = [.ref a] ∧ Sq b H a xs ∧ ∀ H' p, Same H H' → Sq false H' p xs → Q (.ref p) H'
theorem call_tupQ : CallR X (.type "tuple") rTupQ := by
  intro pins s σ H xs us Q I r h
  obtain ⟨b, a, zs, rfl, hq, q⟩ := h
  refine call_tuple_of pins s σ H _ us Q I r ?_
  cases b with
  | true => exact ⟨a, zs, rfl, .inl ⟨hq.L, fun p np => q _ p (same_new np) (Sq.tup upd_same)⟩⟩
  | false => exact ⟨a, zs, rfl, .inr ⟨hq.T, q _ _ (Same.refl H) hq⟩⟩
/-- list(xs) -/
def rListQ : List V → Hp → VK → Prop := fun vs H Q => ∃ (b : Bool) (a : Addr) (xs : List V), vs = [.ref a] ∧ Sq b H a xs ∧ ∀ H' p, NewAt H H' p (.lst xs) → Q (.ref p) H'
theorem call_listQ : CallR X (.type "list") rListQ := by
  intro pins s σ H xs us Q I r h
  obtain ⟨b, a, zs, rfl, hq, q⟩ := h
  refine call_list_of pins s σ H _ us Q I r ?_
  exact ⟨a, zs, rfl, hq.LT, fun p np => q _ p ⟨same_new np, np, upd_same⟩⟩
theorem pe_tupQ {e : Expr} {te : TA} {p pos : Pos} (hm : X.mg "tuple" = none) (he : PA X [e] te) (hg : Gl X "tuple" := by rfl) (hs : starEach [e] X.env = (false, eval e X.env) :: starEach [] X.env := by rfl) : PE X (.Call (.Name "tuple" p) [e] [] pos) (tCB rTupQ te) := pe_callTy (he := hs) call_tupQ hg hm (by decide +kernel) he
theorem pe_listQ {e : Expr} {te : TA} {p pos : Pos} (hm : X.mg "list" = none) (he : PA X [e] te) (hg : Gl X "list" := by rfl) (hs : starEach [e] X.env = (false, eval e X.env) :: starEach [] X.env := by rfl) : PE X (.Call (.Name "list" p) [e] [] pos) (tCB rListQ te) := pe_callTy (he := hs) call_listQ hg hm (by decide +kernel) he
end
theorem cut_from (xs : List V) (n : Nat) : cutV xs (some (n : Int)) none = xs.drop n := by
  unfold cutV
  rw [HT.sIx_nat, HT.sIx_none]
  by_cases h : n ≤ xs.length
  · rw [Nat.min_eq_left h, List.take_of_length_le (by rw [List.length_drop]; exact Nat.le_refl _)]
  · rw [Nat.min_eq_right (by omega), Nat.sub_self, List.take_zero, List.drop_eq_nil_of_le (by omega)]
theorem cut_to (xs : List V) (n : Nat) : cutV xs none (some (n : Int)) = xs.take n := by
  unfold cutV
  rw [HT.sIx_nat, HT.sIx_none, List.drop_zero, Nat.sub_zero]
  by_cases h : n ≤ xs.length
  · rw [Nat.min_eq_left h]
  · rw [Nat.min_eq_right (by omega), List.take_length, List.take_of_length_le (by omega)]
theorem cut_mid (xs : List V) (m n : Nat) : cutV xs (some (m : Int)) (some (n : Int)) = (xs.drop m).take (n - m) := by
  unfold cutV
  rw [HT.sIx_nat, HT.sIx_nat]
  by_cases h : m ≤ xs.length
  · rw [Nat.min_eq_left h]
    by_cases h2 : n ≤ xs.length
    · rw [Nat.min_eq_left h2]
    · rw [Nat.min_eq_right (by omega), List.take_of_length_le (by rw [List.length_drop]; omega), List.take_of_length_le (by rw [List.length_drop]; omega)]
  · rw [Nat.min_eq_right (by omega : xs.length ≤ m), List.drop_length, List.drop_eq_nil_of_le (by omega), List.take_nil, List.take_nil]
/-- what is left of word -/
def restOf (ws es : List Str) : List Str := ws.drop (early ws es 0).length
def spRest : Sp := fun vs H Q _ => ∃ (b1 b2 : Bool) (a c : Addr) (ws es : List Str), vs = [.ref a, .ref c] ∧ Sq b1 H a (ws.map V.str) ∧ Sq b2 H c (es.map V.str) ∧ ws.length ≤ 1000 ∧
  ∀ H' p, Same H H' → Sq false H' p ((restOf ws es).map V.str) → Q (.ref p) H'
def spFront : Sp := fun vs H Q _ => ∃ (b1 b2 : Bool) (a c : Addr) (ws es : List Str), vs = [.ref a, .ref c] ∧ Sq b1 H a (ws.map V.str) ∧ Sq b2 H c (es.map V.str) ∧ ws.length ≤ 1000 ∧
  ∀ H' p, Same H H' → Sq false H' p ((restOf ws.reverse es.reverse).reverse.map V.str) → Q (.ref p) H'
end LwB
namespace LwB
open PySem PySem.Spec PyProof.Rows L2 IqX RvT EnS TL
/-! ### the law's own helpers: what they promise -/
def spBox : Sp := fun vs H Q _ => ∃ (a : Addr) (ns : List Int) (k : Nat), vs = [.ref a, .int k] ∧ Sq true H a (ns.map V.int) ∧ k < 1000 ∧
  ∀ H' p, Same H H' → H p = none → Bx 0 H' p → Q (.ref p) H'
def spTake : Sp := fun vs H Q _ => ∃ (b : Addr) (n : Nat) (m : Int), vs = [.ref b, .int m] ∧ Bx n H b ∧ n < 1000000000 ∧ 0 < m ∧ m < 1073741824 ∧
  ∀ H' r, Fr b H H' → Bx (n + 1) H' b → 0 ≤ r → r < m → Q (.int r) H'
def spCells (K : PySem.W.Frag) : Sp := fun vs H Q _ => ∃ (a : Addr) (ns : List Int) (t : Nat), vs = [.ref a, .int t] ∧ SqL K H a (ns.map V.int) ∧ 0 < t ∧ t ≤ 63 ∧ ns.length ≤ 63 ∧
  ∀ H' p (zs : List Int), NewAt H H' p (.lst (zs.map V.int)) → 0 < zs.length → zs.length ≤ t → Q (.ref p) H'
/-- the signs of a text, each a text -/
def signs (z : Str) : List V := z.cps.toList.map fun c => V.str ⟨#[c]⟩
/-- goods: a text or a list, of such items -/
def Goods (H : Hp) (b : Addr) (g : V) (xs : List V) : Prop := (∃ z : Str, g = .str z ∧ z.length ≤ 1000000 ∧ xs = signs z) ∨ (∃ (t : Bool) (l : Addr), g = .ref l ∧ l ≠ b ∧ Sq t H l xs ∧ xs.length ≤ 1000000)
theorem Goods.len {H : Hp} {b : Addr} {g : V} {xs : List V} (h : Goods H b g xs) : xs.length ≤ 1000000 := by
  rcases h with ⟨z, _, h, rfl⟩ | ⟨_, _, _, _, _, h⟩
  · unfold signs
    rw [List.length_map]
    exact h
  · exact h
theorem Goods.fr {H H' : Hp} {b : Addr} {g : V} {xs : List V} (f : Fr b H H') (h : Goods H b g xs) : Goods H' b g xs := by
  rcases h with h | ⟨t, l, e, n, hs, hl⟩
  · exact .inl h
  · exact .inr ⟨t, l, e, n, f.sq n hs, hl⟩
def spOf : Sp := fun vs H Q _ => ∃ (b : Addr) (n : Nat) (g : V) (xs : List V), vs = [.ref b, g] ∧ Bx n H b ∧ n < 1000000000 ∧ Goods H b g xs ∧ 0 < xs.length ∧
  ∀ H' x, Fr b H H' → Bx (n + 1) H' b → x ∈ xs → Q x H'
def spPick : Sp := fun vs H Q _ => ∃ (b : Addr) (n m : Nat) (g : V) (xs : List V), vs = [.ref b, g, .int m] ∧ Bx n H b ∧ n < 900000000 ∧ m ≤ 1000000 ∧ Goods H b g xs ∧
  ∀ H' p ys rest, Fr b H H' → Bx (n + m) H' b → H p = none → H' p = some (.lst ys) → (ys ++ rest).Perm xs → ys.length = min m xs.length → Q (.ref p) H'
theorem ixN_nat {n k : Nat} (h : k < n) : ixN n (k : Int) = some k := by
  unfold ixN
  rw [if_pos (by omega), if_pos (by omega)]
  simp
theorem _root_.L2.PE.imp {X : Cx} {e : Expr} {t t' : TE} (h : PE X e t) (i : ∀ σ H Q, t' σ H Q → t σ H Q) : PE X e t' := ⟨fun pins s σ H Q I q => h.run pins s σ H Q I (i σ H Q q)⟩
theorem _root_.L2.PS.imp {X : Cx} {st : Stmt} {t t' : TS} (h : PS X st t) (i : ∀ D σ H, t' D σ H → t D σ H) : PS X st t' := ⟨fun pins s σ H D I q => h.run pins s σ H D I (i D σ H q)⟩
theorem _root_.L2.PSs.imp {X : Cx} {st : List Stmt} {t t' : TS} (h : PSs X st t) (i : ∀ D σ H, t' D σ H → t D σ H) : PSs X st t' := ⟨fun pins s σ H D I q => h.run pins s σ H D I (i D σ H q)⟩
theorem seqIndex_nat {n k : Nat} (h : k < n) : seqIndex? (k : Int) n = some k := by
  unfold seqIndex?
  have h1 : ¬ ((k : Int) < 0) := by omega
  simp only [h1, if_false]
  have h2 : (0 : Int) ≤ (k : Int) := by omega
  have h3 : (k : Int) < (n : Int) := by omega
  simp [h2, h3]
theorem erase_perm {α : Type} : ∀ (l : List α) (i : Nat) (h : i < l.length), (l[i] :: l.eraseIdx i).Perm l
  | [], _, h => absurd h (Nat.not_lt_zero _)
  | x :: xs, 0, _ => List.Perm.refl _
  | x :: xs, i + 1, h => by
    have h' : i < xs.length := Nat.lt_of_succ_lt_succ h
    show (xs[i] :: x :: xs.eraseIdx i).Perm (x :: xs)
    exact (List.Perm.swap x xs[i] _).trans ((erase_perm xs i h').cons x)
theorem pick_perm {fs pool xs : List V} {k : Nat} (h : k < pool.length) (p : (fs ++ pool).Perm xs) : ((fs ++ [pool[k]]) ++ pool.eraseIdx k).Perm xs := by
  refine List.Perm.trans ?_ p
  rw [List.append_assoc]
  refine List.Perm.append_left fs ?_
  show (pool[k] :: pool.eraseIdx k).Perm pool
  exact erase_perm pool k h
/-- list(script[:top]) or [0] -/
def tCellsAt (K : PySem.W.Frag) : TE := fun σ H Q => ∃ (a : Addr) (ns : List Int) (t : Nat), σ[0]? = some (some (.ref a)) ∧ σ[1]? = some (some (.int t)) ∧ SqL K H a (ns.map V.int) ∧ 0 < t ∧
  ∀ H' p (zs : List Int), NewAt H H' p (.lst (zs.map V.int)) → 0 < zs.length → zs.length ≤ t → (t < ns.length → zs.length = t) → Q (.ref p) H'
/-! ### rules over goods -/
section
variable {X : Cx}
def rLenG : List V → Hp → VK → Prop := fun vs H Q => ∃ (b : Addr) (g : V) (xs : List V), vs = [g] ∧ Goods H b g xs ∧ Q (.int (xs.length : Nat)) H
theorem call_lenG : CallR X (.builtin "len") rLenG := by
  intro pins s σ H xs us Q I r h
  obtain ⟨b, g, zs, rfl, hg, q⟩ := h
  rcases hg with ⟨z, rfl, hz, rfl⟩ | ⟨t, l, rfl, _, hs, _⟩
  · refine call_len_str pins s σ H _ us Q I r ⟨z, rfl, Nat.le_trans hz (by decide), ?_⟩
    unfold signs at q
    rw [List.length_map] at q
    exact q
  · exact call_len_seq pins s σ H _ us Q I r ⟨l, zs, rfl, hs.LT, q⟩
theorem pe_lenG {e : Expr} {te : TA} {p pos : Pos} (hm : X.mg "len" = none) (he : PA X [e] te) (hg : Gl X "len" := by rfl) (hs : starEach [e] X.env = (false, eval e X.env) :: starEach [] X.env := by rfl) : PE X (.Call (.Name "len" p) [e] [] pos) (tCB rLenG te) := pe_callB (he := hs) call_lenG hg hm PySem.boot_len he
/-- list(goods) -/
def rListG : List V → Hp → VK → Prop := fun vs H Q => ∃ (b : Addr) (g : V) (xs : List V), vs = [g] ∧ Goods H b g xs ∧ ∀ H' p, NewAt H H' p (.lst xs) → Q (.ref p) H'
theorem call_listG (hc : X.calm = true) : CallR X (.type "list") rListG := by
  intro pins s σ H xs us Q I r h
  obtain ⟨b, g, zs, rfl, hg, q⟩ := h
  rcases hg with ⟨z, rfl, hz, rfl⟩ | ⟨t, l, rfl, _, hs, _⟩
  · exact LsX.call_list_signs hc pins s σ H _ us Q I r ⟨z, rfl, Nat.le_trans hz (by decide), fun p np => q _ p ⟨same_new np, np, upd_same⟩⟩
  · exact call_listQ pins s σ H _ us Q I r ⟨t, l, zs, rfl, hs, q⟩
theorem pe_listG {e : Expr} {te : TA} {p pos : Pos} (hc : X.calm = true) (hm : X.mg "list" = none) (he : PA X [e] te) (hg : Gl X "list" := by rfl) (hs : starEach [e] X.env = (false, eval e X.env) :: starEach [] X.env := by rfl) : PE X (.Call (.Name "list" p) [e] [] pos) (tCB rListG te) := pe_callTy (he := hs) (call_listG hc) hg hm (by decide +kernel) he
/-- abs(i), int(i), int(b) -/
theorem pe_abs {e : Expr} {te : TA} {p pos : Pos} (hm : X.mg "abs" = none) (he : PA X [e] te) (hg : Gl X "abs" := by rfl) (hs : starEach [e] X.env = (false, eval e X.env) :: starEach [] X.env := by rfl) : PE X (.Call (.Name "abs" p) [e] [] pos) (tCB (fun xs H Q => ∃ i, xs = [V.int i] ∧ Q (.int (if i < 0 then -i else i)) H) te) := pe_callB (he := hs) call_abs hg hm (by decide +kernel) he
theorem pe_int1 {e : Expr} {te : TA} {p pos : Pos} (hm : X.mg "int" = none) (he : PA X [e] te) (hg : Gl X "int" := by rfl) (hs : starEach [e] X.env = (false, eval e X.env) :: starEach [] X.env := by rfl) : PE X (.Call (.Name "int" p) [e] [] pos) (tCB (fun xs H Q => (∃ i, xs = [V.int i] ∧ Q (.int i) H) ∨ ∃ k, xs = [V.bl k] ∧ Q (.int (if k then 1 else 0)) H) te) := pe_callTy (he := hs) call_int1 hg hm (by decide +kernel) he
def rIxG : R2 := fun x y H Q => ∃ (b : Addr) (xs : List V) (i : Nat) (v : V), y = .int i ∧ Goods H b x xs ∧ xs[i]? = some v ∧ Q v H
theorem ix_goods : IxR X rIxG := by
  intro value slice pins s σ H x y v u Q I rx ry h e
  obtain ⟨b, xs, i, w', rfl, hg, hi, q⟩ := h
  refine ix_seq value slice pins s σ H _ _ v u Q I rx ry ?_ e
  rcases hg with ⟨z, rfl, hz, rfl⟩ | ⟨t, l, rfl, _, hs, _⟩
  · refine .inr (.inr ?_)
    unfold signs at hi
    rw [List.getElem?_map] at hi
    cases hc : z.cps.toList[i]? with
    | none =>
      rw [hc] at hi
      cases hi
    | some c =>
      rw [hc] at hi
      cases hi
      exact ⟨z, i, c, rfl, rfl, Nat.le_trans hz (by decide), atI_nat hc, q⟩
  · cases t with
    | true => exact .inl ⟨l, xs, i, w', rfl, rfl, hs.L, atI_nat hi, q⟩
    | false => exact .inr (.inl ⟨l, xs, i, w', rfl, rfl, hs.T, atI_nat hi, q⟩)
end
end LwB
namespace LwB
open PySem PySem.Spec PyProof.Rows L2 IqX RvT EnS TL
/-! ### trees of values -/
inductive Tr where
  | non | bl (b : Bool) | int (i : Int) | str (z : Str) | sq (t : Bool) (ts : List Tr)
/-- a list that may be changed, or a tuple -/
def Sx (t : Bool) (H : Hp) (a : Addr) (xs : List V) : Prop := Sq t H a xs ∧ (t = true → H a = some (.lst xs))
theorem Sx.lst {H : Hp} {a : Addr} {xs : List V} (h : H a = some (.lst xs)) : Sx true H a xs := ⟨.lst h, fun _ => h⟩
theorem Sx.tup {H : Hp} {a : Addr} {xs : List V} (h : Sq false H a xs) : Sx false H a xs := ⟨h, fun e => nomatch e⟩
theorem Sx.mv {t : Bool} {H H' : Hp} {a : Addr} {xs : List V} (e : ∀ o, H a = some o → H' a = some o) (h : Sx t H a xs) : Sx t H' a xs := ⟨h.1.mv e, fun q => e _ (h.2 q)⟩
def Is (H : Hp) (n : Nat) : Tr → V → Prop := match n with
  | 0 => fun t v => match t with
    | .non => v = V.non
    | .bl b => v = V.bl b
    | .int i => v = V.int i
    | .str z => v = V.str z
    | .sq _ _ => False
  | n + 1 => fun t v => match t with
    | .non => v = V.non
    | .bl b => v = V.bl b
    | .int i => v = V.int i
    | .str z => v = V.str z
    | .sq t ts => ∃ (a : Addr) (xs : List V), v = V.ref a ∧ Sx t H a xs ∧ xs.length ≤ 1000000 ∧ Paired (Is H n) ts xs
theorem Is.non {H : Hp} {n : Nat} : Is H n .non V.non := by cases n <;> rfl
theorem Is.bl {H : Hp} {n : Nat} {b : Bool} : Is H n (.bl b) (V.bl b) := by cases n <;> rfl
theorem Is.int {H : Hp} {n : Nat} {i : Int} : Is H n (.int i) (V.int i) := by cases n <;> rfl
theorem Is.str {H : Hp} {n : Nat} {z : Str} : Is H n (.str z) (V.str z) := by cases n <;> rfl
theorem Is.sq {H : Hp} {n : Nat} {t : Bool} {a : Addr} {ts : List Tr} {xs : List V} (h : Sx t H a xs) (hl : xs.length ≤ 1000000) (p : Paired (Is H n) ts xs) : Is H (n + 1) (.sq t ts) (V.ref a) := ⟨a, xs, rfl, h, hl, p⟩
theorem Is.non_eq {H : Hp} {n : Nat} {v : V} (h : Is H n .non v) : v = .non := by cases n <;> exact h
theorem Is.bl_eq {H : Hp} {n : Nat} {b : Bool} {v : V} (h : Is H n (.bl b) v) : v = .bl b := by cases n <;> exact h
theorem Is.int_eq {H : Hp} {n : Nat} {i : Int} {v : V} (h : Is H n (.int i) v) : v = .int i := by cases n <;> exact h
theorem Is.str_eq {H : Hp} {n : Nat} {z : Str} {v : V} (h : Is H n (.str z) v) : v = .str z := by cases n <;> exact h
theorem Is.sq_eq {H : Hp} {n : Nat} {t : Bool} {ts : List Tr} {v : V} (h : Is H n (.sq t ts) v) : ∃ m a xs, n = m + 1 ∧ v = .ref a ∧ Sx t H a xs ∧ xs.length ≤ 1000000 ∧ Paired (Is H m) ts xs := by
  cases n with
  | zero => exact absurd h id
  | succ m =>
    obtain ⟨a, xs, e, hs, hl, p⟩ := h
    exact ⟨m, a, xs, rfl, e, hs, hl, p⟩
theorem paired_imp {α β : Type} {F G : α → β → Prop} : ∀ {l₁ : List α} {l₂ : List β}, Paired F l₁ l₂ → (∀ a b, F a b → G a b) → Paired G l₁ l₂
  | _, _, .nil, _ => .nil
  | _, _, .cons r t, f => .cons (f _ _ r) (paired_imp t f)
theorem Is.mv {H H' : Hp} (e : ∀ a o, H a = some o → H' a = some o) : ∀ {n : Nat} {t : Tr} {v : V}, Is H n t v → Is H' n t v := by
  intro n
  induction n with
  | zero => intro t v h; cases t <;> exact h
  | succ n ih =>
    intro t v h
    cases t with
    | sq t ts =>
      obtain ⟨a, xs, e', hs, hl, p⟩ := h
      exact ⟨a, xs, e', hs.mv fun o q => e a o q, hl, paired_imp p fun a b q => ih q⟩
    | _ => exact h
theorem Is.same {H H' : Hp} {n : Nat} {t : Tr} {v : V} (s : Same H H') (h : Is H n t v) : Is H' n t v := h.mv s
theorem Is.up {H : Hp} : ∀ {n : Nat} {t : Tr} {v : V}, Is H n t v → Is H (n + 1) t v := by
  intro n
  induction n with
  | zero =>
    intro t v h
    cases t with
    | sq t ts => exact absurd h id
    | _ => exact h
  | succ n ih =>
    intro t v h
    cases t with
    | sq t ts =>
      obtain ⟨a, xs, e', hs, hl, p⟩ := h
      exact ⟨a, xs, e', hs, hl, paired_imp p fun a b q => ih q⟩
    | _ => exact h
theorem Is.mono {H : Hp} {n m : Nat} {t : Tr} {v : V} (h : n ≤ m) (x : Is H n t v) : Is H m t v := by
  induction h with
  | refl => exact x
  | step _ ih => exact ih.up
theorem paired_get {α β : Type} {F : α → β → Prop} : ∀ {l₁ : List α} {l₂ : List β} {i : Nat} {y : β}, Paired F l₁ l₂ → l₂[i]? = some y → ∃ x, l₁[i]? = some x ∧ F x y
  | _, _, _, _, .nil, h => by simp at h
  | _, _, 0, _, .cons r _, h => by
    simp at h
    subst h
    exact ⟨_, rfl, r⟩
  | _, _, i + 1, y, .cons _ t, h => by
    obtain ⟨x, e, r⟩ := paired_get (i := i) (y := y) t (by simpa using h)
    exact ⟨x, by simpa using e, r⟩
/-- both are the same: _law_same says so -/
def spSame : Nat → Sp
  | 0 => fun _ _ _ _ => False
  | n + 1 => fun vs H Q _ => ∃ (v1 v2 : V) (t : Tr), vs = [v1, v2] ∧ Is H n t v1 ∧ Is H n t v2 ∧ ∀ H', Same H H' → Q (.bl true) H'
theorem spSame_len : ∀ {n : Nat} {vs : List V} {H : Hp} {Q : VK} {E : XK}, spSame n vs H Q E → vs.length = 2
  | 0, _, _, _, _, h => h.elim
  | n + 1, _, _, _, _, ⟨_, _, _, e, _⟩ => by rw [e]; rfl
theorem kit2 {K : PySem.W.Frag} {t a b : String} {r1 r2 : Bool} (h1 : kitB t a = some r1) (h2 : kitB t b = some r2) : PySem.W.kitAny K (.type t) [.type a, .type b] = some (r1 || r2) := by
  cases r1 with
  | true => exact kitAny_cons (kit_ty h1) (fun e => nomatch e) (fun _ => rfl)
  | false =>
    refine kitAny_cons (kit_ty h1) (fun _ => ?_) (fun e => nomatch e)
    cases r2 with
    | true => exact kitAny_cons (kit_ty h2) (fun e => nomatch e) (fun _ => rfl)
    | false => exact kitAny_cons (kit_ty h2) (fun _ => kitAny_nil) (fun e => nomatch e)
theorem iteD {c A B : Prop} [Decidable c] (h : c) (a : A) : if decide c = true then A else B := by
  rw [if_pos (decide_eq_true h)]
  exact a
theorem iteDF {c A B : Prop} [Decidable c] (h : ¬ c) (b : B) : if decide c = true then A else B := by
  rw [if_neg (by simp [h])]
  exact b
theorem iteND {c A B : Prop} [Decidable c] (h : c) (b : B) : if (!decide c) = true then A else B := by
  rw [if_neg (by simp [h])]
  exact b
theorem Sq.ty {K : PySem.W.Frag} {t : Bool} {H : Hp} {a : Addr} {xs : List V} (h : Sq t H a xs) : TyX K H (.ref a) (.type (if t = true then "list" else "tuple")) := by
  cases t with
  | true =>
    rcases h with h | ⟨o, h⟩
    · exact .base (.lst h)
    · exact .base (.frz h)
  | false =>
    rcases h with h | ⟨o, h⟩
    · exact .base (.tup h)
    · exact .fTuple h
section
variable {X : Cx} {p pos : Pos} {e : Expr} {es : List Expr} {te : TA}
/-- isinstance(x, T) and isinstance(x, (T, U)): built-in types -/
def rIsQ (K : PySem.W.Frag) : List V → Hp → VK → Prop := fun vs H Q => ∃ (x : V) (T t : String) (b : Bool), vs = [x, .ty T] ∧ TyX K H x (.type t) ∧ kitB t T = some b ∧ Q (.bl b) H
theorem call_isQ : CallR X (.builtin "isinstance") (rIsQ X.K) := by
  intro pins s σ H xs us Q I r h
  obtain ⟨x, T, t, b, rfl, ty, hk, q⟩ := h
  exact call_isi pins s σ H _ us Q I r ⟨x, .ty T, .type t, .type T, b, rfl, .ty T, ty, kit_ty hk, q⟩
def rIsQ2 (K : PySem.W.Frag) : List V → Hp → VK → Prop := fun vs H Q => ∃ (x : V) (tp : Addr) (T U t : String) (b c : Bool), vs = [x, .ref tp] ∧ H tp = some (.tup [.ty T, .ty U]) ∧ TyX K H x (.type t) ∧ kitB t T = some b ∧ kitB t U = some c ∧ Q (.bl (b || c)) H
theorem call_isQ2 : CallR X (.builtin "isinstance") (rIsQ2 X.K) := by
  intro pins s σ H xs us Q I r h
  obtain ⟨x, tp, T, U, t, b, c, rfl, hT, ty, hb, hc, q⟩ := h
  exact call_isiT pins s σ H _ us Q I r ⟨x, tp, _, .type t, [.type T, .type U], _, rfl, hT, .cons (.ty T) (.cons (.ty U) .nil), ty, kit2 hb hc, q⟩
theorem pe_isQ (hm : X.mg "isinstance" = none) (he : PA X (e :: es) te) (hg : Gl X "isinstance" := by rfl) (hs : starEach (e :: es) X.env = (false, eval e X.env) :: starEach es X.env := by rfl) (hpl : (backTo pos (starEach es X.env)).any (·.1) = false := by rfl) :
    PE X (.Call (.Name "isinstance" p) (e :: es) [] pos) (tCB (rIsQ X.K) te) := pe_callB (he := hs) (hpl := hpl) call_isQ hg hm (by decide +kernel) he
theorem pe_isQ2 (hm : X.mg "isinstance" = none) (he : PA X (e :: es) te) (hg : Gl X "isinstance" := by rfl) (hs : starEach (e :: es) X.env = (false, eval e X.env) :: starEach es X.env := by rfl) (hpl : (backTo pos (starEach es X.env)).any (·.1) = false := by rfl) :
    PE X (.Call (.Name "isinstance" p) (e :: es) [] pos) (tCB (rIsQ2 X.K) te) := pe_callB (he := hs) (hpl := hpl) call_isQ2 hg hm (by decide +kernel) he
end
/-- a comprehension over zip of two lists (or tuples) of one length -/
theorem lc_zipB {K : PySem.W.Frag} {b : Bool} {a c : Addr} {xs ys : List V} {g : TG} {tt : TT} {te : TE} {vs : List Nat} {σ : L2.St} {H1 : Hp} {D : Addr} {Qd : Hp → Prop} (hlen : xs.length = ys.length) (Pv : Nat → Hp → Prop) (h0 : Pv 0 (upd H1 D (.lst []))) (hl : ∀ i H, i ≤ xs.length → Pv i H → SqB K b H a xs ∧ SqB K b H c ys)
    (hs : ∀ i x y T H, xs[i]? = some x → ys[i]? = some y → Pv i H → H T = none → g (.ref T) (wipe σ vs) (upd H T (.tup [x, y])) fun σ2 H2 => wipe σ2 vs = wipe σ vs ∧ tt σ2 H2 fun b H3 =>
      if b = true then te σ2 H3 fun y H4 => ∃ acc, H4 D = some (.lst acc) ∧ acc.length < sizeLine ∧ Pv (i + 1) (upd H4 D (.lst (acc ++ [y]))) else Pv (i + 1) H3) (hd : ∀ H, Pv xs.length H → Qd H) :
    ∃ W : Nat → Nat → Hp → Prop, (∃ m, W 0 m (upd H1 D (.lst []))) ∧ ∀ i m H, W i m H →
      ((if b = true then Itz K a c else RZ.ItzT K a c).stop i H ∧ Qd H) ∨ ((if b = true then Itz K a c else RZ.ItzT K a c).go i H ∧ ∃ Nx : Hp → Prop, (∀ H', Nx H' → ∃ m', m' < m ∧ W (i + 1) m' H') ∧ ∀ x H', (if b = true then Itz K a c else RZ.ItzT K a c).yld i H x H' → g x (wipe σ vs) H' fun σ2 H2 => wipe σ2 vs = wipe σ vs ∧ tt σ2 H2 fun b H3 =>
        if b = true then te σ2 H3 fun y H4 => ∃ acc, H4 D = some (.lst acc) ∧ acc.length < sizeLine ∧ Nx (upd H4 D (.lst (acc ++ [y]))) else Nx H3) := by
  refine ⟨fun i m H => m = xs.length - i ∧ i ≤ xs.length ∧ Pv i H, ⟨xs.length, by simp, Nat.zero_le _, h0⟩, ?_⟩
  rintro i m H ⟨rfl, hi, p⟩
  obtain ⟨q1, q2⟩ := hl i H hi p
  by_cases hlt : i < xs.length
  · have hlt2 : i < ys.length := by omega
    refine .inr ⟨?_, Pv (i + 1), fun H' p' => ⟨xs.length - (i + 1), by omega, rfl, hlt, p'⟩, fun x H' y => ?_⟩
    · cases b with
      | true => exact ⟨xs, ys, xs[i], ys[i], q1, q2, by simp [hlt], by simp [hlt2]⟩
      | false => exact ⟨xs, ys, xs[i], ys[i], q1, q2, by simp [hlt], by simp [hlt2]⟩
    · cases b with
      | true =>
        obtain ⟨T, z, z2, rfl, nT, rfl, y1, y2⟩ := y
        exact hs i z z2 T H (y1 xs q1) (y2 ys q2) p nT
      | false =>
        obtain ⟨T, z, z2, rfl, nT, rfl, y1, y2⟩ := y
        exact hs i z z2 T H (y1 xs q1) (y2 ys q2) p nT
  · have e : i = xs.length := by omega
    subst e
    refine .inl ⟨?_, hd H p⟩
    cases b with
    | true => exact ⟨xs, ys, q1, q2, .inl (Nat.le_refl _)⟩
    | false => exact ⟨xs, ys, q1, q2, .inl (Nat.le_refl _)⟩
def iZipQ (K : PySem.W.Frag) (ta : TA) : TI := fun σ H R => ta σ H fun vs H1 => ∃ (t : Bool) (a b : Addr) (xs ys : List V), vs = [.ref a, .ref b] ∧ SqB K t H1 a xs ∧ SqB K t H1 b ys ∧ R (if t = true then Itz K a b else RZ.ItzT K a b) H1
theorem _root_.L2.PI.imp {X : Cx} {tg it : Expr} {t t' : TI} (h : PI X tg it t) (i : ∀ σ H R, t' σ H R → t σ H R) : PI X tg it t' := ⟨fun pins s σ H R I q => h.run pins s σ H R I (i σ H R q)⟩
theorem pi_zipQ {X : Cx} {e e2 : Expr} {ta : TA} {p pos tpos : Pos} {elts : List Expr} {kk : Nat} (hm : X.mg "zip" = none) (ha : PA X [e, e2] ta) (hg : Gl X "zip" := by rfl)
    (hs : starEach [e, e2] X.env = (false, eval e X.env) :: starEach [e2] X.env := by rfl) (hpl : (backTo pos (starEach [e2] X.env)).any (·.1) = false := by rfl) :
    PI X (.Tuple elts kk tpos) (.Call (.Name "zip" p) [e, e2] [] pos) (iZipQ X.K ta) := by
  have h := RZ.pi_zipA (X := X) (p := p) (pos := pos) (tpos := tpos) (elts := elts) (kk := kk) (hs := hs) (hpl := hpl) hg hm (ta := fun σ H Q => ∃ R : List V → Hp → Prop, ta σ H R ∧ ∀ vs H', R vs H' → Q vs H') ⟨fun q pins s σ H Q I h => ?_⟩
  · refine PI.imp h fun σ H R q => ?_
    refine ⟨_, q, fun vs H1 ⟨t, a, b, xs, ys, e, h1, h2, r⟩ => ?_⟩
    cases t with
    | true => exact ⟨a, b, xs, ys, e, .inl ⟨h1, h2, r⟩⟩
    | false => exact ⟨a, b, xs, ys, e, .inr ⟨h1, h2, r⟩⟩
  · obtain ⟨R, h1, h2⟩ := h
    exact thn (ha.run q pins s σ H R I h1) fun us s1 ⟨vs, H1, I1, r, z⟩ => ⟨vs, H1, I1, r, h2 _ _ z⟩
/-! ### letters and names -/
def one (c : Nat) : Str := ⟨#[c]⟩
def gv (c : Nat) : V := V.str (one c)
def ungv : V → Nat
  | .str z => z.cps.toList.headD 0
  | _ => 0
theorem ungv_gv (c : Nat) : ungv (gv c) = c := rfl
def Letter (c : Nat) : Prop := 97 ≤ c ∧ c ≤ 122
def NameOk (z : Str) : Prop := 1 ≤ (tl z).length ∧ (tl z).length ≤ 8 ∧ ∀ c ∈ tl z, Letter c
theorem tl_one (c : Nat) : tl (one c) = [c] := rfl
theorem signs_eq (z : Str) : signs z = (tl z).map gv := rfl
theorem flat_one : ∀ cs : List Nat, ((cs.map one).map tl).flatten = cs
  | [] => rfl
  | c :: cs => by
    show [c] ++ ((cs.map one).map tl).flatten = c :: cs
    rw [flat_one cs]
    rfl
theorem joinL_nil : ∀ ls : List (List Nat), joinL [] ls = ls.flatten
  | [] => rfl
  | [p] => by simp [joinL]
  | p :: q :: r => by
    show p ++ ([] ++ joinL [] (q :: r)) = _
    rw [joinL_nil (q :: r)]
    rfl
theorem tl_joined {sep : Str} (h : tl sep = []) (cs : List Nat) : tl (Txt.join sep (cs.map one)) = cs := by
  rw [join_eq, tl_join, h, joinL_nil, flat_one]
theorem len_ones (cs : List Nat) : ((cs.map one).map (·.length)).sum = cs.length := by
  induction cs with
  | nil => rfl
  | cons c cs ih =>
    show (one c).length + ((cs.map one).map (·.length)).sum = cs.length + 1
    rw [ih]
    show 1 + cs.length = _
    omega
theorem vals_ones (cs : List Nat) : (cs.map one).map V.str = cs.map gv := by
  rw [List.map_map]
  rfl
theorem mem_gv {cs : List Nat} {x : V} (h : x ∈ cs.map gv) : ∃ c, c ∈ cs ∧ x = gv c := by
  obtain ⟨c, hc, e⟩ := List.mem_map.mp h
  exact ⟨c, hc, e.symm⟩
theorem picked {ys rest : List V} {ls : List Nat} (h : (ys ++ rest).Perm (ls.map gv)) : ∃ cs rs : List Nat, ys = cs.map gv ∧ (cs ++ rs).Perm ls := by
  have hm : ∀ l : List V, (∀ x ∈ l, x ∈ ls.map gv) → l = (l.map ungv).map gv := by
    intro l
    induction l with
    | nil => intro _; rfl
    | cons x l ih =>
      intro hx
      obtain ⟨c, _, e⟩ := mem_gv (hx x List.mem_cons_self)
      rw [List.map_cons, List.map_cons, ← ih fun y hy => hx y (List.mem_cons_of_mem _ hy), e, ungv_gv]
  refine ⟨ys.map ungv, rest.map ungv, hm ys fun x hx => h.subset (List.mem_append_left _ hx), ?_⟩
  have h2 := h.map ungv
  rw [List.map_append, List.map_map] at h2
  have e : ungv ∘ gv = id := by
    funext c
    rfl
  rw [e, List.map_id] at h2
  exact h2
/-- names: each one good, no two alike -/
def NamesOk (ss : List Str) : Prop := (∀ z ∈ ss, NameOk z) ∧ ss.Nodup
theorem nodup_key {α β : Type} {f : α → β} {l : List α} (h : (l.map f).Nodup) : l.Nodup := by
  induction l with
  | nil => exact List.nodup_nil
  | cons x l ih =>
    rw [List.map_cons, List.nodup_cons] at h
    rw [List.nodup_cons]
    exact ⟨fun hx => h.1 (List.mem_map_of_mem hx), ih h.2⟩
theorem nodup_some {l : List Nat} (h : l.Nodup) : (l.map some).Nodup := by
  induction l with
  | nil => exact List.nodup_nil
  | cons x l ih =>
    rw [List.nodup_cons] at h
    rw [List.map_cons, List.nodup_cons]
    refine ⟨fun hx => ?_, ih h.2⟩
    obtain ⟨y, hy, e⟩ := List.mem_map.mp hx
    cases e
    exact h.1 hy
def spNames : Sp := fun vs H Q _ => ∃ (b : Addr) (n m : Nat), vs = [.ref b, .int m] ∧ Bx n H b ∧ n < 800000000 ∧ m ≤ 26 ∧
  ∀ H' p ss, Fr b H H' → Bx (n + 400) H' b → H p = none → H' p = some (.lst (ss.map V.str)) → NamesOk ss → ss.length = m → Q (.ref p) H'
end LwB
namespace LwB
open PySem PySem.Spec PyProof.Rows L2 IqX RvT EnS TL
/-! ### parts, rests, fronts -/
theorem isPart_iff : ∀ (es ws : List Str), isPart ws es = true ↔ ws.Sublist es
  | [], [] => ⟨fun _ => List.Sublist.refl _, fun _ => isPart_nil _⟩
  | [], w :: ws => ⟨fun h => by simp [isPart] at h, fun h => by cases h⟩
  | e :: es, [] => ⟨fun _ => List.nil_sublist _, fun _ => isPart_nil _⟩
  | e :: es, w :: ws => by
    have h1 := isPart_iff es ws
    have h2 := isPart_iff es (w :: ws)
    show (if e = w then isPart ws es else isPart (w :: ws) es) = true ↔ _
    by_cases h : e = w
    · rw [if_pos h, h1, h]
      exact List.cons_sublist_cons.symm
    · rw [if_neg h, h2]
      refine ⟨fun s => s.cons e, fun s => ?_⟩
      cases s with
      | cons _ s => exact s
      | cons_cons _ s => exact absurd rfl h
theorem isPart_rev (ws es : List Str) : isPart ws.reverse es.reverse = isPart ws es := by
  have h1 := isPart_iff es.reverse ws.reverse
  have h2 := isPart_iff es ws
  rw [List.reverse_sublist] at h1
  cases ha : isPart ws.reverse es.reverse <;> cases hb : isPart ws es
  · rfl
  · rw [h1.mpr (h2.mp hb)] at ha
    exact ha.symm
  · rw [h2.mpr (h1.mp ha)] at hb
    exact hb
  · rfl
/-- how much of word's beginning is a part of log -/
def mt (ws es : List Str) : Nat := (early ws es 0).length
theorem early_len_k : ∀ (es ws : List Str) (k : Nat), (early ws es k).length = mt ws es
  | [], ws, k => by unfold mt; rw [early_end, early_end]
  | e :: es, [], k => by unfold mt; rw [early_nil, early_nil]
  | e :: es, w :: ws, k => by
    unfold mt
    by_cases h : e = w
    · rw [early_hit h, early_hit h, List.length_cons, List.length_cons, early_len_k es ws (k + 1), early_len_k es ws (0 + 1)]
    · rw [early_miss h, early_miss h, early_len_k es (w :: ws) (k + 1), early_len_k es (w :: ws) (0 + 1)]
theorem mt_end (ws : List Str) : mt ws [] = 0 := by unfold mt; rw [early_end]; rfl
theorem mt_nil (es : List Str) : mt [] es = 0 := by unfold mt; rw [early_nil]; rfl
theorem mt_hit {w e : Str} {ws es : List Str} (h : e = w) : mt (w :: ws) (e :: es) = mt ws es + 1 := by
  unfold mt
  rw [early_hit h, List.length_cons, early_len_k]
  rfl
theorem mt_miss {w e : Str} {ws es : List Str} (h : e ≠ w) : mt (w :: ws) (e :: es) = mt (w :: ws) es := by
  unfold mt
  rw [early_miss h, early_len_k]
  rfl
theorem mt_le (ws es : List Str) : mt ws es ≤ ws.length := early_len es ws 0
theorem isPart_mt : ∀ (es ws : List Str), isPart ws es = decide (mt ws es = ws.length)
  | [], [] => by rw [isPart_nil, mt_nil]; rfl
  | [], w :: ws => by
    rw [mt_end]
    simp [isPart]
  | e :: es, [] => by rw [isPart_nil, mt_nil]; rfl
  | e :: es, w :: ws => by
    show (if e = w then isPart ws es else isPart (w :: ws) es) = _
    by_cases h : e = w
    · rw [if_pos h, isPart_mt es ws, mt_hit h, List.length_cons]
      simp
    · rw [if_neg h, isPart_mt es (w :: ws), mt_miss h]
theorem isPart_take : ∀ (es ws : List Str) (k : Nat), k ≤ ws.length → isPart (ws.take k) es = decide (k ≤ mt ws es)
  | [], [], k, h => by
    have : k = 0 := by simpa using h
    subst this
    rw [List.take_zero, isPart_nil]
    simp
  | [], w :: ws, 0, _ => by
    rw [List.take_zero, isPart_nil]
    simp
  | [], w :: ws, k + 1, _ => by
    rw [mt_end, List.take_succ_cons]
    simp [isPart]
  | e :: es, [], k, h => by
    have : k = 0 := by simpa using h
    subst this
    rw [List.take_zero, isPart_nil]
    simp
  | e :: es, w :: ws, 0, _ => by
    rw [List.take_zero, isPart_nil]
    simp
  | e :: es, w :: ws, k + 1, hk => by
    rw [List.take_succ_cons]
    show (if e = w then isPart (ws.take k) es else isPart (w :: ws.take k) es) = _
    by_cases h : e = w
    · rw [if_pos h, isPart_take es ws k (by simpa using hk), mt_hit h]
      simp
    · have := isPart_take es (w :: ws) (k + 1) hk
      rw [List.take_succ_cons] at this
      rw [if_neg h, this, mt_miss h]
theorem isPart_append : ∀ (es ws more : List Str), isPart ws (es ++ more) = isPart (ws.drop (mt ws es)) more
  | [], ws, more => by rw [mt_end, List.drop_zero]; rfl
  | e :: es, [], more => by rw [isPart_nil, List.drop_nil, isPart_nil]
  | e :: es, w :: ws, more => by
    show (if e = w then isPart ws (es ++ more) else isPart (w :: ws) (es ++ more)) = _
    by_cases h : e = w
    · rw [if_pos h, isPart_append es ws more, mt_hit h, List.drop_succ_cons]
    · rw [if_neg h, isPart_append es (w :: ws) more, mt_miss h]
theorem restOf_eq (ws es : List Str) : restOf ws es = ws.drop (mt ws es) := rfl
/-- word without its longest end that is a part of log -/
def frontOf (ws es : List Str) : List Str := (restOf ws.reverse es.reverse).reverse
theorem isPart_rest (ws es more : List Str) : isPart (restOf ws es) more = isPart ws (es ++ more) := (isPart_append es ws more).symm
theorem isPart_front (ws es more : List Str) : isPart (frontOf ws es) more = isPart ws (more ++ es) := by
  unfold frontOf
  have h := isPart_rest ws.reverse es.reverse more.reverse
  rw [← List.reverse_append, isPart_rev] at h
  rw [← h, ← isPart_rev (restOf ws.reverse es.reverse).reverse, List.reverse_reverse]
theorem frontOf_take (ws es : List Str) : frontOf ws es = ws.take (ws.length - mt ws.reverse es.reverse) := by
  unfold frontOf
  rw [restOf_eq, List.drop_reverse, List.reverse_reverse]
theorem Sq.ne_box {n : Nat} {H : Hp} {p b : Addr} {xs : List V} (h : Sq false H p xs) (x : Bx n H b) : p ≠ b := by
  obtain ⟨x0, x1, x2, e, _⟩ := x
  rintro rfl
  rcases h with h | ⟨o, h⟩
  · rw [h] at e
    cases e
  · rw [h] at e
    cases e
section
variable {X : Cx}
/-- t + u, two tuples -/
def rCatQ : R2 := fun x y H Q => ∃ (a b : Addr) (xs ys : List V), x = .ref a ∧ y = .ref b ∧ Sq false H a xs ∧ Sq false H b ys ∧ xs.length + ys.length ≤ 1000000 ∧ ∀ H' p, Same H H' → Sq false H' p (xs ++ ys) → Q (.ref p) H'
theorem op_catQ : OpR X (binaryOp .Add) rCatQ := by
  intro pins s σ H x y v u Q I rx ry h
  obtain ⟨a, b, xs, ys, rfl, rfl, ha, hb, hl, q⟩ := h
  refine op_catA pins s σ H _ _ v u Q I rx ry ⟨a, b, xs, ys, rfl, rfl, ha.T, hb.T, Nat.le_trans hl (by decide), fun e => ?_, fun _ e => ?_, fun _ _ p np => ?_⟩
  · subst e
    exact q H b (Same.refl H) hb
  · subst e
    exact q H a (Same.refl H) (by rw [List.append_nil]; exact ha)
  · exact q _ p (same_new np) (Sq.tup upd_same)
end
/-- a row of texts as a tree -/
def trs (t : Bool) (es : List Str) : Tr := .sq t (es.map Tr.str)
theorem Is.strs {H : Hp} {t : Bool} {n : Nat} {a : Addr} {es : List Str} (h : Sx t H a (es.map V.str)) (hl : es.length ≤ 1000000) : Is H (n + 1) (trs t es) (.ref a) := by
  refine Is.sq h (by rw [List.length_map]; exact hl) ?_
  clear h hl
  induction es with
  | nil => exact .nil
  | cons e es ih => exact .cons Is.str ih
/-! ### promises of this law's own defs -/
def spLies : Sp := fun vs H Q _ => ∃ (b1 b2 : Bool) (a c : Addr) (ws es : List Str), vs = [.ref a, .ref c] ∧ Sq b1 H a (ws.map V.str) ∧ Sq b2 H c (es.map V.str) ∧ ws.length ≤ 1000 ∧ Q (.bl (isPart ws es)) H
def spRow : Sp := fun vs H Q _ => ∃ (b l : Addr) (n m : Nat) (ss : List Str), vs = [.ref b, .ref l, .int m] ∧ Bx n H b ∧ n < 800000000 ∧ l ≠ b ∧ Sq true H l (ss.map V.str) ∧ ss.length ≤ 1000000 ∧ 0 < ss.length ∧ m ≤ 1000 ∧
  ∀ H' p (es : List Str), Fr b H H' → Bx (n + 1 + m) H' b → Sq false H' p (es.map V.str) → p ≠ b → es.length ≤ m → (∀ e ∈ es, e ∈ ss) → Q (.ref p) H'
def spLeft : Sp := fun vs H Q _ => ∃ (a c : Addr) (ws es : List Str), vs = [.ref a, .ref c] ∧ Sq false H a (ws.map V.str) ∧ Sq false H c (es.map V.str) ∧ ws.length ≤ 1000 ∧
  ∀ H' p, Same H H' → Sq false H' p ((restOf ws es).map V.str) → Q (.ref p) H'
def spFrontL : Sp := fun vs H Q _ => ∃ (a c : Addr) (ws es : List Str), vs = [.ref a, .ref c] ∧ Sq false H a (ws.map V.str) ∧ Sq false H c (es.map V.str) ∧ ws.length ≤ 1000 ∧
  ∀ H' p, Same H H' → Sq false H' p ((frontOf ws es).map V.str) → Q (.ref p) H'
def spTrue3 : Sp := fun vs H Q _ => ∃ (a c d : Addr) (ws es ms : List Str), vs = [.ref a, .ref c, .ref d] ∧ Sq false H a (ws.map V.str) ∧ Sq false H c (es.map V.str) ∧ Sq false H d (ms.map V.str) ∧ ws.length ≤ 100 ∧ es.length ≤ 100 ∧ ms.length ≤ 100 ∧
  ∀ H', Same H H' → Q (.bl true) H'
def spTrue0 : Sp := fun vs H Q _ => vs = [] ∧ ∀ H', Same H H' → Q (.bl true) H'
def spRight (n : Nat) : Sp := fun vs H Q _ => ∃ (b : Addr), vs = [.ref b] ∧ Bx 0 H b ∧ ∀ H', Fr b H H' → Q (.bl true) H'
/-! ### written values -/
section
variable {X : Cx}
/-- what a written value is: new things that nothing else looks at -/
def tLit (n : Nat) (T : Tr) : TE := fun _ H Q => ∀ H' v, Same H H' → Is H' n T v → Q v H'
def tLits (n : Nat) (Ts : List Tr) : TA := fun _ H Q => ∀ H' vs, Same H H' → Paired (Is H' n) Ts vs → Q vs H'
theorem _root_.L2.PA.imp {es : List Expr} {t t' : TA} (h : PA X es t) (i : ∀ σ H Q, t' σ H Q → t σ H Q) : PA X es t' := ⟨fun q pins s σ H Q I z => h.run q pins s σ H Q I (i σ H Q z)⟩
theorem pl_str {n : Nat} {x : Str} {j pos} : PE X (.Constant (.str x) j pos) (tLit n (.str x)) := PE.imp pe_str fun σ H Q q => q H _ (Same.refl H) .str
theorem pl_int {n : Nat} {i : Int} {j pos} : PE X (.Constant (.int i) j pos) (tLit n (.int i)) := PE.imp pe_int fun σ H Q q => q H _ (Same.refl H) .int
theorem pl_bl {n : Nat} {b : Bool} {j pos} : PE X (.Constant (.bool b) j pos) (tLit n (.bl b)) := PE.imp pe_bl fun σ H Q q => q H _ (Same.refl H) .bl
theorem pl_non {n : Nat} {j pos} : PE X (.Constant .none j pos) (tLit n .non) := PE.imp pe_non fun σ H Q q => q H _ (Same.refl H) .non
theorem pl_nil {n : Nat} : PA X [] (tLits n []) := PA.imp pa_nil fun σ H Q q => q H _ (Same.refl H) .nil
theorem pl_cons {n : Nat} {e : Expr} {es : List Expr} {T : Tr} {Ts : List Tr} (he : PE X e (tLit n T)) (hr : PA X es (tLits n Ts)) (hs : starEach (e :: es) X.env = (false, eval e X.env) :: starEach es X.env := by rfl) : PA X (e :: es) (tLits n (T :: Ts)) :=
  PA.imp (pa_cons (hs := hs) he hr) fun σ H Q q H1 v s1 i1 H2 vs s2 i2 => q H2 _ (s1.trans s2) (.cons (i1.same s2) i2)
theorem pl_tup {n : Nat} {es : List Expr} {Ts : List Tr} {x1 pos} (h : PA X es (tLits n Ts)) (hl : Ts.length ≤ 1000000 := by decide) : PE X (.Tuple es x1 pos) (tLit (n + 1) (.sq false Ts)) :=
  PE.imp (pe_tup h) fun σ H Q q H1 vs s1 i1 => by
    have hlen : vs.length ≤ 1000000 := by rw [← Paired.length i1]; exact hl
    exact ⟨Nat.le_trans hlen (by decide), fun p np => q _ _ (s1.trans (same_new np)) (Is.sq (.tup (.tup upd_same)) hlen (paired_imp i1 fun a b z => z.same (same_new np)))⟩
theorem pl_lst {n : Nat} {es : List Expr} {Ts : List Tr} {pos} (h : PA X es (tLits n Ts)) (hl : Ts.length ≤ 1000000 := by decide) : PE X (.List es pos) (tLit (n + 1) (.sq true Ts)) :=
  PE.imp (pe_lst h) fun σ H Q q H1 vs s1 i1 => by
    have hlen : vs.length ≤ 1000000 := by rw [← Paired.length i1]; exact hl
    exact ⟨Nat.le_trans hlen (by decide), fun p np => q _ _ (s1.trans (same_new np)) (Is.sq (.lst upd_same) hlen (paired_imp i1 fun a b z => z.same (same_new np)))⟩
/-- what a written value is, where it stands: in the place of a test of many steps -/
theorem Is.list {H : Hp} {n : Nat} {Ts : List Tr} {v : V} (h : Is H (n + 1) (.sq true Ts) v) : ∃ a xs, v = .ref a ∧ H a = some (.lst xs) ∧ xs.length ≤ 1000000 ∧ Paired (Is H n) Ts xs := by
  obtain ⟨m, a, xs, e, rfl, hs, hl, p⟩ := h.sq_eq
  cases e
  exact ⟨a, xs, rfl, hs.2 rfl, hl, p⟩
theorem Is.tuple {H : Hp} {n : Nat} {Ts : List Tr} {v : V} (h : Is H (n + 1) (.sq false Ts) v) : ∃ a xs, v = .ref a ∧ Sq false H a xs ∧ xs.length ≤ 1000000 ∧ Paired (Is H n) Ts xs := by
  obtain ⟨m, a, xs, e, rfl, hs, hl, p⟩ := h.sq_eq
  cases e
  exact ⟨a, xs, rfl, hs.1, hl, p⟩
theorem paired_str {H : Hp} {n : Nat} : ∀ {es : List Str} {xs : List V}, Paired (Is H n) (es.map Tr.str) xs → xs = es.map V.str
  | [], _, .nil => rfl
  | e :: es, _, .cons r t => by rw [r.str_eq, paired_str t]; rfl
theorem Is.row {H : Hp} {n : Nat} {es : List Str} {v : V} (h : Is H (n + 1) (trs false es) v) : ∃ a, v = .ref a ∧ Sq false H a (es.map V.str) := by
  obtain ⟨a, xs, e, hs, hl, p⟩ := Is.tuple (show Is H (n + 1) (.sq false (es.map Tr.str)) v from h)
  rw [paired_str p] at hs
  exact ⟨a, e, hs⟩
theorem paired_append {α β : Type} {F : α → β → Prop} : ∀ {a : List α} {b : List β} {c : List α} {d : List β}, Paired F a b → Paired F c d → Paired F (a ++ c) (b ++ d)
  | _, _, _, _, .nil, q => q
  | _, _, _, _, .cons r t, q => .cons r (paired_append t q)
/-- two lists, one behind the other -/
def rCatX : R2 := fun x y H Q => ∃ (n : Nat) (Ts Us : List Tr), Is H (n + 1) (.sq true Ts) x ∧ Is H (n + 1) (.sq true Us) y ∧ Ts.length + Us.length ≤ 1000000 ∧ ∀ H' v, Same H H' → Is H' (n + 1) (.sq true (Ts ++ Us)) v → Q v H'
theorem op_catX : OpR X (binaryOp .Add) rCatX := by
  intro pins s σ H x y v u Q I rx ry h
  obtain ⟨n, Ts, Us, hx, hy, hl, q⟩ := h
  obtain ⟨a, xs, rfl, ea, la, pa⟩ := hx.list
  obtain ⟨b, ys, rfl, eb, lb, pb⟩ := hy.list
  have h1 := Paired.length pa
  have h2 := Paired.length pb
  refine op_cat pins s σ H _ _ v u Q I rx ry ⟨a, b, xs, ys, rfl, rfl, ea, eb, Nat.le_trans (by omega : xs.length + ys.length ≤ 1000000) (by decide), fun p np => ?_⟩
  refine q _ _ (same_new np) (Is.sq (.lst upd_same) (by rw [List.length_append]; omega) ?_)
  exact paired_append (paired_imp pa fun a b z => z.same (same_new np)) (paired_imp pb fun a b z => z.same (same_new np))
end
/-! ### rows of texts in a list -/
def RowAt (H : Hp) (w : List Str) (v : V) : Prop := ∃ p, v = .ref p ∧ Sq false H p (w.map V.str) ∧ w.length ≤ 1000000
theorem RowAt.same {H H' : Hp} {w : List Str} {v : V} (s : Same H H') (h : RowAt H w v) : RowAt H' w v := by
  obtain ⟨p, e, hp, l⟩ := h
  exact ⟨p, e, s.sq hp, l⟩
theorem Sq.put_list {H : Hp} {p D : Addr} {xs ys : List V} {o : HO} (h : Sq false H p xs) (e : H D = some (.lst ys)) : Sq false (L2.upd H D o) p xs := by
  refine h.mv fun u hu => ?_
  rw [upd_ne]
  · exact hu
  · rintro rfl
    rcases h with h | ⟨o', h⟩
    · rw [h] at e
      cases e
    · rw [h] at e
      cases e
theorem RowAt.put {H : Hp} {D : Addr} {w : List Str} {v : V} {ys : List V} {o : HO} (h : RowAt H w v) (e : H D = some (.lst ys)) : RowAt (L2.upd H D o) w v := by
  obtain ⟨p, e', hp, l⟩ := h
  exact ⟨p, e', Sq.put_list hp e, l⟩
theorem RowAt.is {H : Hp} {n : Nat} {w : List Str} {v : V} (h : RowAt H w v) : Is H (n + 1) (trs false w) v := by
  obtain ⟨p, rfl, hp, l⟩ := h
  exact .strs (.tup hp) l
/-- rows as a tree -/
def trows (t : Bool) (Ws : List (List Str)) : Tr := .sq t (Ws.map (trs false))
theorem paired_map {α β γ : Type} {F : β → γ → Prop} {f : α → β} : ∀ {l : List α} {m : List γ}, Paired (fun a c => F (f a) c) l m → Paired F (l.map f) m
  | _, _, .nil => .nil
  | _, _, .cons r t => .cons r (paired_map t)
theorem paired_unmap {α β γ : Type} {F : β → γ → Prop} {f : α → β} : ∀ {l : List α} {m : List γ}, Paired F (l.map f) m → Paired (fun a c => F (f a) c) l m
  | [], _, .nil => .nil
  | _ :: _, _, .cons r t => .cons r (paired_unmap t)
theorem rows_is {H : Hp} {n : Nat} {D : Addr} {Ws : List (List Str)} {ys : List V} (e : H D = some (.lst ys)) (hl : ys.length ≤ 1000000) (p : Paired (RowAt H) Ws ys) : Is H (n + 2) (trows true Ws) (.ref D) :=
  Is.sq (.lst e) hl (paired_map (paired_imp p fun _ _ z => z.is))
theorem Is.row_at {H : Hp} {n : Nat} {es : List Str} {v : V} (h : Is H (n + 1) (trs false es) v) : RowAt H es v := by
  obtain ⟨a, xs, e, hs, hl, p⟩ := Is.tuple (show Is H (n + 1) (.sq false (es.map Tr.str)) v from h)
  have q := paired_str p
  rw [q] at hs
  refine ⟨a, e, hs, ?_⟩
  rw [q, List.length_map] at hl
  exact hl
theorem rows_of {H : Hp} {n : Nat} {t : Bool} {Ws : List (List Str)} {v : V} (h : Is H (n + 2) (trows t Ws) v) : ∃ a xs, v = .ref a ∧ Sq t H a xs ∧ xs.length ≤ 1000000 ∧ Paired (RowAt H) Ws xs := by
  obtain ⟨m, a, xs, e, rfl, hs, hl, p⟩ := Is.sq_eq (show Is H (n + 2) (.sq t (Ws.map (trs false))) v from h)
  cases e
  exact ⟨a, xs, rfl, hs.1, hl, paired_imp (paired_unmap p) fun _ _ z => z.row_at⟩
theorem paired_snoc {α β : Type} {F : α → β → Prop} {l : List α} {m : List β} {a : α} {b : β} (p : Paired F l m) (h : F a b) : Paired F (l ++ [a]) (m ++ [b]) := paired_append p (.cons h .nil)
end LwB
namespace K10
open PySem PySem.Spec PyProof.Rows L2 IqX RvT LwB EnS
def topS (i : Nat) : Stmt := PySem.Challenge.pw_moredone_k10_rests_and_fronts.main.body.getD i (.Pass ⟨0, 0, 0, 0⟩)
abbrev s_is_part : Stmt := topS 1
theorem sc_is_part : FnScope ["word", "log", "events", "event", "is_there"] ["word", "log"] (defScope s_is_part) := ⟨rfl, rfl, rfl, by decide +kernel, rfl, by decide +kernel, by decide +kernel⟩
-- slots: 0:word 1:log 2:events 3:event 4:is_there
abbrev s__early_places : Stmt := topS 2
theorem sc__early_places : FnScope ["word", "log", "found", "at", "event"] ["word", "log"] (defScope s__early_places) := ⟨rfl, rfl, rfl, by decide +kernel, rfl, by decide +kernel, by decide +kernel⟩
-- slots: 0:word 1:log 2:found 3:at 4:event
abbrev s_rest : Stmt := topS 3
theorem sc_rest : FnScope ["word", "log"] ["word", "log"] (defScope s_rest) := ⟨rfl, rfl, rfl, by decide +kernel, rfl, by decide +kernel, by decide +kernel⟩
-- slots: 0:word 1:log
abbrev s_front : Stmt := topS 4
theorem sc_front : FnScope ["word", "log"] ["word", "log"] (defScope s_front) := ⟨rfl, rfl, rfl, by decide +kernel, rfl, by decide +kernel, by decide +kernel⟩
-- slots: 0:word 1:log
abbrev s__law_box : Stmt := topS 6
theorem sc__law_box : FnScope ["_law_script", "_law_k", "_law_cell"] ["_law_script", "_law_k"] (defScope s__law_box) := ⟨rfl, rfl, rfl, by decide +kernel, rfl, by decide +kernel, by decide +kernel⟩
-- slots: 0:_law_script 1:_law_k 2:_law_cell
abbrev s__law_take : Stmt := topS 7
theorem sc__law_take : FnScope ["_law_box_here", "_law_size_so", "_law_some", "_law_once", "_law_far", "_law_again"] ["_law_box_here", "_law_size_so"] (defScope s__law_take) := ⟨rfl, rfl, rfl, by decide +kernel, rfl, by decide +kernel, by decide +kernel⟩
-- slots: 0:_law_box_here 1:_law_size_so 2:_law_some 3:_law_once 4:_law_far 5:_law_again
abbrev s__law_cells : Stmt := topS 8
theorem sc__law_cells : FnScope ["_law_script", "_law_top_so", "_law_cells_so", "_law_k", "_law_cell", "_law_at_so"] ["_law_script", "_law_top_so"] (defScope s__law_cells) := ⟨rfl, rfl, rfl, by decide +kernel, rfl, by decide +kernel, by decide +kernel⟩
-- slots: 0:_law_script 1:_law_top_so 2:_law_cells_so 3:_law_k 4:_law_cell 5:_law_at_so
abbrev s__law_of : Stmt := topS 9
theorem sc__law_of : FnScope ["_law_box_here", "_law_goods_so"] ["_law_box_here", "_law_goods_so"] (defScope s__law_of) := ⟨rfl, rfl, rfl, by decide +kernel, rfl, by decide +kernel, by decide +kernel⟩
-- slots: 0:_law_box_here 1:_law_goods_so
abbrev s__law_pick : Stmt := topS 10
theorem sc__law_pick : FnScope ["_law_box_here", "_law_goods_so", "_law_count_so", "_law_pool_so", "_law_found", "_law_turn"] ["_law_box_here", "_law_goods_so", "_law_count_so"] (defScope s__law_pick) := ⟨rfl, rfl, rfl, by decide +kernel, rfl, by decide +kernel, by decide +kernel⟩
-- slots: 0:_law_box_here 1:_law_goods_so 2:_law_count_so 3:_law_pool_so 4:_law_found 5:_law_turn
abbrev s__law_same : Stmt := topS 11
theorem sc__law_same : FnScope ["_law_got", "_law_due", "_law_mine", "_law_its"] ["_law_got", "_law_due"] (defScope s__law_same) := ⟨rfl, rfl, rfl, by decide +kernel, rfl, by decide +kernel, by decide +kernel⟩
-- slots: 0:_law_got 1:_law_due 2:_law_mine 3:_law_its
abbrev s__law_names : Stmt := topS 12
theorem sc__law_names : FnScope ["_law_box_here", "_law_much_so", "_law_letters_so", "_law_long", "_law_some", "_law_sort_so", "_law_spot_so", "_law_found", "_law_sign", "_law_turn"] ["_law_box_here", "_law_much_so"] (defScope s__law_names) := ⟨rfl, rfl, rfl, by decide +kernel, rfl, by decide +kernel, by decide +kernel⟩
-- slots: 0:_law_box_here 1:_law_much_so 2:_law_letters_so 3:_law_long 4:_law_some 5:_law_sort_so 6:_law_spot_so 7:_law_found 8:_law_sign 9:_law_turn
abbrev s__law_lies : Stmt := topS 13
theorem sc__law_lies : FnScope ["_law_verse", "_law_row", "_law_at_so", "_law_own"] ["_law_verse", "_law_row"] (defScope s__law_lies) := ⟨rfl, rfl, rfl, by decide +kernel, rfl, by decide +kernel, by decide +kernel⟩
-- slots: 0:_law_verse 1:_law_row 2:_law_at_so 3:_law_own
abbrev s__law_event_row : Stmt := topS 14
theorem sc__law_event_row : FnScope ["_law_box_here", "_law_tags", "_law_most", "_law_turn"] ["_law_box_here", "_law_tags", "_law_most"] (defScope s__law_event_row) := ⟨rfl, rfl, rfl, by decide +kernel, rfl, by decide +kernel, by decide +kernel⟩
-- slots: 0:_law_box_here 1:_law_tags 2:_law_most 3:_law_turn
abbrev s__law_left : Stmt := topS 15
theorem sc__law_left : FnScope ["_law_verse", "_law_row", "_law_sizes", "_law_k"] ["_law_verse", "_law_row"] (defScope s__law_left) := ⟨rfl, rfl, rfl, by decide +kernel, rfl, by decide +kernel, by decide +kernel⟩
-- slots: 0:_law_verse 1:_law_row 2:_law_sizes 3:_law_k
abbrev s__law_front_left : Stmt := topS 16
theorem sc__law_front_left : FnScope ["_law_verse", "_law_row", "_law_sizes", "_law_k"] ["_law_verse", "_law_row"] (defScope s__law_front_left) := ⟨rfl, rfl, rfl, by decide +kernel, rfl, by decide +kernel, by decide +kernel⟩
-- slots: 0:_law_verse 1:_law_row 2:_law_sizes 3:_law_k
abbrev s__law_word_right : Stmt := topS 17
theorem sc__law_word_right : FnScope ["_law_verse", "_law_row", "_law_more", "_law_ahead", "_law_behind_so", "_law_flat", "_law_soft", "_law_got"] ["_law_verse", "_law_row", "_law_more"] (defScope s__law_word_right) := ⟨rfl, rfl, rfl, by decide +kernel, rfl, by decide +kernel, by decide +kernel⟩
-- slots: 0:_law_verse 1:_law_row 2:_law_more 3:_law_ahead 4:_law_behind_so 5:_law_flat 6:_law_soft 7:_law_got
abbrev s__law_by_hand_right : Stmt := topS 18
theorem sc__law_by_hand_right : FnScope ["_law_row", "_law_got", "_law_due", "_law_some", "_law_own"] [] (defScope s__law_by_hand_right) := ⟨rfl, rfl, rfl, by decide +kernel, rfl, by decide +kernel, by decide +kernel⟩
-- slots: 0:_law_row 1:_law_got 2:_law_due 3:_law_some 4:_law_own
abbrev s__law_right : Stmt := topS 19
theorem sc__law_right : FnScope ["_law_box_here", "_law_turn", "_law_tags", "_law_verse", "_law_row"] ["_law_box_here"] (defScope s__law_right) := ⟨rfl, rfl, rfl, by decide +kernel, rfl, by decide +kernel, by decide +kernel⟩
-- slots: 0:_law_box_here 1:_law_turn 2:_law_tags 3:_law_verse 4:_law_row
abbrev s_law : Stmt := topS 20
theorem sc_law : FnScope ["_law_script", "_law_cells_so", "_law_k"] ["_law_script"] (defScope s_law) := ⟨rfl, rfl, rfl, by decide +kernel, rfl, by decide +kernel, by decide +kernel⟩
-- slots: 0:_law_script 1:_law_cells_so 2:_law_k
end K10
namespace K10
open PySem PySem.Spec PyProof.Rows L2 IqX RvT LwB
section
variable {P : Program} {w : World} {K : PySem.W.Frag} {mg : Str → Option Value} {base : Heap}
theorem ok_is_part (D : Df K mg "is_part" s_is_part ["word", "log"]) (B : Bn mg) : Ok P w K mg base 1 "is_part" ["word", "log"] spPart := by
  refine D.ok sc_is_part (fun vs H Q E h => ?_) (fun f cdv A outer s H vs Q E hr h => ?_)
  · obtain ⟨_, _, _, _, _, _, rfl, _⟩ := h
    rfl
  · obtain ⟨b1, b2, a, c, ws, es, rfl, hw, he, q⟩ := h
    have nd := sc_is_part.nd
    refine ⟨_, pss_cons (ps_set (i := 2) nd rfl (.inl rfl) (pe_callB call_iterQ (by rfl) B.iter (by decide +kernel) (pa_cons (pv 1) pa_nil)))
      (pss_cons (ps_for PassesOwn.never rfl (pi_seq (pv 0)) (pg_name (i := 3) nd rfl (.inl rfl))
        (pss_cons (ps_set (i := 4) nd rfl (.inl rfl) (pe_cmpR (op_in_it rfl) (pv 3) (pv 2) (by rfl)))
        (pss_one (ps_if (pt_not (pt_val (pv 4))) (pss_one (ps_ret pe_bl)) pss_nil))))
      (pss_one (ps_ret pe_bl))), ?_⟩
    refine ⟨.ref c, rfl, b2, c, es.map V.str, rfl, he.B, fun it ni => ?_⟩
    have s1 : Same H (upd H it (ItQ b2 c it 0)) := same_new ni
    have hcit : c ≠ it := he.ne ni
    refine ⟨.ref a, rfl, b1, a, rfl, ⟨_, (s1.sq hw).B⟩, for_seq (K := K) (b := b1) (a := a) (xs := ws.map V.str)
      (fun i σ H' => ∃ (j : Nat) (x3 x4 : Option V), σ = [some (.ref a), some (.ref c), some (.ref it), x3, x4] ∧ Same H H' ∧ H' it = some (ItQ b2 c it j) ∧ isPart ws es = isPart (ws.drop i) (es.drop j))
      ⟨0, none, none, rfl, s1, upd_same, rfl⟩ (fun i σ H' _ ⟨_, _, _, _, sm, _⟩ => (sm.sq hw).B) ?_ ?_⟩
    · rintro i x σ H' hi ⟨j, x3, x4, rfl, sm, hit, em⟩
      obtain ⟨z, hz, rfl⟩ := map_get hi
      refine ⟨.str z, rfl, .ref it, rfl, it, c, b2, j, es.map V.str, rfl, hit, (sm.sq he).B, hcit, rfl, flat_strs es, fun j' hj hfound hbefore => ?_, fun hnone => ?_⟩
      · refine ⟨.bl true, rfl, true, rfl, iteF ?_⟩
        refine ⟨j' + 1, _, _, rfl, Same.young sm ni, upd_same, ?_⟩
        obtain ⟨y, hy, hyz⟩ := hfound
        obtain ⟨y', hy', rfl⟩ := map_get hy
        have ey : y' = z := eq_of_beq hyz
        subst ey
        rw [em, drop_at hz, isPart_find (es := es.drop j) (j := j' - j) (w := y') ?_ ?_, List.drop_drop]
        · congr 2
          omega
        · rw [List.getElem?_drop, show j + (j' - j) = j' by omega]
          exact hy'
        · intro m z2 h1 h2 e2
          rw [List.getElem?_drop] at h2
          have q2 := hbefore (j + m) (.str z2) (by omega) (by omega) (get_map h2)
          rw [e2] at q2
          simp [eqV] at q2
      · refine ⟨.bl false, rfl, false, rfl, iteT ?_⟩
        have e : isPart ws es = false := by
          rw [em, drop_at hz]
          refine isPart_miss fun m z2 h2 e2 => ?_
          rw [List.getElem?_drop] at h2
          have q2 := hnone (j + m) (.str z2) (by omega) (get_map h2)
          rw [e2] at q2
          simp [eqV] at q2
        have q1 := q _ (Same.young (o := ItX it) sm ni)
        rw [e] at q1
        exact q1
    · rintro σ H' ⟨j, x3, x4, rfl, sm, hit, em⟩
      have q1 := q _ sm
      rw [em, List.length_map, List.drop_length, isPart_nil] at q1
      exact q1
end
end K10
namespace K10
open PySem PySem.Spec PyProof.Rows L2 IqX RvT LwB EnS
section
variable {P : Program} {w : World} {K : PySem.W.Frag} {mg : Str → Option Value} {base : Heap}
theorem ok__early_places (D : Df K mg "_early_places" s__early_places ["word", "log"]) (B : Bn mg) : Ok P w K mg base 1 "_early_places" ["word", "log"] spEarly := by
  refine D.ok sc__early_places (fun vs H Q E h => ?_) (fun f cdv A outer s H vs Q E hr h => ?_)
  · obtain ⟨_, _, _, _, _, _, rfl, _⟩ := h
    rfl
  · obtain ⟨b1, b2, a, c, ws, es, rfl, hw, he, hlen, q⟩ := h
    have nd := sc__early_places.nd
    refine ⟨_, pss_cons (ps_set (i := 2) nd rfl (.inl rfl) (pe_lst pa_nil))
      (pss_cons (ps_for PassesOwn.never rfl (pi_enumS (by rfl) B.enumerate (pa_cons (pv 1) pa_nil))
          (pg_tup rfl (pgs_cons (pg_name (i := 3) nd rfl (.inl rfl)) (pgs_cons (pg_name (i := 4) nd rfl (.inl rfl)) pgs_nil)))
        (pss_one (ps_if (PW.pt (pw_and (pt_cmpR op_lt (pe_len B.len (pa_cons (pv 2) pa_nil)) (pe_len B.len (pa_cons (pv 0) pa_nil)) (nomark _))
            (pw_and1 (pt_cmpR op_eq (pv 4) (pe_ix ix_sq (pv 0) (pe_len B.len (pa_cons (pv 2) pa_nil)) (fun _ _ => rfl)) (nomark _)))))
          (pss_one (ps_expr (pe_bm PySem.F.plainAttrs_list PySem.F.slot_list_append PySem.F.type_list_append mt_append (pv 2) (pa_cons (pv 3) pa_nil)))) pss_nil)))
      (pss_one (ps_ret (pv 2)))), ?_⟩
    refine ⟨Nat.zero_le _, fun o no => ?_⟩
    have s1 : Same H (upd H o (.lst [])) := same_new no
    refine ⟨.ref c, rfl, b2, c, es.map V.str, rfl, (s1.sq he).B, for_enumS (K := K) (b := b2) (a := c) (xs := es.map V.str)
      (fun i σ H' => ∃ (acc : List Nat) (x3 x4 : Option V), σ = [some (.ref a), some (.ref c), some (.ref o), x3, x4] ∧ Same H H' ∧ H' o = some (.lst (nats acc)) ∧ acc.length ≤ ws.length ∧ early ws es 0 = acc ++ early (ws.drop acc.length) (es.drop i) i)
      ⟨[], none, none, rfl, s1, upd_same, Nat.zero_le _, rfl⟩ (fun i σ H' _ ⟨_, _, _, _, sm, _⟩ => (sm.sq he).B) ?_ ?_⟩
    · rintro i x T σ H' hi ⟨acc, x3, x4, rfl, sm, ho, hal, em⟩ nT
      obtain ⟨z, hz, rfl⟩ := map_get hi
      have nTo : o ≠ T := ne_of_none ho nT
      have sT : Same H (upd H' T (.tup [.int (i : Nat), .str z])) := sm.trans (same_new nT)
      have hoT : (upd H' T (.tup [.int (i : Nat), .str z])) o = some (.lst (nats acc)) := by rw [upd_ne nTo]; exact ho
      refine ⟨T, [.int (i : Nat), .str z], rfl, SqT.of upd_same, rfl, .int (i : Nat), [.str z], rfl, .str z, [], rfl, rfl, ?_⟩
      refine ⟨.ref o, rfl, true, o, nats acc, rfl, .lst hoT, .ref a, rfl, b1, a, ws.map V.str, rfl, sT.sq hw, _, _, rfl, rfl, _, rfl, ite2 (fun hlt => ?_) (fun hge => ?_)⟩
      · have hlt' : acc.length < ws.length := by
          have := of_decide_eq_true hlt
          simp [nats] at this
          omega
        have hwz : ws[acc.length]? = some ws[acc.length] := List.getElem?_eq_getElem hlt'
        have hat : atI (ws.map V.str) ((nats acc).length : Nat) = some (.str ws[acc.length]) := by
          rw [show (nats acc).length = acc.length from List.length_map _]
          exact atI_nat (get_map hwz)
        refine ⟨.str z, rfl, .ref a, rfl, .ref o, rfl, true, o, nats acc, rfl, .lst hoT, b1, a, _, _, _, rfl, rfl, sT.sq hw, hat, rfl, _, rfl, ite2 (fun heq => ?_) (fun hne => ?_)⟩
        · have ez : z = ws[acc.length] := V.str.inj (of_decide_eq_true heq)
          refine ⟨.ref o, rfl, .inl ⟨rfl, _, SqL.of hoT⟩, .int (i : Nat), rfl, o, _, _, rfl, rfl, hoT, ?_, ?_⟩
          · rw [show (nats acc).length = acc.length from List.length_map _]
            exact small1000 (by omega)
          · refine ⟨acc ++ [i], _, _, rfl, Same.young sT no, ?_, ?_, ?_⟩
            · rw [upd_same]
              simp [nats]
            · rw [List.length_append, List.length_singleton]
              omega
            · rw [em, drop_at hz, drop_at hwz, early_hit ez, List.append_assoc, List.length_append, List.length_singleton]
              rfl
        · have ez : ¬ z = ws[acc.length] := fun e => hne (by rw [e]; exact decide_eq_true rfl)
          refine ⟨acc, _, _, rfl, sT, hoT, hal, ?_⟩
          rw [em, drop_at hz, drop_at hwz, early_miss ez]
      · have hge' : ws.length ≤ acc.length := by
          have : ¬ (decide (_ < _) = true) := hge
          rw [decide_eq_true_eq] at this
          simp [nats] at this
          omega
        refine ⟨acc, _, _, rfl, sT, hoT, hal, ?_⟩
        rw [em, List.drop_eq_nil_of_le hge', early_nil, early_nil]
    · rintro σ H' ⟨acc, x3, x4, rfl, sm, ho, hal, em⟩
      refine ⟨.ref o, rfl, q _ _ ⟨sm, no, ?_⟩⟩
      rw [ho, em, List.length_map, List.drop_length, early_end, List.append_nil]
theorem ok_rest (D : Df K mg "rest" s_rest ["word", "log"]) (B : Bn mg) (OE : Ok P w K mg base 1 "_early_places" ["word", "log"] spEarly) : Ok P w K mg base 2 "rest" ["word", "log"] spRest := by
  refine D.ok sc_rest (fun vs H Q E h => ?_) (fun f cdv A outer s H vs Q E hr h => ?_)
  · obtain ⟨_, _, _, _, _, _, rfl, _⟩ := h
    rfl
  · obtain ⟨b1, b2, a, c, ws, es, rfl, hw, he, hlen, q⟩ := h
    refine ⟨_, pss_one (ps_ret (pe_slice sl_sq (pe_tupQ B.tuple (pa_cons (pv 0) pa_nil)) (po_some (pe_len B.len (pa_cons (pe_c OE hr (pa_cons (pv 0) (pa_cons (pv 1) pa_nil))) pa_nil))) po_none)), ?_⟩
    refine ⟨.ref a, rfl, b1, a, _, rfl, hw, fun H1 p s1 hp => ?_⟩
    refine ⟨.ref a, rfl, .ref c, rfl, b1, b2, a, c, ws, es, rfl, s1.sq hw, s1.sq he, hlen, fun H2 o no => ?_⟩
    refine ⟨true, o, _, rfl, .lst no.2.2, _, rfl, false, p, _, rfl, no.1.sq hp, fun H3 p3 s3 _ h3 => ?_⟩
    refine q H3 p3 (s1.trans (no.1.trans s3)) ?_
    rw [show (nats (early ws es 0)).length = (early ws es 0).length from List.length_map _, cut_from, ← List.map_drop] at h3
    exact h3
theorem ok_front (D : Df K mg "front" s_front ["word", "log"]) (B : Bn mg) (OR : Ok P w K mg base 2 "rest" ["word", "log"] spRest) : Ok P w K mg base 3 "front" ["word", "log"] spFront := by
  refine D.ok sc_front (fun vs H Q E h => ?_) (fun f cdv A outer s H vs Q E hr h => ?_)
  · obtain ⟨_, _, _, _, _, _, rfl, _⟩ := h
    rfl
  · obtain ⟨b1, b2, a, c, ws, es, rfl, hw, he, hlen, q⟩ := h
    refine ⟨_, pss_one (ps_ret (pe_revS (pe_c OR hr (pa_cons (pe_revS (pv 0)) (pa_cons (pe_revS (pv 1)) pa_nil))))), ?_⟩
    refine ⟨.ref a, rfl, b1, a, _, rfl, hw.B, fun p1 n1 => ?_⟩
    have s1 := same_new (o := if b1 = true then HO.lst (ws.map V.str).reverse else HO.tup (ws.map V.str).reverse) n1
    refine ⟨.ref c, rfl, b2, c, _, rfl, (s1.sq he).B, fun p2 n2 => ?_⟩
    have s2 := same_new (o := if b2 = true then HO.lst (es.map V.str).reverse else HO.tup (es.map V.str).reverse) n2
    refine ⟨b1, b2, p1, p2, ws.reverse, es.reverse, rfl, ?_, ?_, ?_, fun H3 p3 s3 h3 => ?_⟩
    · rw [List.map_reverse]
      exact s2.sq Sq.put
    · rw [List.map_reverse]
      exact Sq.put
    · rw [List.length_reverse]
      exact hlen
    · refine ⟨false, p3, _, rfl, h3.B, fun p4 n4 => ?_⟩
      refine q _ p4 (s1.trans (s2.trans (s3.trans (same_new n4)))) ?_
      rw [List.map_reverse]
      exact Sq.tup upd_same
end
end K10
namespace K10
open PySem PySem.Spec PyProof.Rows L2 IqX RvT LwB EnS
section
variable {P : Program} {w : World} {K : PySem.W.Frag} {mg : Str → Option Value} {base : Heap}
theorem ok__law_box (D : Df K mg "_law_box" s__law_box ["_law_script", "_law_k"]) (B : Bn mg) : Ok P w K mg base 1 "_law_box" ["_law_script", "_law_k"] spBox := by
  refine D.ok sc__law_box (fun vs H Q E h => ?_) (fun f cdv A outer s H vs Q E hr h => ?_)
  · obtain ⟨_, _, _, rfl, _⟩ := h
    rfl
  · obtain ⟨a, ns, k, rfl, hS, hk, q⟩ := h
    have nd := sc__law_box.nd
    refine ⟨_, pss_cons (ps_set (i := 2) nd rfl (.inl rfl) (pe_ifExp (pt_cmpR op_lt (pv 1) (pe_len B.len (pa_cons (pv 0) pa_nil)) (nomark _)) (pe_ix ix_sq (pv 0) (pv 1) (fun _ _ => rfl)) pe_int))
      (pss_one (ps_ret (pe_lst (pa_cons (pe_op op_mul (pe_abs B.abs (pa_cons (pv 2) pa_nil)) (pe_int1 B.int (pa_cons (pe_cmpR op_ge (pe_abs B.abs (pa_cons (pv 2) pa_nil)) (pe_op op_pow pe_int pe_int) (nomark _)) pa_nil)))
        (pa_cons (pe_op op_add (pe_op op_add (pe_op op_mod (pe_int1 B.int (pa_cons (pv 2) pa_nil)) pe_int) (pe_op op_mul pe_int (pv 1))) pe_int) (pa_cons pe_int pa_nil)))))), ?_⟩
    have fin : ∀ (c : Int) (bb : Bool), 0 ≤ (if c < 0 then -c else c) * (if bb = true then 1 else 0) := fun c bb => by
      cases bb
      · simp
      · simp
        split <;> omega
    refine ⟨.int k, rfl, .ref a, rfl, true, a, ns.map V.int, rfl, hS, _, _, rfl, rfl, _, rfl, ite2 (fun h1 => ?_) (fun h1 => ?_)⟩
    · have hlt : k < ns.length := by
        have := of_decide_eq_true h1
        rw [List.length_map] at this
        omega
      refine ⟨.ref a, rfl, .int k, rfl, true, a, ns.map V.int, k, .int ns[k], rfl, rfl, hS, atI_nat (by rw [List.getElem?_map, List.getElem?_eq_getElem hlt]; rfl), ?_⟩
      refine ⟨_, rfl, _, rfl, _, rfl, _, rfl, 10, 18, rfl, rfl, ⟨by decide, by decide, by decide⟩, _, _, rfl, rfl, .inr ⟨_, rfl, _, _, rfl, rfl, .inr (by split <;> omega), ?_⟩⟩
      refine ⟨_, rfl, .inl ⟨_, rfl, _, _, rfl, rfl, (show (0 : Int) < 2305843009213693951 by decide), _, rfl, _, _, rfl, rfl, .inl ⟨by decide, by decide⟩, _, _, rfl, rfl, _, _, rfl, rfl, (by show 3 ≤ sizeLine; decide), fun p np => ?_⟩⟩
      refine q _ p (same_new np) np ⟨_, _, 0, upd_same, fin _ _, ?_, ?_, by decide, by decide⟩
      · have := Int.emod_nonneg ns[k] (show (2305843009213693951 : Int) ≠ 0 by decide)
        omega
      · have := Int.emod_lt_of_pos ns[k] (show (0 : Int) < 2305843009213693951 by decide)
        omega
    · refine ⟨_, rfl, _, rfl, _, rfl, _, rfl, 10, 18, rfl, rfl, ⟨by decide, by decide, by decide⟩, _, _, rfl, rfl, .inr ⟨_, rfl, _, _, rfl, rfl, .inr (by split <;> omega), ?_⟩⟩
      refine ⟨_, rfl, .inl ⟨_, rfl, _, _, rfl, rfl, (show (0 : Int) < 2305843009213693951 by decide), _, rfl, _, _, rfl, rfl, .inl ⟨by decide, by decide⟩, _, _, rfl, rfl, _, _, rfl, rfl, (by show 3 ≤ sizeLine; decide), fun p np => ?_⟩⟩
      refine q _ p (same_new np) np ⟨_, _, 0, upd_same, fin _ _, ?_, ?_, by decide, by decide⟩
      · have := Int.emod_nonneg 0 (show (2305843009213693951 : Int) ≠ 0 by decide)
        omega
      · have := Int.emod_lt_of_pos 0 (show (0 : Int) < 2305843009213693951 by decide)
        omega
theorem ok__law_take (D : Df K mg "_law_take" s__law_take ["_law_box_here", "_law_size_so"]) (B : Bn mg) : Ok P w K mg base 1 "_law_take" ["_law_box_here", "_law_size_so"] spTake := by
  refine D.ok sc__law_take (fun vs H Q E h => ?_) (fun f cdv A outer s H vs Q E hr h => ?_)
  · obtain ⟨_, _, _, rfl, _⟩ := h
    rfl
  · obtain ⟨b, n, m, rfl, ⟨x0, x1, x2, hb, h0, h1, h2, h3, h4⟩, hn, hm0, hm1, q⟩ := h
    have nd := sc__law_take.nd
    refine ⟨_, pss_cons (ps_if (pt_cmpR op_gt (pe_ix ix_sq (pv 0) pe_int (fun _ _ => rfl)) pe_int (nomark _))
        (pss_cons (ps_set (i := 2) nd rfl (.inl rfl) (pe_op op_mod (pe_int1 B.int (pa_cons (pe_ix ix_sq (pv 0) pe_int (fun _ _ => rfl)) pa_nil)) (pv 1)))
        (pss_cons (ps_asg (pe_op op_fdivW (pe_ix ix_sq (pv 0) pe_int (fun _ _ => rfl)) (pv 1)) (pg_sub (pv 0) pe_int set_list))
        (pss_one (ps_ret (pv 2))))) pss_nil)
      (pss_cons (ps_asg (pe_op op_add (pe_ix ix_sq (pv 0) pe_int (fun _ _ => rfl)) pe_int) (pg_sub (pv 0) pe_int set_list))
      (pss_cons (ps_set (i := 3) nd rfl (.inl rfl) (pe_op op_mod (pe_int1 B.int (pa_cons (pe_op op_mul (pe_op op_add (pe_ix ix_sq (pv 0) pe_int (fun _ _ => rfl)) (pe_op op_mul pe_int (pe_ix ix_sq (pv 0) pe_int (fun _ _ => rfl)))) (pe_op op_add pe_int (pe_ix ix_sq (pv 0) pe_int (fun _ _ => rfl)))) pa_nil)) pe_int))
      (pss_cons (ps_set (i := 4) nd rfl (.inl rfl) (pe_op op_add (pe_op op_mod (pe_int1 B.int (pa_cons (pv 3) pa_nil)) pe_int) pe_int))
      (pss_cons (ps_set (i := 5) nd rfl (.inl rfl) (pe_op op_mod (pe_int1 B.int (pa_cons (pe_op op_mul (pe_op op_add (pe_op op_add (pv 3) (pe_ix ix_sq (pv 0) pe_int (fun _ _ => rfl))) (pe_op op_fdiv (pe_ix ix_sq (pv 0) pe_int (fun _ _ => rfl)) pe_int)) (pv 4)) pa_nil)) pe_int))
      (pss_one (ps_ret (pe_op op_mod (pe_int1 B.int (pa_cons (pe_op op_fdiv (pe_op op_mod (pe_int1 B.int (pa_cons (pe_op op_add (pe_op op_mul (pv 5) pe_int) (pv 3)) pa_nil)) pe_int) pe_int) pa_nil)) (pv 1)))))))), ?_⟩
    refine ⟨_, rfl, true, b, _, 0, _, rfl, rfl, .lst hb, rfl, _, _, rfl, rfl, _, rfl, ite2 (fun hp => ?_) (fun hp => ?_)⟩
    · refine ⟨_, rfl, true, b, _, 0, _, rfl, rfl, .lst hb, rfl, .inl ⟨_, rfl, _, rfl, _, _, rfl, rfl, hm0, ?_⟩⟩
      refine ⟨_, rfl, true, b, _, 0, _, rfl, rfl, .lst hb, rfl, _, rfl, _, _, rfl, rfl, wide_div hm0 (b := 30) (by omega) (by decide) (by decide), ?_⟩
      refine ⟨_, rfl, b, _, 0, 0, rfl, rfl, hb, rfl, _, rfl, ?_⟩
      refine q _ _ Fr.put ⟨x0 / m, x1, x2, upd_same, Int.ediv_nonneg h0 (by omega), h1, h2, h3, by omega⟩ (Int.emod_nonneg _ (by omega)) (Int.emod_lt_of_pos _ hm0)
    · refine ⟨_, rfl, true, b, _, 2, _, rfl, rfl, .lst hb, rfl, _, _, rfl, rfl, _, rfl, b, _, 2, 2, rfl, rfl, hb, rfl, ?_⟩
      have hb' : (upd H b (.lst ([V.int x0, V.int x1, V.int x2].set 2 (V.int (x2 + 1))))) b = some (.lst [.int x0, .int x1, .int (x2 + 1)]) := upd_same
      generalize hH : upd H b (.lst ([V.int x0, V.int x1, V.int x2].set 2 (V.int (x2 + 1)))) = H1 at hb' ⊢
      have fr : LwB.Fr b H H1 := by rw [← hH]; exact Fr.put
      refine ⟨_, rfl, true, b, _, 1, _, rfl, rfl, .lst hb', rfl, _, rfl, true, b, _, 2, _, rfl, rfl, .lst hb', rfl, _, _, rfl, rfl, .inl ⟨by decide, by decide⟩, _, _, rfl, rfl, ?_⟩
      refine ⟨_, rfl, true, b, _, 2, _, rfl, rfl, .lst hb', rfl, _, _, rfl, rfl, _, _, rfl, rfl, .inr ⟨by omega, by omega⟩, .inl ⟨_, rfl, _, _, rfl, rfl, (show (0 : Int) < 2147483647 by decide), ?_⟩⟩
      generalize ho : (x1 + 48271 * (x2 + 1)) * (39373 + (x2 + 1)) % 2147483647 = once
      have o1 : 0 ≤ once := by rw [← ho]; exact Int.emod_nonneg _ (by decide)
      have o2 : once < 2147483647 := by rw [← ho]; exact Int.emod_lt_of_pos _ (by decide)
      refine ⟨_, rfl, .inl ⟨_, rfl, _, _, rfl, rfl, (show (0 : Int) < 40009 by decide), _, _, rfl, rfl, ?_⟩⟩
      have f1 : 0 ≤ once % 40009 := Int.emod_nonneg _ (by decide)
      have f2 : once % 40009 < 40009 := Int.emod_lt_of_pos _ (by decide)
      refine ⟨_, rfl, _, rfl, true, b, _, 2, _, rfl, rfl, .lst hb', rfl, _, _, rfl, rfl, _, rfl, true, b, _, 1, _, rfl, rfl, .lst hb', rfl, _, _, rfl, rfl, ⟨by decide, by decide⟩, _, _, rfl, rfl, _, rfl, _, _, rfl, rfl, .inr ⟨by omega, by omega⟩, .inl ⟨_, rfl, _, _, rfl, rfl, (show (0 : Int) < 2147483629 by decide), ?_⟩⟩
      generalize ha : (once + (x2 + 1) + x1 / 1000003) * (once % 40009 + 7) % 2147483629 = again
      have a1 : 0 ≤ again := by rw [← ha]; exact Int.emod_nonneg _ (by decide)
      have a2 : again < 2147483629 := by rw [← ha]; exact Int.emod_lt_of_pos _ (by decide)
      refine ⟨_, rfl, _, _, rfl, rfl, .inr ⟨by decide, by decide⟩, _, rfl, _, _, rfl, rfl, .inl ⟨_, rfl, _, _, rfl, rfl, (show (0 : Int) < 2147483587 by decide), _, _, rfl, rfl, ⟨by decide, by decide⟩, .inl ⟨_, rfl, _, rfl, _, _, rfl, rfl, hm0, ?_⟩⟩⟩
      refine q _ _ fr ⟨x0, x1, x2 + 1, hb', h0, h1, h2, by omega, by omega⟩ (Int.emod_nonneg _ (by omega)) (Int.emod_lt_of_pos _ hm0)
theorem ok__law_cells (D : Df K mg "_law_cells" s__law_cells ["_law_script", "_law_top_so"]) (B : Bn mg) : Ok P w K mg base 1 "_law_cells" ["_law_script", "_law_top_so"] (spCells K) := by
  refine D.ok sc__law_cells (fun vs H Q E h => ?_) (fun f cdv A outer s H vs Q E hr h => ?_)
  · obtain ⟨_, _, _, rfl, _⟩ := h
    rfl
  · obtain ⟨a, ns, t, rfl, hS, ht0, ht, hl, q⟩ := h
    have nd := sc__law_cells.nd
    refine ⟨_, pss_cons (ps_set (i := 2) nd rfl (.inl rfl) (PE.imp (t' := tCellsAt K) (pe_orT (pe_listQ B.list (pa_cons (pe_slice sl_list (pv 0) po_none (po_some (pv 1))) pa_nil)) (pe_one (pe_lst (pa_cons pe_int pa_nil)))) ?imp))
      (pss_cons (ps_for PassesOwn.never rfl (pi_enumS (by rfl) B.enumerate (pa_cons (pe_slice sl_list (pv 0) (po_some (pv 1)) (po_some pe_int)) pa_nil))
          (pg_tup rfl (pgs_cons (pg_name (i := 3) nd rfl (.inl rfl)) (pgs_cons (pg_name (i := 4) nd rfl (.inl rfl)) pgs_nil)))
        (pss_cons (ps_set (i := 5) nd rfl (.inl rfl) (pe_op op_mod (pe_int1 B.int (pa_cons (pv 3) pa_nil)) (pv 1)))
        (pss_one (ps_asg (pe_op op_add (pe_ix ix_sq (pv 2) (pv 5) (fun _ _ => rfl)) (pe_op op_mul (pv 4) (pe_op op_add (pv 3) pe_int))) (pg_sub (pv 2) (pv 5) set_list)))))
      (pss_one (ps_ret (pv 2)))), ?_⟩
    case imp =>
      rintro σ H Q ⟨a, ns, t, h0, h1, hS, ht, q⟩
      refine ⟨.ref a, h0, .int t, h1, t, rfl, a, _, rfl, hS, fun p1 np1 => ⟨true, p1, _, rfl, .lst upd_same, fun H2 o no => ⟨_, .inl ⟨_, SqL.of no.2.2, rfl⟩, ?_⟩⟩⟩
      have s1 := same_new (o := HO.lst (cutV (ns.map V.int) none (some (t : Int)))) np1
      rw [cut_to, ← List.map_take] at no s1
      rw [cut_to, ← List.map_take]
      by_cases hn : ns = []
      · subst hn
        rw [if_neg (show ¬ ((!(List.map V.int (List.take t ([] : List Int))).isEmpty) = true) by simp)]
        refine ⟨(by show 1 ≤ sizeLine; decide), fun p np => ?_⟩
        have sH : Same H H2 := s1.trans no.1
        exact q _ p [0] ⟨sH.trans (same_new np), sH.free np, upd_same⟩ (by decide) ht (fun h => absurd h (Nat.not_lt_zero _))
      · have hlen : 0 < ns.length := List.length_pos_iff.mpr hn
        have e : (!((ns.take t).map V.int).isEmpty) = true := by
          cases hc : (ns.take t).map V.int with
          | nil =>
            have := congrArg List.length hc
            rw [List.length_map, List.length_take] at this
            have h2 : min t ns.length = 0 := this
            omega
          | cons x r => rfl
        rw [if_pos e]
        refine q _ o (ns.take t) ⟨s1.trans no.1, s1.free no.2.1, no.2.2⟩ ?_ ?_ ?_ <;> rw [List.length_take] <;> omega
    refine ⟨a, ns, t, rfl, rfl, hS, ht0, fun H1 o zs0 no hz0 hz1 hz2 => ?_⟩
    refine ⟨.ref a, rfl, .int t, rfl, t, rfl, 63, rfl, a, _, rfl, no.1.seq hS, fun p np => ?_⟩
    have hpo : p ≠ o := (ne_of_none no.2.2 np).symm
    have s2 := same_new (o := HO.lst (cutV (ns.map V.int) (some (t : Int)) (some (63 : Int)))) np
    have hp : Sq true (upd H1 p (.lst (cutV (ns.map V.int) (some (t : Int)) (some (63 : Int))))) p (cutV (ns.map V.int) (some (t : Int)) (some (63 : Int))) := .lst upd_same
    generalize upd H1 p (.lst (cutV (ns.map V.int) (some (t : Int)) (some (63 : Int)))) = H2 at s2 hp ⊢
    have ecut : cutV (ns.map V.int) (some (t : Int)) (some (63 : Int)) = ((ns.drop t).take (63 - t)).map V.int := by
      have := cut_mid (ns.map V.int) t 63
      rw [List.map_take, List.map_drop]
      exact this
    rw [ecut] at hp
    refine ⟨true, p, _, rfl, hp.B, for_enumS (K := K) (b := true) (a := p) (xs := ((ns.drop t).take (63 - t)).map V.int)
      (fun i σ H' => ∃ (zs : List Int) (x3 x4 x5 : Option V), σ = [some (.ref a), some (.int t), some (.ref o), x3, x4, x5] ∧ Same H H' ∧ H' o = some (.lst (zs.map V.int)) ∧ zs.length = zs0.length ∧ Sq true H' p (((ns.drop t).take (63 - t)).map V.int))
      ⟨zs0, none, none, none, rfl, no.1.trans s2, s2 _ _ no.2.2, rfl, hp⟩ (fun i σ H' _ ⟨_, _, _, _, _, _, _, _, hp'⟩ => hp'.B) ?_ ?_⟩
    · rintro i x T σ H' hi ⟨zs, x3, x4, x5, rfl, sm, ho, hzl, hp'⟩ nT
      have nTo : o ≠ T := ne_of_none ho nT
      obtain ⟨c, hc, rfl⟩ : ∃ c : Int, ((ns.drop t).take (63 - t))[i]? = some c ∧ x = .int c := by
        rw [List.getElem?_map] at hi
        cases e : ((ns.drop t).take (63 - t))[i]? with
        | none =>
          rw [e] at hi
          cases hi
        | some c =>
          rw [e] at hi
          exact ⟨c, rfl, (Option.some.inj hi).symm⟩
      have hil : i < 63 := by
        have := (List.getElem?_eq_some_iff.mp hc).1
        rw [List.length_take, List.length_drop] at this
        omega
      have htn : t < ns.length := by
        have := (List.getElem?_eq_some_iff.mp hc).1
        rw [List.length_take, List.length_drop] at this
        omega
      have hzt : zs.length = t := hzl.trans (hz2 htn)
      have hkt : i % t < zs.length := by
        rw [hzt]
        exact Nat.mod_lt _ ht0
      have eint : ((i : Nat) : Int) % ((t : Nat) : Int) = ((i % t : Nat) : Int) := rfl
      have sT : Same H (upd H' T (.tup [.int (i : Nat), .int c])) := sm.trans (same_new nT)
      have hoT : (upd H' T (.tup [.int (i : Nat), .int c])) o = some (.lst (zs.map V.int)) := by rw [upd_ne nTo]; exact ho
      have hpT : Sq true (upd H' T (.tup [.int (i : Nat), .int c])) p (((ns.drop t).take (63 - t)).map V.int) := (same_new nT).sq hp'
      refine ⟨T, [.int (i : Nat), .int c], rfl, SqT.of upd_same, rfl, .int (i : Nat), [.int c], rfl, .int c, [], rfl, rfl, ?_⟩
      refine ⟨_, rfl, .inl ⟨_, rfl, _, rfl, _, _, rfl, rfl, (by omega), ?_⟩⟩
      have hat : atI (zs.map V.int) ((i % t : Nat) : Int) = some (.int zs[i % t]) := atI_nat (by rw [List.getElem?_map, List.getElem?_eq_getElem hkt]; rfl)
      refine ⟨_, rfl, _, rfl, true, o, _, _, _, rfl, rfl, .lst hoT, hat, _, rfl, _, rfl, _, _, rfl, rfl, _, _, rfl, rfl, .inr ⟨by omega, by omega⟩, _, _, rfl, rfl, ?_⟩
      refine ⟨_, rfl, _, rfl, o, _, _, i % t, rfl, rfl, hoT, by rw [List.length_map]; exact ixN_nat hkt, ?_⟩
      refine ⟨zs.set (i % t) (zs[i % t] + c * ((i : Nat) + 2)), _, _, _, rfl, Same.young sT no.2.1, ?_, ?_, ?_⟩
      · rw [upd_same, List.map_set]
      · rw [List.length_set]
        exact hzl
      · exact hpT.mv fun u e => by rw [upd_ne hpo]; exact e
    · rintro σ H' ⟨zs, x3, x4, x5, rfl, sm, ho, hzl, hp'⟩
      exact ⟨_, rfl, q H' o zs ⟨sm, no.2.1, ho⟩ (by omega) (by omega)⟩
theorem ok__law_of (D : Df K mg "_law_of" s__law_of ["_law_box_here", "_law_goods_so"]) (B : Bn mg) (OT : Ok P w K mg base 1 "_law_take" ["_law_box_here", "_law_size_so"] spTake) : Ok P w K mg base 2 "_law_of" ["_law_box_here", "_law_goods_so"] spOf := by
  refine D.ok sc__law_of (fun vs H Q E h => ?_) (fun f cdv A outer s H vs Q E hr h => ?_)
  · obtain ⟨_, _, _, _, rfl, _⟩ := h
    rfl
  · obtain ⟨b, n, g, xs, rfl, hb, hn, hG, hx, q⟩ := h
    refine ⟨_, pss_one (ps_ret (pe_ix ix_goods (pv 1) (pe_c OT hr (pa_cons (pv 0) (pa_cons (pe_lenG B.len (pa_cons (pv 1) pa_nil)) pa_nil))) (fun _ _ => rfl))), ?_⟩
    have hl := hG.len
    refine ⟨g, rfl, .ref b, rfl, g, rfl, b, g, xs, rfl, hG, b, n, _, rfl, hb, hn, by omega, by omega, fun H' r fr bx r0 r1 => ?_⟩
    have hlt : r.toNat < xs.length := by omega
    exact ⟨b, xs, r.toNat, xs[r.toNat], by rw [Int.toNat_of_nonneg r0], hG.fr fr, List.getElem?_eq_getElem hlt, q H' _ fr bx (List.getElem_mem hlt)⟩
theorem ok__law_pick (D : Df K mg "_law_pick" s__law_pick ["_law_box_here", "_law_goods_so", "_law_count_so"]) (B : Bn mg) (OT : Ok P w K mg base 1 "_law_take" ["_law_box_here", "_law_size_so"] spTake) : Ok P w K mg base 2 "_law_pick" ["_law_box_here", "_law_goods_so", "_law_count_so"] spPick := by
  refine D.ok sc__law_pick (fun vs H Q E h => ?_) (fun f cdv A outer s H vs Q E hr h => ?_)
  · obtain ⟨_, _, _, _, _, rfl, _⟩ := h
    rfl
  · obtain ⟨b, n, m, g, xs, rfl, hb, hn, hm, hG, q⟩ := h
    have nd := sc__law_pick.nd
    have hl := hG.len
    refine ⟨_, pss_cons (ps_par (i := 3) (j := 4) (by rfl) nd rfl rfl (by decide) rfl rfl (pa_cons (pe_listG rfl B.list (pa_cons (pv 1) pa_nil)) (pa_cons (pe_lst pa_nil) pa_nil)) (by rfl))
      (pss_cons (ps_for PassesOwn.never rfl (pi_range1 (by rfl) B.range (pa_cons (pe_callB (call_min2 rfl) (by rfl) B.min (by decide +kernel) (pa_cons (pe_int1 B.int (pa_cons (pv 2) pa_nil)) (pa_cons (pe_len B.len (pa_cons (pv 3) pa_nil)) pa_nil))) pa_nil)) (pg_name (i := 5) nd rfl (.inl rfl))
        (pss_one (ps_expr (pe_bm PySem.F.plainAttrs_list PySem.F.slot_list_append PySem.F.type_list_append mt_append (pv 4) (pa_cons (pe_bm PySem.F.plainAttrs_list PySem.F.slot_list_pop PySem.F.type_list_pop mt_popAt (pv 3) (pa_cons (pe_c OT hr (pa_cons (pv 0) (pa_cons (pe_len B.len (pa_cons (pv 3) pa_nil)) pa_nil))) pa_nil)) pa_nil)))))
      (pss_one (ps_ret (pv 4)))), ?_⟩
    refine ⟨g, rfl, b, g, xs, rfl, hG, fun H1 p1 n1 => ⟨Nat.zero_le _, fun p2 n2 => ⟨_, _, rfl, ?_⟩⟩⟩
    have hp12 : p1 ≠ p2 := ne_of_none n1.2.2 n2
    have s2 : Same H (upd H1 p2 (.lst [])) := n1.1.trans (same_new n2)
    have np2 : H p2 = none := n1.1.free n2
    have hb1 : p1 ≠ b := hb.ne_new n1.2.1
    have hb2 : p2 ≠ b := hb.ne_new np2
    refine ⟨_, rfl, .inl ⟨_, rfl, _, rfl, true, p1, xs, rfl, .lst (by rw [upd_ne hp12]; exact n1.2.2), _, _, rfl, _, rfl, ?_⟩⟩
    have emin : (if ((xs.length : Nat) : Int) < (m : Int) then ((xs.length : Nat) : Int) else (m : Int)) = ((min m xs.length : Nat) : Int) := by
      split <;> omega
    rw [emin]
    refine ⟨by omega, by omega, for_range (lo := 0) (n := (((min m xs.length : Nat) : Int) - 0).toNat)
      (fun i σ H' => ∃ (x5 : Option V) (pool fs : List V), σ = [some (.ref b), some g, some (.int m), some (.ref p1), some (.ref p2), x5] ∧ LwB.Fr b H H' ∧ Bx (n + i) H' b ∧ H' p1 = some (.lst pool) ∧ H' p2 = some (.lst fs) ∧ fs.length = i ∧ (fs ++ pool).Perm xs)
      ⟨none, xs, [], rfl, Fr.same s2, hb.same s2, by rw [upd_ne hp12]; exact n1.2.2, upd_same, rfl, List.Perm.refl _⟩ ?_ ?_⟩
    · rintro i σ H' hi ⟨x5, pool, fs, rfl, fr, bx, e1, e2, hf, pm⟩
      have hi' : i < min m xs.length := by omega
      have hpl : fs.length + pool.length = xs.length := by
        rw [← List.length_append]
        exact pm.length_eq
      refine ⟨_, rfl, .inl ⟨rfl, _, SqL.of e2⟩, _, rfl, .inl ⟨rfl, _, SqL.of e1⟩, _, rfl, _, rfl, true, p1, pool, rfl, .lst e1, b, n + i, _, rfl, bx, by omega, by omega, by omega, fun H2 r fr2 bx2 r0 r1 => ?_⟩
      have hk : r.toNat < pool.length := by omega
      have e1' : H2 p1 = some (.lst pool) := fr2 _ _ e1 hb1
      have e2' : H2 p2 = some (.lst fs) := fr2 _ _ e2 hb2
      refine ⟨p1, pool, r, r.toNat, pool[r.toNat], rfl, rfl, e1', by omega, by omega, ?_, List.getElem?_eq_getElem hk, ?_⟩
      · have := seqIndex_nat hk
        rw [Int.toNat_of_nonneg r0] at this
        exact this
      · refine ⟨p2, fs, _, rfl, rfl, by rw [upd_ne hp12.symm]; exact e2', by show fs.length < sizeLine; exact Nat.lt_of_le_of_lt (by omega : fs.length ≤ 1000000) (by decide), ?_⟩
        refine ⟨_, pool.eraseIdx r.toNat, fs ++ [pool[r.toNat]], rfl, Fr.young (Fr.young (fr.trans fr2) n1.2.1) np2, ?_, ?_, upd_same, ?_, pick_perm hk pm⟩
        · exact (bx2.upd hb1).upd hb2
        · rw [upd_ne hp12]
          exact upd_same
        · rw [List.length_append, List.length_singleton, hf]
    · rintro σ H' ⟨x5, pool, fs, rfl, fr, bx, e1, e2, hf, pm⟩
      refine ⟨_, rfl, q H' p2 fs pool fr ?_ np2 e2 pm ?_⟩
      · exact bx.mono (by omega)
      · rw [hf]
        omega
end
end K10
namespace K10
open PySem PySem.Spec PyProof.Rows L2 IqX RvT LwB EnS
section
variable {P : Program} {w : World} {K : PySem.W.Frag} {mg : Str → Option Value} {base : Heap}
theorem ok__law_same (D : Df K mg "_law_same" s__law_same ["_law_got", "_law_due"]) (B : Bn mg) : ∀ n : Nat, Ok P w K mg base n "_law_same" ["_law_got", "_law_due"] (spSame n)
  | 0 => by
    obtain ⟨f, fd, F, g, b⟩ := D.ex
    obtain ⟨oc, od, _, _, _, _, _, _, osl, _, lk, _⟩ := F.ex
    exact ⟨f, fd, ⟨fun vs H Q E h => h.elim, fun A outer s H args us vs Q E hr he hb hv h => h.elim⟩, g, F.kp, b, oc, od, osl, lk⟩
  | n + 1 => by
    have IH := ok__law_same D B n
    refine D.ok sc__law_same (fun vs H Q E h => spSame_len h) (fun f cdv A outer s H vs Q E hr h => ?_)
    obtain ⟨v1, v2, t, rfl, i1, i2, q⟩ := h
    have nd := sc__law_same.nd
    refine ⟨_, pss_cons (ps_if (pt_val (pe_isQ2 B.isinstance (pa_cons (pv 1) (pa_cons (pe_tup (pa_cons (pe_ty (n := "list") B.list) (pa_cons (pe_ty (n := "tuple") B.tuple) pa_nil))) pa_nil))))
        (pss_cons (ps_if (pt_cmpR op_ne (pe_isQ B.isinstance (pa_cons (pv 0) (pa_cons (pe_ty (n := "list") B.list) pa_nil))) (pe_isQ B.isinstance (pa_cons (pv 1) (pa_cons (pe_ty (n := "list") B.list) pa_nil))) (nomark _)) (pss_one (ps_ret pe_bl)) pss_nil)
        (pss_cons (ps_if (pt_cmpR op_ne (pe_isQ B.isinstance (pa_cons (pv 0) (pa_cons (pe_ty (n := "tuple") B.tuple) pa_nil))) (pe_isQ B.isinstance (pa_cons (pv 1) (pa_cons (pe_ty (n := "tuple") B.tuple) pa_nil))) (nomark _)) (pss_one (ps_ret pe_bl)) pss_nil)
        (pss_one (ps_ret (pe_and (pe_cmpR op_eq (pe_len B.len (pa_cons (pv 0) pa_nil)) (pe_len B.len (pa_cons (pv 1) pa_nil)) (nomark _)) (pe_one (pe_callB (cr_all rfl) (by rfl) B.all (by decide +kernel) (pa_cons
          (pe_lc (own := [("_law_mine", 2), ("_law_its", 3)]) (g := gTup K 2 (gCons (gName 2) (gCons (gName 3) gNil))) (by rfl) nd (pi_zipQ B.zip (pa_cons (pv 0) (pa_cons (pv 1) pa_nil))) (blkOk_by (N := ["_law_got", "_law_due", "_law_mine", "_law_its"]) (sc := defScope s__law_same) (by decide +kernel))
            (fun _ _ _ _ _ => pg_tup rfl (pgs_cons (pg_name (i := 2) nd rfl (.inl rfl)) (pgs_cons (pg_name (i := 3) nd rfl (.inl rfl)) pgs_nil))) (fun _ _ _ _ _ => pts_nil)
            (fun _ _ _ _ _ => pe_c IH hr (pa_cons (pv 2) (pa_cons (pv 3) pa_nil)))) pa_nil)))))))) pss_nil)
      (pss_cons (ps_if (PW.pt (pw_or (pt_cmpR op_isN (pv 1) pe_non (nomark _)) (pw_or1 (pt_val (pe_isQ2 B.isinstance (pa_cons (pv 1) (pa_cons (pe_tup (pa_cons (pe_ty (n := "bool") B.bool) (pa_cons (pe_ty (n := "str") B.str) pa_nil))) pa_nil)))))))
        (pss_one (ps_ret (pe_and (pe_cmpR op_eq (pv 0) (pv 1) (nomark _)) (pe_and (pe_cmpR op_eq (pe_isQ B.isinstance (pa_cons (pv 0) (pa_cons (pe_ty (n := "bool") B.bool) pa_nil))) (pe_isQ B.isinstance (pa_cons (pv 1) (pa_cons (pe_ty (n := "bool") B.bool) pa_nil))) (nomark _))
          (pe_one (pe_cmpR op_eq (pe_cmpR op_isN (pv 0) pe_non (nomark _)) (pe_cmpR op_isN (pv 1) pe_non (nomark _)) (nomark _))))))) pss_nil)
      (pss_one (ps_ret (pe_and (pe_isQ B.isinstance (pa_cons (pv 0) (pa_cons (pe_ty (n := "int") B.int) pa_nil))) (pe_and (pe_not (pe_isQ B.isinstance (pa_cons (pv 0) (pa_cons (pe_ty (n := "bool") B.bool) pa_nil)))) (pe_one (pe_cmpR op_eq (pv 0) (pv 1) (nomark _)))))))), ?_⟩
    cases t with
    | non =>
      have e1 := i1.non_eq
      have e2 := i2.non_eq
      subst e1 e2
      refine ⟨_, rfl, (by show 2 ≤ sizeLine; decide), fun p np => ⟨_, p, "list", "tuple", "NoneType", false, false, rfl, upd_same, .base .non, (by decide +kernel), (by decide +kernel), false, rfl, iteF ?_⟩⟩
      refine ⟨_, rfl, rfl, _, rfl, iteD rfl (iteT ?_)⟩
      refine ⟨_, rfl, _, rfl, rfl, _, rfl, iteD rfl ⟨_, rfl, _, "bool", "NoneType", false, rfl, .base .non, (by decide +kernel), _, rfl, _, "bool", "NoneType", false, rfl, .base .non, (by decide +kernel), rfl, _, rfl, iteD rfl ⟨_, rfl, rfl, _, rfl, rfl, rfl, ?_⟩⟩⟩
      rw [decide_eq_true rfl]
      exact q _ (same_new np)
    | bl b =>
      have e1 := i1.bl_eq
      have e2 := i2.bl_eq
      subst e1 e2
      refine ⟨_, rfl, (by show 2 ≤ sizeLine; decide), fun p np => ⟨_, p, "list", "tuple", "bool", false, false, rfl, upd_same, .base (.bl _), (by decide +kernel), (by decide +kernel), false, rfl, iteF ?_⟩⟩
      refine ⟨_, rfl, rfl, _, rfl, iteDF (fun h => nomatch h) ⟨_, rfl, (by show 2 ≤ sizeLine; decide), fun p2 np2 => ⟨_, p2, "bool", "str", "bool", true, false, rfl, upd_same, .base (.bl _), (by decide +kernel), (by decide +kernel), true, rfl, iteT ?_⟩⟩⟩
      refine ⟨_, rfl, _, rfl, rfl, _, rfl, iteD rfl ⟨_, rfl, _, "bool", "bool", true, rfl, .base (.bl _), (by decide +kernel), _, rfl, _, "bool", "bool", true, rfl, .base (.bl _), (by decide +kernel), rfl, _, rfl, iteD rfl ⟨_, rfl, rfl, _, rfl, rfl, rfl, ?_⟩⟩⟩
      rw [decide_eq_true rfl]
      exact q _ ((same_new np).trans (same_new np2))
    | str z =>
      have e1 := i1.str_eq
      have e2 := i2.str_eq
      subst e1 e2
      refine ⟨_, rfl, (by show 2 ≤ sizeLine; decide), fun p np => ⟨_, p, "list", "tuple", "str", false, false, rfl, upd_same, .base (.str _), (by decide +kernel), (by decide +kernel), false, rfl, iteF ?_⟩⟩
      refine ⟨_, rfl, rfl, _, rfl, iteDF (fun h => nomatch h) ⟨_, rfl, (by show 2 ≤ sizeLine; decide), fun p2 np2 => ⟨_, p2, "bool", "str", "str", false, true, rfl, upd_same, .base (.str _), (by decide +kernel), (by decide +kernel), true, rfl, iteT ?_⟩⟩⟩
      refine ⟨_, rfl, _, rfl, rfl, _, rfl, iteD rfl ⟨_, rfl, _, "bool", "str", false, rfl, .base (.str _), (by decide +kernel), _, rfl, _, "bool", "str", false, rfl, .base (.str _), (by decide +kernel), rfl, _, rfl, iteD rfl ⟨_, rfl, rfl, _, rfl, rfl, rfl, ?_⟩⟩⟩
      rw [decide_eq_true rfl]
      exact q _ ((same_new np).trans (same_new np2))
    | int i =>
      have e1 := i1.int_eq
      have e2 := i2.int_eq
      subst e1 e2
      refine ⟨_, rfl, (by show 2 ≤ sizeLine; decide), fun p np => ⟨_, p, "list", "tuple", "int", false, false, rfl, upd_same, .base (.int _), (by decide +kernel), (by decide +kernel), false, rfl, iteF ?_⟩⟩
      refine ⟨_, rfl, rfl, _, rfl, iteDF (fun h => nomatch h) ⟨_, rfl, (by show 2 ≤ sizeLine; decide), fun p2 np2 => ⟨_, p2, "bool", "str", "int", false, false, rfl, upd_same, .base (.int _), (by decide +kernel), (by decide +kernel), false, rfl, iteF ?_⟩⟩⟩
      refine ⟨_, rfl, _, "int", "int", true, rfl, .base (.int _), (by decide +kernel), _, rfl, iteT ⟨_, rfl, _, "bool", "int", false, rfl, .base (.int _), (by decide +kernel), _, rfl, _, rfl, iteT ⟨_, rfl, _, rfl, rfl, ?_⟩⟩⟩
      rw [decide_eq_true rfl]
      exact q _ ((same_new np).trans (same_new np2))
    | sq t ts =>
      obtain ⟨m, a1, xs, en, e1, ⟨h1, _⟩, l1, p1⟩ := i1.sq_eq
      obtain ⟨m', a2, ys, en', e2, ⟨h2, _⟩, l2, p2⟩ := i2.sq_eq
      subst e1 e2 en
      cases en'
      have hlen : xs.length = ys.length := (Paired.length p1).symm.trans (Paired.length p2)
      have hk1 : kitB (if t = true then "list" else "tuple") "list" = some t := by cases t <;> decide +kernel
      have hk2 : kitB (if t = true then "list" else "tuple") "tuple" = some (!t) := by cases t <;> decide +kernel
      refine ⟨_, rfl, (by show 2 ≤ sizeLine; decide), fun p np => ⟨_, p, "list", "tuple", _, _, _, rfl, upd_same, ((same_new np).sq h2).ty, hk1, hk2, true, by cases t <;> rfl, iteT ?_⟩⟩
      have sp := same_new (o := .tup [V.ty "list", V.ty "tuple"]) np
      generalize hH1 : upd H p (.tup [V.ty "list", V.ty "tuple"]) = H1 at sp ⊢
      have h1' := sp.sq h1
      have h2' := sp.sq h2
      refine ⟨_, rfl, _, "list", _, _, rfl, h1'.ty, hk1, _, rfl, _, "list", _, _, rfl, h2'.ty, hk1, rfl, _, rfl, iteND rfl ?_⟩
      refine ⟨_, rfl, _, "tuple", _, _, rfl, h1'.ty, hk2, _, rfl, _, "tuple", _, _, rfl, h2'.ty, hk2, rfl, _, rfl, iteND rfl ?_⟩
      refine ⟨_, rfl, t, a1, xs, rfl, h1', _, rfl, t, a2, ys, rfl, h2', rfl, _, rfl, iteD (by rw [hlen]) ?_⟩
      refine ⟨_, rfl, _, rfl, t, a1, a2, xs, ys, rfl, h1'.B, h2'.B, fun D nD => ?_⟩
      refine lc_zipB (K := K) (b := t) (a := a1) (c := a2) (xs := xs) (ys := ys) hlen (fun i H' => Same H1 H' ∧ H' D = some (.lst ((List.replicate i true).map V.bl)))
        ⟨same_new nD, upd_same⟩ (fun i H' _ hp => ⟨(hp.1.sq h1').B, (hp.1.sq h2').B⟩) ?_ ?_
      · rintro i x y T H' hx hy ⟨sm, hD⟩ nT
        obtain ⟨tx, etx, ix⟩ := paired_get p1 hx
        obtain ⟨ty, ety, iy⟩ := paired_get p2 hy
        rw [etx] at ety
        cases ety
        have sT := same_new (o := .tup [x, y]) nT
        refine ⟨T, [x, y], rfl, SqT.of upd_same, rfl, x, [y], rfl, y, [], rfl, rfl, rfl, ?_⟩
        show tCall (spSame (m + 1)) [] E0 (tCons (tVar 2) (tCons (tVar 3) tNil)) _ _ _
        have sall : Same H (upd H' T (.tup [x, y])) := sp.trans (sm.trans sT)
        refine ⟨_, rfl, _, rfl, x, y, tx, rfl, ix.same sall, iy.same sall, fun H2 s2 => ?_⟩
        have hDT : D ≠ T := ne_of_none hD nT
        have hD2 : H2 D = some (.lst ((List.replicate i true).map V.bl)) := s2 _ _ (by rw [upd_ne hDT]; exact hD)
        have hil := (List.getElem?_eq_some_iff.mp hx).1
        refine ⟨_, hD2, ?_, Same.young (sm.trans (sT.trans s2)) nD, ?_⟩
        · rw [List.length_map, List.length_replicate]
          exact Nat.lt_of_lt_of_le hil (Nat.le_trans l1 (by decide))
        · rw [upd_same, List.replicate_succ', List.map_append]
          rfl
      · rintro H' ⟨sm, hD⟩
        refine ⟨D, List.replicate xs.length true, rfl, SqL.of hD, ?_⟩
        have ea : (List.replicate xs.length true).all id = true := by
          rw [List.all_eq_true]
          intro z hz
          exact (List.mem_replicate.mp hz).2
        rw [ea]
        exact q H' (sp.trans sm)
end
end K10
namespace K10
open PySem PySem.Spec PyProof.Rows L2 IqX RvT LwB EnS TL
section
variable {P : Program} {w : World} {K : PySem.W.Frag} {mg : Str → Option Value} {base : Heap}
abbrev letters : Str := Str.ofString "abcdefghijklmnopqrstuvwxyz"
theorem tl_letters : tl letters = List.range' 97 26 := by decide +kernel
theorem letter_of {c : Nat} (h : c ∈ tl letters) : Letter c := by
  rw [tl_letters] at h
  have := List.mem_range'_1.mp h
  unfold Letter
  omega
theorem letters_nodup : (tl letters).Nodup := by rw [tl_letters]; decide
theorem goods_letters {H : Hp} {b : Addr} : Goods H b (.str letters) ((tl letters).map gv) := .inl ⟨letters, rfl, by rw [show letters.length = 26 by decide +kernel]; decide, signs_eq _⟩
theorem ok__law_names (D : Df K mg "_law_names" s__law_names ["_law_box_here", "_law_much_so"]) (B : Bn mg) (OT : Ok P w K mg base 1 "_law_take" ["_law_box_here", "_law_size_so"] spTake) (OO : Ok P w K mg base 2 "_law_of" ["_law_box_here", "_law_goods_so"] spOf)
    (OP : Ok P w K mg base 2 "_law_pick" ["_law_box_here", "_law_goods_so", "_law_count_so"] spPick) : Ok P w K mg base 3 "_law_names" ["_law_box_here", "_law_much_so"] spNames := by
  refine D.ok sc__law_names (fun vs H Q E h => ?_) (fun f cdv A outer s H vs Q E hr h => ?_)
  · obtain ⟨_, _, _, rfl, _⟩ := h
    rfl
  · obtain ⟨b, n, m, rfl, hb, hn, hm, q⟩ := h
    have nd := sc__law_names.nd
    have hr1 : Room 1 _ := hr.mono (by decide)
    refine ⟨_, pss_cons (ps_set (i := 2) nd rfl (.inr rfl) pe_str)
      (pss_cons (ps_set (i := 3) nd rfl (.inl rfl) (pe_op op_add pe_int (pe_c OT hr1 (pa_cons (pv 0) (pa_cons pe_int pa_nil)))))
      (pss_cons (ps_setLc (i := 4) (own := [("_law_turn", 9)]) (g := gName 9) rfl nd rfl rfl (sw_true rfl rfl rfl (by decide +kernel)) (pi_range1 (by rfl) B.range (pa_cons (pv 3) pa_nil))
        (blkOk_by (N := ["_law_box_here", "_law_much_so", "_law_letters_so", "_law_long", "_law_some", "_law_sort_so", "_law_spot_so", "_law_found", "_law_sign", "_law_turn"]) (sc := defScope s__law_names) (by decide +kernel))
        (fun _ _ _ _ _ => pg_name (i := 9) nd rfl (.inl rfl)) (fun _ _ _ _ _ => pts_nil) (fun _ _ _ _ _ => pe_c OO hr (pa_cons (pv 0) (pa_cons (pv 2) pa_nil))))
      (pss_cons (ps_par3 (i := 5) (j := 6) (l := 7) (by rfl) nd rfl rfl rfl (by decide) (by decide) (by decide) rfl rfl rfl (pa_cons (pe_c OT hr1 (pa_cons (pv 0) (pa_cons pe_int pa_nil))) (pa_cons (pe_c OT hr1 (pa_cons (pv 0) (pa_cons (pv 3) pa_nil))) (pa_cons (pe_lst pa_nil) pa_nil))) (by rfl))
      (pss_cons (ps_for PassesOwn.never rfl (pi_list (pe_c OP hr (pa_cons (pv 0) (pa_cons (pv 2) (pa_cons (pv 1) pa_nil))))) (pg_name (i := 8) nd rfl (.inl rfl))
        (pss_one (ps_if (pt_cmpR op_eq (pv 5) pe_int (nomark _))
          (pss_one (ps_expr (pe_bm PySem.F.plainAttrs_list PySem.F.slot_list_append PySem.F.type_list_append mt_append (pv 7) (pa_cons (pv 8) pa_nil))))
          (pss_one (ps_if (pt_cmpR op_lt (pv 5) pe_int (nomark _))
            (pss_one (ps_expr (pe_bm PySem.F.plainAttrs_list PySem.F.slot_list_append PySem.F.type_list_append mt_append (pv 7) (pa_cons
              (pe_join pe_str (pe_op op_cat (pe_op op_cat (pe_slice sl_sq (pv 4) po_none (po_some (pv 6))) (pe_lst (pa_cons (pv 8) pa_nil))) (pe_slice sl_sq (pv 4) (po_some (pe_op op_add (pv 6) pe_int)) po_none))) pa_nil))))
            (pss_one (ps_expr (pe_bm PySem.F.plainAttrs_list PySem.F.slot_list_append PySem.F.type_list_append mt_append (pv 7) (pa_cons
              (pe_op op_add_str (pv 8) (pe_join pe_str
                (pe_lc (own := [("_law_turn", 9)]) (g := gName 9) (by rfl) nd (pi_range1 (by rfl) B.range (pa_cons (pe_c OT hr1 (pa_cons (pv 0) (pa_cons pe_int pa_nil))) pa_nil))
                  (blkOk_by (N := ["_law_box_here", "_law_much_so", "_law_letters_so", "_law_long", "_law_some", "_law_sort_so", "_law_spot_so", "_law_found", "_law_sign", "_law_turn"]) (sc := defScope s__law_names) (by decide +kernel))
                  (fun _ _ _ _ _ => pg_name (i := 9) nd rfl (.inl rfl)) (fun _ _ _ _ _ => pts_nil) (fun _ _ _ _ _ => pe_c OO hr (pa_cons (pv 0) (pa_cons (pv 2) pa_nil)))))) pa_nil)))))))))
      (pss_one (ps_ret (pv 7))))))), ?_⟩
    refine ⟨_, rfl, b, n, 8, rfl, hb, by omega, by decide, by decide, fun H1 r fr1 bx1 r0 r1 => ?_⟩
    refine ⟨1, r, rfl, rfl, _, rfl, 1 + r, rfl, by omega, by omega, fun Ds nDs => ?_⟩
    have nDs0 : H Ds = none := fr1.free (bx1.ne_new nDs) nDs
    have hDb : Ds ≠ b := bx1.ne_new nDs
    refine lc_range (lo := 0) (n := (1 + r).toNat) (fun i H' => LwB.Fr b H H' ∧ Bx (n + 1 + i) H' b ∧ ∃ cs : List Nat, H' Ds = some (.lst (cs.map gv)) ∧ cs.length = i ∧ ∀ c ∈ cs, Letter c)
      ⟨fr1.young nDs0, bx1.new nDs, [], upd_same, rfl, fun c h => nomatch h⟩ ?_ ?_
    · rintro i H2 hi ⟨fr2, bx2, cs, e2, hl2, hc2⟩
      refine ⟨rfl, ?_⟩
      show tCall spOf [] E0 (tCons (tVar 0) (tCons (tVar 2) tNil)) _ _ _
      refine ⟨_, rfl, _, rfl, b, n + 1 + i, _, _, rfl, bx2, by omega, goods_letters, by rw [List.length_map, tl_letters]; decide, fun H3 x fr3 bx3 hx => ?_⟩
      obtain ⟨c, hc, rfl⟩ := mem_gv hx
      refine ⟨_, fr3 _ _ e2 hDb, ?_, (fr2.trans fr3).young nDs0, ?_, cs ++ [c], ?_, ?_, ?_⟩
      · rw [List.length_map, hl2]
        exact small1000 (by omega)
      · exact (bx3.mono (by omega)).upd hDb
      · rw [upd_same, List.map_append]
        rfl
      · rw [List.length_append, List.length_singleton, hl2]
      · intro c' h'
        rcases List.mem_append.mp h' with h' | h'
        · exact hc2 c' h'
        · rw [List.mem_singleton.mp h']
          exact letter_of hc
    rintro H2 ⟨fr2, bx2, cs, e2, hl2, hc2⟩
    have hlong : cs.length ≤ 8 ∧ 1 ≤ cs.length := by omega
    refine ⟨_, rfl, b, n + 1 + (1 + r).toNat, 4, rfl, bx2, by omega, by decide, by decide, fun H3 so fr3 bx3 so0 so1 => ?_⟩
    refine ⟨_, rfl, _, rfl, b, n + 1 + (1 + r).toNat + 1, _, rfl, bx3, by omega, by omega, by omega, fun H4 spi fr4 bx4 sp0 sp1 => ?_⟩
    obtain ⟨sp, rfl⟩ := Int.eq_ofNat_of_zero_le sp0
    refine ⟨Nat.zero_le _, fun F nF => ⟨_, _, _, rfl, ?_⟩⟩
    have e4 : H4 Ds = some (.lst (cs.map gv)) := fr4 _ _ (fr3 _ _ e2 hDb) hDb
    have fr5 : LwB.Fr b H H4 := fr2.trans (fr3.trans fr4)
    have hFb : F ≠ b := bx4.ne_new nF
    have nF0 : H F = none := fr5.free hFb nF
    have hFD : Ds ≠ F := ne_of_none e4 nF
    have bx5 : Bx (n + 20) (upd H4 F (.lst [])) b := (bx4.mono (by omega)).new nF
    generalize hH5 : upd H4 F (.lst []) = H5 at bx5
    have e5 : H5 Ds = some (.lst (cs.map gv)) := by rw [← hH5, upd_ne hFD]; exact e4
    have eF : H5 F = some (.lst []) := by rw [← hH5]; exact upd_same
    have fr6 : LwB.Fr b H H5 := by rw [← hH5]; exact fr5.young nF0
    refine ⟨_, rfl, _, rfl, _, rfl, b, n + 20, m, _, _, rfl, bx5, by omega, by omega, goods_letters, fun H6 pk ys rest fr7 bx6 npk hpk pm hyl => ?_⟩
    obtain ⟨ds, rs, rfl, pm2⟩ := picked pm
    have hyl2 : ds.length = m := by
      rw [List.length_map, List.length_map, tl_letters] at hyl
      have : (List.range' 97 26).length = 26 := rfl
      omega
    have dnod : ds.Nodup := (List.nodup_append.mp (pm2.nodup_iff.mpr letters_nodup)).1
    have dlet : ∀ c ∈ ds, Letter c := fun c h => letter_of (pm2.subset (List.mem_append_left _ h))
    have hpb : pk ≠ b := bx5.ne_new npk
    have npk0 : H pk = none := fr6.free hpb npk
    have e6 : H6 Ds = some (.lst (cs.map gv)) := fr7 _ _ e5 hDb
    have eF6 : H6 F = some (.lst []) := fr7 _ _ eF hFb
    have hpF : pk ≠ F := (ne_of_none eF npk).symm
    have hpD : pk ≠ Ds := (ne_of_none e5 npk).symm
    -- the place at which the names differ
    let j : Nat := if so = 0 then 0 else if so < 3 then sp else 0
    refine ⟨pk, rfl, ⟨_, SqL.of hpk⟩, for_list (K := K) (a := pk) (xs := ds.map gv)
      (fun i σ H' => ∃ x8 : Option V, σ = [some (.ref b), some (.int m), some (.str letters), some (.int (1 + r)), some (.ref Ds), some (.int so), some (.int sp), some (.ref F), x8, none] ∧
        LwB.Fr b H H' ∧ Bx (n + 20 + m + 9 * i) H' b ∧ H' pk = some (.lst (ds.map gv)) ∧ H' Ds = some (.lst (cs.map gv)) ∧
        ∃ ss : List Str, H' F = some (.lst (ss.map V.str)) ∧ ss.length = i ∧ (∀ z ∈ ss, NameOk z) ∧ ss.map (fun z => (tl z)[j]?) = (ds.take i).map some)
      ⟨none, rfl, fr6.trans fr7, bx6, hpk, e6, [], eF6, rfl, (fun z h => nomatch h), rfl⟩ (fun i σ H' _ ⟨_, _, _, _, h, _⟩ => SqL.of h) ?_ ?_⟩
    · rintro i x σ H' hi ⟨x8, rfl, fr, bx, hpk', eD', ss, eF', hsl, hok, hkey⟩
      obtain ⟨c, hc, rfl⟩ : ∃ c, ds[i]? = some c ∧ x = gv c := by
        rw [List.getElem?_map] at hi
        cases e : ds[i]? with
        | none =>
          rw [e] at hi
          cases hi
        | some c =>
          rw [e] at hi
          exact ⟨c, rfl, (Option.some.inj hi).symm⟩
      have hcl : Letter c := dlet c (List.mem_of_getElem? hc)
      have him : i < 26 := by
        have := (List.getElem?_eq_some_iff.mp hc).1
        omega
      have key : ∀ z : Str, (tl z)[j]? = some c → (ss ++ [z]).map (fun z => (tl z)[j]?) = (ds.take (i + 1)).map some := fun z hz => by
        rw [List.map_append, hkey, List.take_add_one, hc, List.map_append]
        rw [show List.map (fun z => (tl z)[j]?) [z] = [(tl z)[j]?] from rfl, hz]
        rfl
      refine ⟨.int so, rfl, rfl, _, rfl, ite2 (fun h0 => ?_) (fun h0 => ?_)⟩
      · have hso : so = 0 := V.int.inj (of_decide_eq_true h0)
        refine ⟨_, rfl, .inl ⟨rfl, _, SqL.of eF'⟩, _, rfl, F, _, _, rfl, rfl, eF', by rw [List.length_map, hsl]; exact small1000 (by omega), ?_⟩
        refine ⟨_, rfl, fr.young nF0, (bx.mono (by omega)).upd hFb, by rw [upd_ne hpF]; exact hpk', by rw [upd_ne hFD]; exact eD', ss ++ [one c], ?_, ?_, ?_, ?_⟩
        · rw [upd_same, List.map_append]
          rfl
        · rw [List.length_append, List.length_singleton, hsl]
        · intro z hz
          rcases List.mem_append.mp hz with hz | hz
          · exact hok z hz
          · rw [List.mem_singleton.mp hz]
            refine ⟨Nat.le_refl 1, (by show 1 ≤ 8; decide), fun c' h' => ?_⟩
            rw [tl_one, List.mem_singleton] at h'
            rw [h']
            exact hcl
        · refine key _ ?_
          show (tl (one c))[if so = 0 then 0 else if so < 3 then sp else 0]? = some c
          rw [if_pos hso]
          rfl
      · have hso : so ≠ 0 := fun e => h0 (by rw [e]; exact decide_eq_true rfl)
        refine ⟨_, rfl, so, 3, rfl, rfl, _, rfl, ite2 (fun h3 => ?_) (fun h3 => ?_)⟩
        · have hj : j = sp := by
            show (if so = 0 then 0 else if so < 3 then sp else 0) = sp
            rw [if_neg hso, if_pos (of_decide_eq_true h3)]
          have hspl : sp < cs.length := by omega
          refine ⟨_, rfl, .inl ⟨rfl, _, SqL.of eF'⟩, ⟨_, rfl⟩, .ref Ds, rfl, .int sp, rfl, sp, rfl, true, Ds, _, rfl, .lst eD', fun Ha pa sa na qa => ?_⟩
          have ea := (na rfl).2
          rw [cut_to, ← List.map_take] at ea
          refine ⟨_, rfl, (by show 1 ≤ sizeLine; decide), fun pb nb => ?_⟩
          have hab : pa ≠ pb := ne_of_none ea nb
          have sb : Same H' (upd Ha pb (.lst [gv c])) := sa.trans (same_new nb)
          refine ⟨pa, pb, (cs.take sp).map gv, [gv c], rfl, rfl, by rw [upd_ne hab]; exact ea, upd_same, ?_, fun pc nc => ?_⟩
          · rw [List.length_map, List.length_take]
            exact Nat.le_trans (show min sp cs.length + 1 ≤ 9 by omega) (by decide)
          have sc : Same H' (upd (upd Ha pb (.lst [gv c])) pc (.lst ((cs.take sp).map gv ++ [gv c]))) := sb.trans (same_new nc)
          generalize hHc : upd (upd Ha pb (.lst [gv c])) pc (.lst ((cs.take sp).map gv ++ [gv c])) = Hc at sc ⊢
          have ec : Hc pc = some (.lst ((cs.take sp).map gv ++ [gv c])) := by rw [← hHc]; exact upd_same
          refine ⟨.ref Ds, rfl, _, rfl, sp, 1, rfl, rfl, sp + 1, rfl, true, Ds, _, rfl, sc.sq (.lst eD'), fun Hd pd sd nd' qd => ?_⟩
          have ed := (nd' rfl).2
          rw [show ((sp : Nat) : Int) + 1 = ((sp + 1 : Nat) : Int) from rfl, cut_from, ← List.map_drop] at ed
          refine ⟨pc, pd, _, _, rfl, rfl, sd _ _ ec, ed, ?_, fun pe ne => ?_⟩
          · rw [List.length_append, List.length_map, List.length_map, List.length_take, List.length_drop]
            exact Nat.le_trans (show min sp cs.length + [gv c].length + (cs.length - (sp + 1)) ≤ 20 by show min sp cs.length + 1 + (cs.length - (sp + 1)) ≤ 20; omega) (by decide)
          have se := sc.trans (sd.trans (same_new (o := HO.lst ((cs.take sp).map gv ++ [gv c] ++ (cs.drop (sp + 1)).map gv)) ne))
          have ev : (cs.take sp).map gv ++ [gv c] ++ (cs.drop (sp + 1)).map gv = ((cs.take sp ++ [c] ++ cs.drop (sp + 1)).map one).map V.str := by
            rw [vals_ones, List.map_append, List.map_append]
            rfl
          have elen : (cs.take sp ++ [c] ++ cs.drop (sp + 1)).length = cs.length := by
            rw [List.length_append, List.length_append, List.length_take, List.length_drop]
            show min sp cs.length + 1 + (cs.length - (sp + 1)) = cs.length
            omega
          refine ⟨_, pe, (cs.take sp ++ [c] ++ cs.drop (sp + 1)).map one, rfl, rfl, .inl (SqL.of (by rw [← ev]; exact upd_same)), ?_, ?_⟩
          · rw [len_ones, List.length_map, elen]
            show cs.length + cs.length * (Str.ofString "").length ≤ 16777216
            rw [show (Str.ofString "").length = 0 by decide +kernel]
            omega
          generalize hHe : upd Hd pe _ = He at se ⊢
          have eFe : He F = some (.lst (ss.map V.str)) := se _ _ eF'
          have frE : LwB.Fr b H' He := Fr.same se
          have ez : tl (Txt.join (Str.ofString "") ((cs.take sp ++ [c] ++ cs.drop (sp + 1)).map one)) = cs.take sp ++ [c] ++ cs.drop (sp + 1) := tl_joined (by decide +kernel) _
          generalize hz : Txt.join (Str.ofString "") ((cs.take sp ++ [c] ++ cs.drop (sp + 1)).map one) = z at ez ⊢
          refine ⟨F, _, _, rfl, rfl, eFe, by rw [List.length_map, hsl]; exact small1000 (by omega), ?_⟩
          refine ⟨_, rfl, (fr.trans frE).young nF0, ((bx.same se).mono (by omega)).upd hFb, by rw [upd_ne hpF]; exact se _ _ hpk', by rw [upd_ne hFD]; exact se _ _ eD', ss ++ [z], ?_, ?_, ?_, ?_⟩
          · rw [upd_same, List.map_append]
            rfl
          · rw [List.length_append, List.length_singleton, hsl]
          · intro y hy
            rcases List.mem_append.mp hy with hy | hy
            · exact hok y hy
            · rw [List.mem_singleton.mp hy]
              refine ⟨by rw [ez, elen]; exact hlong.2, by rw [ez, elen]; exact hlong.1, fun c' h' => ?_⟩
              rw [ez] at h'
              rcases List.mem_append.mp h' with h' | h'
              · rcases List.mem_append.mp h' with h' | h'
                · exact hc2 c' (List.mem_of_mem_take h')
                · rw [List.mem_singleton.mp h']
                  exact hcl
              · exact hc2 c' (List.mem_of_mem_drop h')
          · refine key _ ?_
            rw [ez, hj, List.append_assoc, List.getElem?_append_right (by rw [List.length_take]; omega), List.length_take, show sp - min sp cs.length = 0 by omega]
            rfl
        · have hj : j = 0 := by
            show (if so = 0 then 0 else if so < 3 then sp else 0) = 0
            rw [if_neg hso, if_neg fun e => h3 (decide_eq_true e)]
          refine ⟨_, rfl, .inl ⟨rfl, _, SqL.of eF'⟩, _, rfl, ⟨_, rfl⟩, _, rfl, b, n + 20 + m + 9 * i, 8, rfl, bx, by omega, by decide, by decide, fun Ha t fa ba t0 t1 => ?_⟩
          refine ⟨t, rfl, by omega, by omega, fun L nL => ?_⟩
          have hLb : L ≠ b := ba.ne_new nL
          have eFa : Ha F = some (.lst (ss.map V.str)) := fa _ _ eF' hFb
          have nL0 : H' L = none := fa.free hLb nL
          refine lc_range (lo := 0) (n := t.toNat) (fun u H2 => LwB.Fr b H' H2 ∧ Bx (n + 20 + m + 9 * i + 1 + u) H2 b ∧ ∃ es : List Nat, H2 L = some (.lst (es.map gv)) ∧ es.length = u ∧ ∀ c ∈ es, Letter c)
            ⟨fa.young nL0, ba.new nL, [], upd_same, rfl, fun c h => nomatch h⟩ ?_ ?_
          · rintro u H2 hu ⟨fr2, bx2, es, e2, hl2, hc2⟩
            refine ⟨rfl, ?_⟩
            show tCall spOf [] E0 (tCons (tVar 0) (tCons (tVar 2) tNil)) _ _ _
            refine ⟨_, rfl, _, rfl, b, n + 20 + m + 9 * i + 1 + u, _, _, rfl, bx2, by omega, goods_letters, by rw [List.length_map, tl_letters]; decide, fun H3 x fr3 bx3 hx => ?_⟩
            obtain ⟨e, he, rfl⟩ := mem_gv hx
            refine ⟨_, fr3 _ _ e2 hLb, ?_, (fr2.trans fr3).young nL0, ?_, es ++ [e], ?_, ?_, ?_⟩
            · rw [List.length_map, hl2]
              exact small1000 (by omega)
            · exact (bx3.mono (by omega)).upd hLb
            · rw [upd_same, List.map_append]
              rfl
            · rw [List.length_append, List.length_singleton, hl2]
            · intro c' h'
              rcases List.mem_append.mp h' with h' | h'
              · exact hc2 c' h'
              · rw [List.mem_singleton.mp h']
                exact letter_of he
          rintro H2 ⟨fr2, bx2, es, e2, hl2, hc2⟩
          refine ⟨_, L, es.map one, rfl, rfl, .inl (SqL.of (by rw [vals_ones]; exact e2)), ?_, ?_⟩
          · rw [len_ones, List.length_map]
            show es.length + es.length * (Str.ofString "").length ≤ 16777216
            rw [show (Str.ofString "").length = 0 by decide +kernel]
            omega
          have ez : tl (Txt.join (Str.ofString "") (es.map one)) = es := tl_joined (by decide +kernel) _
          generalize Txt.join (Str.ofString "") (es.map one) = y at ez ⊢
          have eyl : y.length = es.length := by
            rw [← ez]
            exact Array.length_toList.symm
          have ezz : tl (one c ++ y) = c :: es := by
            rw [tl_append, ez]
            rfl
          have hLF : F ≠ L := ne_of_none eFa nL
          have eF2 : H2 F = some (.lst (ss.map V.str)) := fr2 _ _ eF' hFb
          refine ⟨one c, y, rfl, rfl, ?_, ?_⟩
          · rw [eyl]
            exact Nat.le_trans (show (one c).length + es.length ≤ 20 by show 1 + es.length ≤ 20; omega) (by decide)
          generalize one c ++ y = z at ezz ⊢
          refine ⟨F, _, _, rfl, rfl, eF2, by rw [List.length_map, hsl]; exact small1000 (by omega), ?_⟩
          refine ⟨_, rfl, (fr.trans fr2).young nF0, (bx2.mono (by omega)).upd hFb, by rw [upd_ne hpF]; exact fr2 _ _ hpk' hpb, by rw [upd_ne hFD]; exact fr2 _ _ eD' hDb, ss ++ [z], ?_, ?_, ?_, ?_⟩
          · rw [upd_same, List.map_append]
            rfl
          · rw [List.length_append, List.length_singleton, hsl]
          · intro y hy
            rcases List.mem_append.mp hy with hy | hy
            · exact hok y hy
            · rw [List.mem_singleton.mp hy]
              refine ⟨by rw [ezz]; exact Nat.succ_le_succ (Nat.zero_le _), by rw [ezz]; show es.length + 1 ≤ 8; omega, fun c' h' => ?_⟩
              rw [ezz] at h'
              rcases List.mem_cons.mp h' with h' | h'
              · rw [h']
                exact hcl
              · exact hc2 c' h'
          · refine key _ ?_
            rw [ezz, hj]
            rfl
    · rintro σ H' ⟨x8, rfl, fr, bx, hpk', eD', ss, eF', hsl, hok, hkey⟩
      refine ⟨_, rfl, q H' F ss fr (bx.mono ?_) nF0 eF' ⟨hok, ?_⟩ ?_⟩
      · rw [List.length_map, hyl2]
        omega
      · refine nodup_key (f := fun z => (tl z)[j]?) ?_
        rw [hkey, List.length_map, List.take_length]
        exact nodup_some dnod
      · rw [hsl, List.length_map, hyl2]
end
end K10
namespace K10
open PySem PySem.Spec PyProof.Rows L2 IqX RvT LwB EnS TL
section
variable {P : Program} {w : World} {K : PySem.W.Frag} {mg : Str → Option Value} {base : Heap}
theorem ok__law_lies (D : Df K mg "_law_lies" s__law_lies ["_law_verse", "_law_row"]) (B : Bn mg) : Ok P w K mg base 1 "_law_lies" ["_law_verse", "_law_row"] spLies := by
  refine D.ok sc__law_lies (fun vs H Q E h => ?_) (fun f cdv A outer s H vs Q E hr h => ?_)
  · obtain ⟨_, _, _, _, _, _, rfl, _⟩ := h
    rfl
  · obtain ⟨b1, b2, a, c, ws, es, rfl, hw, he, hlen, q⟩ := h
    have nd := sc__law_lies.nd
    refine ⟨_, pss_cons (ps_set (i := 2) nd rfl (.inl rfl) pe_int)
      (pss_cons (ps_for PassesOwn.never rfl (pi_seq (pv 1)) (pg_name (i := 3) nd rfl (.inl rfl))
        (pss_one (ps_set (i := 2) nd rfl (.inl rfl) (pe_op op_add (pv 2) (pe_int1 B.int (pa_cons
          (pe_and (pe_cmpR op_lt (pv 2) (pe_len B.len (pa_cons (pv 0) pa_nil)) (nomark _)) (pe_one (pe_cmpR op_eq (pe_ix ix_sq (pv 0) (pv 2) (fun _ _ => rfl)) (pv 3) (nomark _)))) pa_nil))))))
      (pss_one (ps_ret (pe_cmpR op_eq (pv 2) (pe_len B.len (pa_cons (pv 0) pa_nil)) (nomark _))))), ?_⟩
    refine ⟨.ref c, rfl, b2, c, rfl, ⟨_, he.B⟩, for_seq (K := K) (b := b2) (a := c) (xs := es.map V.str)
      (fun i σ H' => ∃ (k : Nat) (x3 : Option V), σ = [some (.ref a), some (.ref c), some (.int k), x3] ∧ H' = H ∧ k ≤ ws.length ∧ mt ws es = k + mt (ws.drop k) (es.drop i))
      ⟨0, none, rfl, rfl, Nat.zero_le _, by rw [List.drop_zero, List.drop_zero]; omega⟩ (fun i σ H' _ ⟨_, _, _, e, _⟩ => by rw [e]; exact he.B) ?_ ?_⟩
    · rintro i x σ H' hi ⟨k, x3, rfl, rfl, hk, em⟩
      obtain ⟨z, hz, rfl⟩ := map_get hi
      refine ⟨_, rfl, _, rfl, .ref a, rfl, b1, a, _, rfl, hw, _, _, rfl, rfl, _, rfl, ite2 (fun h1 => ?_) (fun h1 => ?_)⟩
      · have hlt : k < ws.length := by
          have := of_decide_eq_true h1
          rw [List.length_map] at this
          omega
        have hwz : ws[k]? = some ws[k] := List.getElem?_eq_getElem hlt
        refine ⟨.ref a, rfl, _, rfl, b1, a, _, k, .str ws[k], rfl, rfl, hw, atI_nat (get_map hwz), _, rfl, rfl, .inr ⟨_, rfl, _, _, rfl, rfl, ?_⟩⟩
        by_cases e : ws[k] = z
        · refine ⟨k + 1, some (.str z), ?_, rfl, hlt, ?_⟩
          · rw [e, decide_eq_true rfl]
            rfl
          · rw [em, drop_at hz, drop_at hwz, mt_hit e.symm]
            omega
        · refine ⟨k, some (.str z), ?_, rfl, hk, ?_⟩
          · rw [decide_eq_false (fun q => e (V.str.inj q))]
            show [some (V.ref a), some (V.ref c), some (V.int ((k : Int) + 0)), some (V.str z)] = _
            rw [Int.add_zero]
          · rw [em, drop_at hz, drop_at hwz, mt_miss fun q => e q.symm]
      · have hge : ws.length ≤ k := by
          have : ¬ (decide (_ < _) = true) := h1
          rw [decide_eq_true_eq, List.length_map] at this
          omega
        refine .inr ⟨_, rfl, _, _, rfl, rfl, ?_⟩
        refine ⟨k, some (.str z), ?_, rfl, hk, ?_⟩
        · show [some (V.ref a), some (V.ref c), some (V.int ((k : Int) + 0)), some (V.str z)] = _
          rw [Int.add_zero]
        · rw [em, List.drop_eq_nil_of_le hge, mt_nil, mt_nil]
    · rintro σ H' ⟨k, x3, rfl, rfl, hk, em⟩
      refine ⟨_, rfl, .ref a, rfl, b1, a, _, rfl, hw, rfl, ?_⟩
      have e : decide (V.int (k : Int) = V.int (((ws.map V.str).length : Nat) : Int)) = isPart ws es := by
        rw [isPart_mt, em, List.length_map, List.length_map, List.drop_length, mt_end]
        by_cases h : k = ws.length
        · rw [h]
          simp
        · rw [decide_eq_false (by intro q; have := V.int.inj q; omega), decide_eq_false (by omega)]
      show Q (V.bl (decide (V.int (k : Int) = V.int (((ws.map V.str).length : Nat) : Int)))) _
      rw [e]
      exact q
theorem ok__law_event_row (D : Df K mg "_law_event_row" s__law_event_row ["_law_box_here", "_law_tags", "_law_most"]) (B : Bn mg) (OT : Ok P w K mg base 1 "_law_take" ["_law_box_here", "_law_size_so"] spTake) (OO : Ok P w K mg base 2 "_law_of" ["_law_box_here", "_law_goods_so"] spOf) :
    Ok P w K mg base 3 "_law_event_row" ["_law_box_here", "_law_tags", "_law_most"] spRow := by
  refine D.ok sc__law_event_row (fun vs H Q E h => ?_) (fun f cdv A outer s H vs Q E hr h => ?_)
  · obtain ⟨_, _, _, _, _, rfl, _⟩ := h
    rfl
  · obtain ⟨b, l, n, m, ss, rfl, hb, hn, hlb, hl, hsl, hs0, hm, q⟩ := h
    have nd := sc__law_event_row.nd
    have hr1 : Room 1 _ := hr.mono (by decide)
    refine ⟨_, pss_one (ps_ret (pe_tupQ B.tuple (pa_cons (pe_lc (own := [("_law_turn", 3)]) (g := gName 3) (by rfl) nd (pi_range1 (by rfl) B.range (pa_cons (pe_c OT hr1 (pa_cons (pv 0) (pa_cons (pe_op op_add (pv 2) pe_int) pa_nil))) pa_nil))
        (blkOk_by (N := ["_law_box_here", "_law_tags", "_law_most", "_law_turn"]) (sc := defScope s__law_event_row) (by decide +kernel))
        (fun _ _ _ _ _ => pg_name (i := 3) nd rfl (.inl rfl)) (fun _ _ _ _ _ => pts_nil) (fun _ _ _ _ _ => pe_c OO hr (pa_cons (pv 0) (pa_cons (pv 1) pa_nil)))) pa_nil))), ?_⟩
    refine ⟨_, rfl, _, rfl, _, _, rfl, rfl, b, n, _, rfl, hb, by omega, by omega, by omega, fun H1 t f1 b1 t0 t1 => ?_⟩
    refine ⟨t, rfl, by omega, by omega, fun L nL => ?_⟩
    have hLb : L ≠ b := b1.ne_new nL
    have nL0 : H L = none := f1.free hLb nL
    refine lc_range (lo := 0) (n := t.toNat) (fun u H2 => LwB.Fr b H H2 ∧ Bx (n + 1 + u) H2 b ∧ ∃ es : List Str, H2 L = some (.lst (es.map V.str)) ∧ es.length = u ∧ ∀ e ∈ es, e ∈ ss)
      ⟨f1.young nL0, b1.new nL, [], upd_same, rfl, fun c h => nomatch h⟩ ?_ ?_
    · rintro u H2 hu ⟨fr2, bx2, es, e2, hl2, hc2⟩
      refine ⟨rfl, ?_⟩
      show tCall spOf [] E0 (tCons (tVar 0) (tCons (tVar 1) tNil)) _ _ _
      refine ⟨_, rfl, _, rfl, b, n + 1 + u, _, _, rfl, bx2, by omega, .inr ⟨true, l, rfl, hlb, fr2.sq hlb hl, by rw [List.length_map]; exact hsl⟩, by rw [List.length_map]; exact hs0, fun H3 x fr3 bx3 hx => ?_⟩
      obtain ⟨e, he, rfl⟩ := List.mem_map.mp hx
      refine ⟨_, fr3 _ _ e2 hLb, ?_, (fr2.trans fr3).young nL0, ?_, es ++ [e], ?_, ?_, ?_⟩
      · rw [List.length_map, hl2]
        exact small1000 (by omega)
      · exact (bx3.mono (by omega)).upd hLb
      · rw [upd_same, List.map_append]
        rfl
      · rw [List.length_append, List.length_singleton, hl2]
      · intro c' h'
        rcases List.mem_append.mp h' with h' | h'
        · exact hc2 c' h'
        · rw [List.mem_singleton.mp h']
          exact he
    rintro H2 ⟨fr2, bx2, es, e2, hl2, hc2⟩
    refine ⟨true, L, _, rfl, .lst e2, fun H3 p s3 hp => ?_⟩
    have b3 : Bx (n + 1 + m) H3 b := (bx2.mono (by omega)).same s3
    exact q H3 p es (fr2.trans (Fr.same s3)) b3 hp (hp.ne_box b3) (by omega) hc2
theorem ok__law_left (D : Df K mg "_law_left" s__law_left ["_law_verse", "_law_row"]) (B : Bn mg) (OL : Ok P w K mg base 1 "_law_lies" ["_law_verse", "_law_row"] spLies) : Ok P w K mg base 2 "_law_left" ["_law_verse", "_law_row"] spLeft := by
  refine D.ok sc__law_left (fun vs H Q E h => ?_) (fun f cdv A outer s H vs Q E hr h => ?_)
  · obtain ⟨_, _, _, _, rfl, _⟩ := h
    rfl
  · obtain ⟨a, c, ws, es, rfl, hw, he, hlen, q⟩ := h
    have nd := sc__law_left.nd
    refine ⟨_, pss_cons (ps_setLc (i := 2) (own := [("_law_k", 3)]) (g := gName 3) rfl nd rfl rfl (sw_true rfl rfl rfl (by decide +kernel)) (pi_range1 (by rfl) B.range (pa_cons (pe_op op_add (pe_len B.len (pa_cons (pv 0) pa_nil)) pe_int) pa_nil))
        (blkOk_by (N := ["_law_verse", "_law_row", "_law_sizes", "_law_k"]) (sc := defScope s__law_left) (by decide +kernel))
        (fun _ _ _ _ _ => pg_name (i := 3) nd rfl (.inl rfl)) (fun _ _ _ _ _ => pts_one (pt_val (pe_c OL hr (pa_cons (pe_slice sl_sq (pv 0) po_none (po_some (pv 3))) (pa_cons (pv 1) pa_nil))))) (fun _ _ _ _ _ => pv 3))
      (pss_one (ps_ret (pe_slice sl_sq (pv 0) (po_some (pe_callB (cr_max rfl) (by rfl) B.max (by decide +kernel) (pa_cons (pv 2) pa_nil))) po_none))), ?_⟩
    refine ⟨.ref a, rfl, false, a, _, rfl, hw, _, _, rfl, rfl, _, rfl, by rw [List.length_map]; omega, by rw [List.length_map]; omega, fun L nL => ?_⟩
    refine lc_range (lo := 0) (n := (((ws.map V.str).length : Nat) + 1 : Int).toNat) (fun i H' => Same H H' ∧ ∃ ks : List Int, H' L = some (.lst (ks.map V.int)) ∧ ks.length ≤ i ∧ ∀ k : Int, k ∈ ks ↔ (0 ≤ k ∧ k < i ∧ k ≤ mt ws es))
      ⟨same_new nL, [], upd_same, Nat.le_refl _, fun k => ⟨(fun h => nomatch h), fun h => by omega⟩⟩ ?_ ?_
    · rintro i H2 hi ⟨sm, ks, e2, hl2, hk2⟩
      rw [List.length_map] at hi
      have hiw : i ≤ ws.length := by omega
      refine ⟨rfl, .ref a, rfl, _, rfl, _, rfl, false, a, _, rfl, sm.sq hw, fun H3 p s3 _ hp => ?_⟩
      rw [show (0 : Int) + (i : Int) = ((i : Nat) : Int) by omega, cut_to, ← List.map_take] at hp
      refine ⟨_, rfl, false, false, p, c, ws.take i, es, rfl, hp, (sm.trans s3).sq he, by rw [List.length_take]; omega, _, rfl, ?_⟩
      rw [isPart_take es ws i hiw]
      have e3 : H3 L = some (.lst (ks.map V.int)) := s3 _ _ e2
      refine ite2 (fun h1 => ?_) (fun h1 => ?_)
      · have h1' := of_decide_eq_true h1
        refine ⟨_, rfl, _, e3, by rw [List.length_map]; exact small1000 (by omega), Same.young (sm.trans s3) nL, ks ++ [0 + (i : Int)], by rw [upd_same, List.map_append]; rfl, by rw [List.length_append, List.length_singleton]; omega, fun k => ?_⟩
        rw [List.mem_append, List.mem_singleton, hk2]
        omega
      · have h1' : ¬ i ≤ mt ws es := fun h => h1 (decide_eq_true h)
        refine ⟨sm.trans s3, ks, e3, by omega, fun k => ?_⟩
        rw [hk2]
        omega
    · rintro H2 ⟨sm, ks, e2, hl2, hk2⟩
      have hmt := mt_le ws es
      rw [List.length_map] at hk2
      have hM : (mt ws es : Int) ∈ ks := (hk2 _).mpr ⟨by omega, by omega, by omega⟩
      refine ⟨.ref a, rfl, .ref L, rfl, L, ks, rfl, SqL.of e2, List.length_pos_of_mem hM, fun m hm hmax => ⟨m, rfl, ?_⟩⟩
      have hm1 := (hk2 m).mp hm
      have hm2 := hmax _ hM
      have em : m = ((mt ws es : Nat) : Int) := by omega
      refine ⟨false, a, _, rfl, sm.sq hw, fun H3 p s3 _ hp => ?_⟩
      rw [em, cut_from, ← List.map_drop] at hp
      exact q H3 p (sm.trans s3) hp
theorem ok__law_front_left (D : Df K mg "_law_front_left" s__law_front_left ["_law_verse", "_law_row"]) (B : Bn mg) (OL : Ok P w K mg base 1 "_law_lies" ["_law_verse", "_law_row"] spLies) : Ok P w K mg base 2 "_law_front_left" ["_law_verse", "_law_row"] spFrontL := by
  refine D.ok sc__law_front_left (fun vs H Q E h => ?_) (fun f cdv A outer s H vs Q E hr h => ?_)
  · obtain ⟨_, _, _, _, rfl, _⟩ := h
    rfl
  · obtain ⟨a, c, ws, es, rfl, hw, he, hlen, q⟩ := h
    have nd := sc__law_front_left.nd
    refine ⟨_, pss_cons (ps_setLc (i := 2) (own := [("_law_k", 3)]) (g := gName 3) rfl nd rfl rfl (sw_true rfl rfl rfl (by decide +kernel)) (pi_range1 (by rfl) B.range (pa_cons (pe_op op_add (pe_len B.len (pa_cons (pv 0) pa_nil)) pe_int) pa_nil))
        (blkOk_by (N := ["_law_verse", "_law_row", "_law_sizes", "_law_k"]) (sc := defScope s__law_front_left) (by decide +kernel))
        (fun _ _ _ _ _ => pg_name (i := 3) nd rfl (.inl rfl)) (fun _ _ _ _ _ => pts_one (pt_val (pe_c OL hr (pa_cons (pe_slice sl_sq (pv 0) (po_some (pe_op op_sub (pe_len B.len (pa_cons (pv 0) pa_nil)) (pv 3))) po_none) (pa_cons (pv 1) pa_nil))))) (fun _ _ _ _ _ => pv 3))
      (pss_one (ps_ret (pe_slice sl_sq (pv 0) po_none (po_some (pe_op op_sub (pe_len B.len (pa_cons (pv 0) pa_nil)) (pe_callB (cr_max rfl) (by rfl) B.max (by decide +kernel) (pa_cons (pv 2) pa_nil))))))), ?_⟩
    refine ⟨.ref a, rfl, false, a, _, rfl, hw, _, _, rfl, rfl, _, rfl, by rw [List.length_map]; omega, by rw [List.length_map]; omega, fun L nL => ?_⟩
    refine lc_range (lo := 0) (n := (((ws.map V.str).length : Nat) + 1 : Int).toNat) (fun i H' => Same H H' ∧ ∃ ks : List Int, H' L = some (.lst (ks.map V.int)) ∧ ks.length ≤ i ∧ ∀ k : Int, k ∈ ks ↔ (0 ≤ k ∧ k < i ∧ k ≤ mt ws.reverse es.reverse))
      ⟨same_new nL, [], upd_same, Nat.le_refl _, fun k => ⟨(fun h => nomatch h), fun h => by omega⟩⟩ ?_ ?_
    · rintro i H2 hi ⟨sm, ks, e2, hl2, hk2⟩
      rw [List.length_map] at hi
      have hiw : i ≤ ws.length := by omega
      refine ⟨rfl, .ref a, rfl, .ref a, rfl, false, a, _, rfl, sm.sq hw, _, rfl, _, _, rfl, rfl, _, rfl, false, a, _, rfl, sm.sq hw, fun H3 p s3 _ hp => ?_⟩
      rw [List.length_map, show ((ws.length : Nat) : Int) - ((0 : Int) + (i : Int)) = ((ws.length - i : Nat) : Int) by omega, cut_from, ← List.map_drop] at hp
      refine ⟨_, rfl, false, false, p, c, ws.drop (ws.length - i), es, rfl, hp, (sm.trans s3).sq he, by rw [List.length_drop]; omega, _, rfl, ?_⟩
      have e1 : isPart (ws.drop (ws.length - i)) es = decide (i ≤ mt ws.reverse es.reverse) := by
        rw [← isPart_rev, ← isPart_take es.reverse ws.reverse i (by rw [List.length_reverse]; exact hiw), List.take_reverse]
      rw [e1]
      have e3 : H3 L = some (.lst (ks.map V.int)) := s3 _ _ e2
      refine ite2 (fun h1 => ?_) (fun h1 => ?_)
      · have h1' := of_decide_eq_true h1
        refine ⟨_, rfl, _, e3, by rw [List.length_map]; exact small1000 (by omega), Same.young (sm.trans s3) nL, ks ++ [0 + (i : Int)], by rw [upd_same, List.map_append]; rfl, by rw [List.length_append, List.length_singleton]; omega, fun k => ?_⟩
        rw [List.mem_append, List.mem_singleton, hk2]
        omega
      · have h1' : ¬ i ≤ mt ws.reverse es.reverse := fun h => h1 (decide_eq_true h)
        refine ⟨sm.trans s3, ks, e3, by omega, fun k => ?_⟩
        rw [hk2]
        omega
    · rintro H2 ⟨sm, ks, e2, hl2, hk2⟩
      have hmt := mt_le ws.reverse es.reverse
      rw [List.length_reverse] at hmt
      rw [List.length_map] at hk2
      have hM : (mt ws.reverse es.reverse : Int) ∈ ks := (hk2 _).mpr ⟨by omega, by omega, by omega⟩
      refine ⟨.ref a, rfl, .ref a, rfl, false, a, _, rfl, sm.sq hw, .ref L, rfl, L, ks, rfl, SqL.of e2, List.length_pos_of_mem hM, fun m hm hmax => ⟨_, _, rfl, rfl, _, rfl, ?_⟩⟩
      have hm1 := (hk2 m).mp hm
      have hm2 := hmax _ hM
      have em : m = ((mt ws.reverse es.reverse : Nat) : Int) := by omega
      refine ⟨false, a, _, rfl, sm.sq hw, fun H3 p s3 _ hp => ?_⟩
      rw [em, List.length_map, show ((ws.length : Nat) : Int) - ((mt ws.reverse es.reverse : Nat) : Int) = ((ws.length - mt ws.reverse es.reverse : Nat) : Int) by omega, cut_to, ← List.map_take, ← frontOf_take] at hp
      exact q H3 p (sm.trans s3) hp
end
end K10
namespace K10
open PySem PySem.Spec PyProof.Rows L2 IqX RvT LwB EnS TL
section
variable {P : Program} {w : World} {K : PySem.W.Frag} {mg : Str → Option Value} {base : Heap}
theorem kw_rest : Kw2 "rest" s_rest ["word", "log"] ["log", "word"] := fun _ _ _ _ _ _ _ _ => rfl
theorem kw_front : Kw2 "front" s_front ["word", "log"] ["log", "word"] := fun _ _ _ _ _ _ _ _ => rfl
theorem ok__law_word_right (D : Df K mg "_law_word_right" s__law_word_right ["_law_verse", "_law_row", "_law_more"]) (B : Bn mg) (OLf : Ok P w K mg base 2 "_law_left" ["_law_verse", "_law_row"] spLeft) (OFl : Ok P w K mg base 2 "_law_front_left" ["_law_verse", "_law_row"] spFrontL)
    (OR : Ok P w K mg base 2 "rest" ["word", "log"] spRest) (DR : Df K mg "rest" s_rest ["word", "log"]) (OF : Ok P w K mg base 3 "front" ["word", "log"] spFront) (DF : Df K mg "front" s_front ["word", "log"])
    (OP : Ok P w K mg base 1 "is_part" ["word", "log"] spPart) (OL : Ok P w K mg base 1 "_law_lies" ["_law_verse", "_law_row"] spLies) (OS : Ok P w K mg base 3 "_law_same" ["_law_got", "_law_due"] (spSame 3)) :
    Ok P w K mg base 4 "_law_word_right" ["_law_verse", "_law_row", "_law_more"] spTrue3 := by
  refine D.ok sc__law_word_right (fun vs H Q E h => ?_) (fun f cdv A outer s H vs Q E hr h => ?_)
  · obtain ⟨_, _, _, _, _, _, rfl, _⟩ := h
    rfl
  · obtain ⟨a, c, d, ws, es, ms, rfl, hw, he, hm, lw, le, lm, q⟩ := h
    have nd := sc__law_word_right.nd
    have hr1 : Room 1 _ := hr.mono (by decide)
    have hr2 : Room 2 _ := hr.mono (by decide)
    refine ⟨_, pss_cons (ps_par (i := 3) (j := 4) (by rfl) nd rfl rfl (by decide) rfl rfl (pa_cons (pe_c OLf hr2 (pa_cons (pv 0) (pa_cons (pv 1) pa_nil))) (pa_cons (pe_c OFl hr2 (pa_cons (pv 0) (pa_cons (pv 1) pa_nil))) pa_nil)) (by rfl))
      (pss_cons (ps_par (i := 5) (j := 6) (by rfl) nd rfl rfl (by decide) rfl rfl (pa_cons (pe_listQ B.list (pa_cons (pv 1) pa_nil)) (pa_cons (pe_listQ B.list (pa_cons (pv 0) pa_nil)) pa_nil)) (by rfl))
      (pss_cons (ps_set (i := 7) nd rfl (.inl rfl) (pe_lst (pa_cons (pe_c OR hr2 (pa_cons (pv 0) (pa_cons (pv 1) pa_nil))) (pa_cons (pe_kw2 OR DR kw_rest hr2 (pk_cons (pv 5) (pk_cons (pv 6) pk_nil)))
        (pa_cons (pe_c OF hr (pa_cons (pv 0) (pa_cons (pv 1) pa_nil))) (pa_cons (pe_kw2 OF DF kw_front hr (pk_cons (pv 5) (pk_cons (pv 6) pk_nil))) pa_nil))))))
      (pss_cons (ps_if (pt_not (pt_val (pe_c OS hr (pa_cons (pv 7) (pa_cons (pe_op op_cat (pe_op op_rep (pe_lst (pa_cons (pv 3) pa_nil)) pe_int) (pe_op op_rep (pe_lst (pa_cons (pv 4) pa_nil)) pe_int)) pa_nil))))) (pss_one (ps_ret pe_bl)) pss_nil)
      (pss_cons (ps_set (i := 7) nd rfl (.inl rfl) (pe_lst (pa_cons (pe_c OP hr1 (pa_cons (pv 0) (pa_cons (pe_op op_catQ (pv 1) (pv 2)) pa_nil))) (pa_cons (pe_c OP hr1 (pa_cons (pv 0) (pa_cons (pe_op op_catQ (pv 2) (pv 1)) pa_nil))) pa_nil))))
      (pss_one (ps_ret (pe_c OS hr (pa_cons (pv 7) (pa_cons (pe_lst (pa_cons (pe_c OL hr1 (pa_cons (pv 3) (pa_cons (pv 2) pa_nil))) (pa_cons (pe_c OL hr1 (pa_cons (pv 4) (pa_cons (pv 2) pa_nil))) pa_nil))) pa_nil))))))))), ?_⟩
    refine ⟨_, rfl, _, rfl, a, c, ws, es, rfl, hw, he, by omega, fun H1 p1 s1 h1 => ?_⟩
    refine ⟨_, rfl, _, rfl, a, c, ws, es, rfl, s1.sq hw, s1.sq he, by omega, fun H2 p2 s2 h2 => ⟨_, _, rfl, ?_⟩⟩
    refine ⟨_, rfl, false, c, _, rfl, (s1.trans s2).sq he, fun H3 p3 n3 => ?_⟩
    refine ⟨_, rfl, false, a, _, rfl, (s1.trans (s2.trans n3.1)).sq hw, fun H4 p4 n4 => ⟨_, _, rfl, ?_⟩⟩
    have s4 : Same H H4 := s1.trans (s2.trans (n3.1.trans n4.1))
    have hp1 : Sq false H4 p1 ((restOf ws es).map V.str) := (s2.trans (n3.1.trans n4.1)).sq h1
    have hp2 : Sq false H4 p2 ((frontOf ws es).map V.str) := (n3.1.trans n4.1).sq h2
    have hp3 : Sq true H4 p3 (es.map V.str) := n4.1.sq (.lst n3.2.2)
    have hp4 : Sq true H4 p4 (ws.map V.str) := .lst n4.2.2
    refine ⟨_, rfl, _, rfl, false, false, a, c, ws, es, rfl, s4.sq hw, s4.sq he, by omega, fun H5 q1 t1 k1 => ?_⟩
    refine ⟨_, rfl, _, rfl, _, _, rfl, true, true, p4, p3, ws, es, rfl, t1.sq hp4, t1.sq hp3, by omega, fun H6 q2 t2 k2 => ?_⟩
    refine ⟨_, rfl, _, rfl, false, false, a, c, ws, es, rfl, (s4.trans (t1.trans t2)).sq hw, (s4.trans (t1.trans t2)).sq he, by omega, fun H7 q3 t3 k3 => ?_⟩
    refine ⟨_, rfl, _, rfl, _, _, rfl, true, true, p4, p3, ws, es, rfl, (t1.trans (t2.trans t3)).sq hp4, (t1.trans (t2.trans t3)).sq hp3, by omega, fun H8 q4 t4 k4 => ?_⟩
    refine ⟨by show 4 ≤ sizeLine; decide, fun g ng => ?_⟩
    have t8 : Same H4 H8 := t1.trans (t2.trans (t3.trans t4))
    have sg := same_new (o := HO.lst [V.ref q1, V.ref q2, V.ref q3, V.ref q4]) ng
    refine ⟨_, rfl, .ref p1, rfl, by show 1 ≤ sizeLine; decide, fun u1 nu1 => ?_⟩
    refine ⟨u1, 2, [V.ref p1], rfl, rfl, upd_same, by decide, by decide, (show 2 ≤ sizeLine by decide), fun u2 nu2 => ?_⟩
    refine ⟨.ref p2, rfl, by show 1 ≤ sizeLine; decide, fun u3 nu3 => ?_⟩
    refine ⟨u3, 2, [V.ref p2], rfl, rfl, upd_same, by decide, by decide, (show 2 ≤ sizeLine by decide), fun u4 nu4 => ?_⟩
    have h24 : u2 ≠ u3 := ne_of_none upd_same nu3
    have h25 : u2 ≠ u4 := ne_of_none (by rw [upd_ne h24]; exact upd_same) nu4
    refine ⟨u2, u4, [V.ref p1, V.ref p1], [V.ref p2, V.ref p2], rfl, rfl, by rw [upd_ne h25, upd_ne h24]; exact upd_same, upd_same, (show 4 ≤ sizeLine by decide), fun u5 nu5 => ?_⟩
    have sA := (same_new (o := HO.lst [V.ref p1]) nu1).trans (same_new (o := HO.lst [V.ref p1, V.ref p1]) nu2)
    have sB := sA.trans ((same_new (o := HO.lst [V.ref p2]) nu3).trans ((same_new (o := HO.lst [V.ref p2, V.ref p2]) nu4).trans (same_new (o := HO.lst [V.ref p1, V.ref p1, V.ref p2, V.ref p2]) nu5)))
    have eg := sB _ _ (upd_same (H := H8) (a := g) (o := HO.lst [V.ref q1, V.ref q2, V.ref q3, V.ref q4]))
    have sC : Same H4 _ := t8.trans (sg.trans sB)
    have sD : Same H5 _ := t2.trans (t3.trans (t4.trans (sg.trans sB)))
    have sE : Same H6 _ := t3.trans (t4.trans (sg.trans sB))
    have sF : Same H7 _ := t4.trans (sg.trans sB)
    have sG : Same H8 _ := sg.trans sB
    have lr : (restOf ws es).length ≤ 1000000 := by rw [restOf_eq, List.length_drop]; omega
    have lf : (frontOf ws es).length ≤ 1000000 := by rw [frontOf_take, List.length_take]; omega
    have ek2 : (restOf ws.reverse es.reverse).reverse = frontOf ws es := rfl
    rw [ek2] at k3 k4
    refine ⟨.ref g, .ref u5, .sq true [trs false (restOf ws es), trs false (restOf ws es), trs false (frontOf ws es), trs false (frontOf ws es)], rfl,
      Is.sq (.lst eg) (show 4 ≤ 1000000 by decide) (.cons (.strs (.tup (sD.sq k1)) lr) (.cons (.strs (.tup (sE.sq k2)) lr) (.cons (.strs (.tup (sF.sq k3)) lf) (.cons (.strs (.tup (sG.sq k4)) lf) .nil)))),
      Is.sq (.lst upd_same) (show 4 ≤ 1000000 by decide) (.cons (.strs (.tup (sC.sq hp1)) lr) (.cons (.strs (.tup (sC.sq hp1)) lr) (.cons (.strs (.tup (sC.sq hp2)) lf) (.cons (.strs (.tup (sC.sq hp2)) lf) .nil)))), fun H9 s9 => ⟨true, rfl, iteF ?_⟩⟩
    have z9 : Same H4 H9 := sC.trans s9
    have w9 : Same H H9 := s4.trans z9
    refine ⟨_, rfl, _, rfl, _, rfl, c, d, _, _, rfl, rfl, w9.sq he, w9.sq hm, by rw [List.length_map, List.length_map]; omega, fun Ha pa sa ha => ?_⟩
    rw [← List.map_append] at ha
    refine ⟨false, false, a, pa, ws, es ++ ms, rfl, (w9.trans sa).sq hw, ha, fun Hb sb => ?_⟩
    have wb := w9.trans (sa.trans sb)
    refine ⟨_, rfl, _, rfl, _, rfl, d, c, _, _, rfl, rfl, wb.sq hm, wb.sq he, by rw [List.length_map, List.length_map]; omega, fun Hc pc sc hc => ?_⟩
    rw [← List.map_append] at hc
    refine ⟨false, false, a, pc, ws, ms ++ es, rfl, (wb.trans sc).sq hw, hc, fun Hd sd => ?_⟩
    have wd := wb.trans (sc.trans sd)
    have zd : Same H4 Hd := z9.trans (sa.trans (sb.trans (sc.trans sd)))
    refine ⟨by show 2 ≤ sizeLine; decide, fun l nl => ?_⟩
    have sl := same_new (o := HO.lst [V.bl (isPart ws (es ++ ms)), V.bl (isPart ws (ms ++ es))]) nl
    refine ⟨_, rfl, _, rfl, _, rfl, false, false, p1, d, _, _, rfl, (zd.trans sl).sq hp1, (wd.trans sl).sq hm, by rw [restOf_eq, List.length_drop]; omega, ?_⟩
    refine ⟨_, rfl, _, rfl, false, false, p2, d, _, _, rfl, (zd.trans sl).sq hp2, (wd.trans sl).sq hm, by rw [frontOf_take, List.length_take]; omega, by show 2 ≤ sizeLine; decide, fun l2 nl2 => ?_⟩
    rw [isPart_rest, isPart_front] at *
    refine ⟨_, _, .sq true [.bl (isPart ws (es ++ ms)), .bl (isPart ws (ms ++ es))], rfl, Is.sq (xs := [V.bl (isPart ws (es ++ ms)), V.bl (isPart ws (ms ++ es))]) (.lst (by rw [upd_ne (ne_of_none upd_same nl2)]; exact upd_same)) (show 2 ≤ 1000000 by decide) (.cons .bl (.cons .bl .nil)),
      Is.sq (.lst upd_same) (show 2 ≤ 1000000 by decide) (.cons .bl (.cons .bl .nil)), fun Hz sz => ?_⟩
    exact q Hz (wd.trans (sl.trans ((same_new nl2).trans sz)))
end
end K10
namespace K10
open PySem PySem.Spec PyProof.Rows L2 IqX RvT LwB EnS TL
section
variable {P : Program} {w : World} {K : PySem.W.Frag} {mg : Str → Option Value} {base : Heap}
abbrev rowA : List Str := ["a", "b", "a"]
abbrev wsA : List (List Str) := [[], ["a"], ["a", "a", "b"], ["c", "a"], ["b", "a", "a"], ["a", "b", "a", "b"]]
abbrev wsB : List (List Str) := [[], ["a"], ["b", "a", "a"], ["a", "c"], ["a", "a", "b"], ["b", "a", "b", "a"]]
abbrev dueA : List (List Str) := [[], [], ["b"], ["c", "a"], ["a"], ["b"]]
abbrev dueB : List (List Str) := [[], [], ["b"], ["a", "c"], ["a"], ["b"]]
abbrev dueC : List (List Str) := [["a", "b"], ["a", "b"]]
theorem due_a : wsA.map (fun w => restOf w rowA) = dueA := by decide +kernel
theorem due_b : wsB.map (fun w => frontOf w rowA) = dueB := by decide +kernel
theorem due_c : [restOf ["a", "b"] [], frontOf ["a", "b"] []] = dueC := by decide +kernel
theorem ok__law_by_hand_right (D : Df K mg "_law_by_hand_right" s__law_by_hand_right []) (B : Bn mg) 
    (OR : Ok P w K mg base 2 "rest" ["word", "log"] spRest) (OF : Ok P w K mg base 3 "front" ["word", "log"] spFront) (OS : Ok P w K mg base 3 "_law_same" ["_law_got", "_law_due"] (spSame 3)) :
    Ok P w K mg base 4 "_law_by_hand_right" [] spTrue0 := by
  refine D.ok sc__law_by_hand_right (fun vs H Q E h => ?_) (fun f cdv A outer s H vs Q E hr h => ?_)
  · obtain ⟨rfl, _⟩ := h
    rfl
  · obtain ⟨rfl, q⟩ := h
    have nd := sc__law_by_hand_right.nd
    have hr2 : Room 2 _ := hr.mono (by decide)
    refine ⟨_, pss_cons (ps_set (i := 0) nd rfl (.inr rfl) (pl_tup (n := 0) (pl_cons pl_str (pl_cons pl_str (pl_cons pl_str pl_nil)))))
      (pss_cons (ps_setLc (i := 1) (own := [("_law_own", 4)]) (g := gName 4) rfl nd rfl rfl (sw_true rfl rfl rfl (by decide +kernel))
        (pi_seq (pl_tup (n := 1) (pl_cons (pl_tup pl_nil) (pl_cons (pl_tup (pl_cons pl_str pl_nil)) (pl_cons (pl_tup (pl_cons pl_str (pl_cons pl_str (pl_cons pl_str pl_nil)))) (pl_cons (pl_tup (pl_cons pl_str (pl_cons pl_str pl_nil)))
          (pl_cons (pl_tup (pl_cons pl_str (pl_cons pl_str (pl_cons pl_str pl_nil)))) (pl_cons (pl_tup (pl_cons pl_str (pl_cons pl_str (pl_cons pl_str (pl_cons pl_str pl_nil))))) pl_nil))))))))
        (blkOk_by (N := ["_law_row", "_law_got", "_law_due", "_law_some", "_law_own"]) (sc := defScope s__law_by_hand_right) (by decide +kernel))
        (fun _ _ _ _ _ => pg_name (i := 4) nd rfl (.inl rfl)) (fun _ _ _ _ _ => pts_nil) (fun _ _ _ _ _ => pe_c OR hr2 (pa_cons (pv 4) (pa_cons (pv 0) pa_nil))))
      (pss_cons (ps_set (i := 2) nd rfl (.inl rfl) (pl_lst (n := 1) (pl_cons (pl_tup pl_nil) (pl_cons (pl_tup pl_nil) (pl_cons (pl_tup (pl_cons pl_str pl_nil)) (pl_cons (pl_tup (pl_cons pl_str (pl_cons pl_str pl_nil))) (pl_cons (pl_tup (pl_cons pl_str pl_nil)) (pl_cons (pl_tup (pl_cons pl_str pl_nil)) pl_nil))))))))
      (pss_cons (ps_set (i := 3) nd rfl (.inl rfl) (pl_tup (n := 1) (pl_cons (pl_tup pl_nil) (pl_cons (pl_tup (pl_cons pl_str pl_nil)) (pl_cons (pl_tup (pl_cons pl_str (pl_cons pl_str (pl_cons pl_str pl_nil)))) (pl_cons (pl_tup (pl_cons pl_str (pl_cons pl_str pl_nil)))
          (pl_cons (pl_tup (pl_cons pl_str (pl_cons pl_str (pl_cons pl_str pl_nil)))) (pl_cons (pl_tup (pl_cons pl_str (pl_cons pl_str (pl_cons pl_str (pl_cons pl_str pl_nil))))) pl_nil))))))))
      (pss_cons (ps_set (i := 1) nd rfl (.inl rfl) (pe_op op_catX (pv 1) (pe_lc (own := [("_law_own", 4)]) (g := gName 4) (by rfl) nd (pi_seq (pv 3))
        (blkOk_by (N := ["_law_row", "_law_got", "_law_due", "_law_some", "_law_own"]) (sc := defScope s__law_by_hand_right) (by decide +kernel))
        (fun _ _ _ _ _ => pg_name (i := 4) nd rfl (.inl rfl)) (fun _ _ _ _ _ => pts_nil) (fun _ _ _ _ _ => pe_c OF hr (pa_cons (pv 4) (pa_cons (pv 0) pa_nil))))))
      (pss_cons (ps_set (i := 2) nd rfl (.inl rfl) (pe_op op_catX (pv 2) (pl_lst (n := 1) (pl_cons (pl_tup pl_nil) (pl_cons (pl_tup pl_nil) (pl_cons (pl_tup (pl_cons pl_str pl_nil)) (pl_cons (pl_tup (pl_cons pl_str (pl_cons pl_str pl_nil))) (pl_cons (pl_tup (pl_cons pl_str pl_nil)) (pl_cons (pl_tup (pl_cons pl_str pl_nil)) pl_nil)))))))))
      (pss_one (ps_ret (pe_c OS hr (pa_cons (pe_op op_catX (pv 1) (pe_lst (pa_cons (pe_c OR hr2 (pa_cons (pl_tup (n := 0) (pl_cons pl_str (pl_cons pl_str pl_nil))) (pa_cons (pl_tup (n := 0) pl_nil) pa_nil))) (pa_cons (pe_c OF hr (pa_cons (pl_tup (n := 0) (pl_cons pl_str (pl_cons pl_str pl_nil))) (pa_cons (pl_tup (n := 0) pl_nil) pa_nil))) pa_nil))))
        (pa_cons (pe_op op_catX (pv 2) (pl_lst (n := 1) (pl_cons (pl_tup (pl_cons pl_str (pl_cons pl_str pl_nil))) (pl_cons (pl_tup (pl_cons pl_str (pl_cons pl_str pl_nil))) pl_nil)))) pa_nil)))))))))), ?_⟩
    intro H1 v1 s1 i1
    obtain ⟨ar, rfl, hrow⟩ := Is.row (n := 0) (es := rowA) i1
    intro H2 v2 s2 i2
    obtain ⟨a2, xs2, rfl, h2, l2, p2⟩ := rows_of (n := 0) (t := false) (Ws := wsA) i2
    refine ⟨false, a2, rfl, ⟨xs2, h2.B⟩, fun D nD => ?_⟩
    have hrow2 := s2.sq hrow
    refine lc_seq (K := K) (b := false) (a := a2) (xs := xs2) (fun i H' => Same H2 H' ∧ ∃ ys, H' D = some (.lst ys) ∧ Paired (RowAt H') ((wsA.take i).map fun w => restOf w rowA) ys)
      ⟨same_new nD, [], upd_same, .nil⟩ (fun i H' _ h => (h.1.sq h2).B) ?_ ?_
    · rintro i x H' hx ⟨sm, ys, eD, py⟩
      obtain ⟨w, hw, ax, rfl, hax, lw⟩ := paired_get p2 hx
      have hlen := Paired.length py
      have hlen2 := Paired.length p2
      have hwl : w.length ≤ 1000 := by
        have : ∀ w ∈ wsA, w.length ≤ 1000 := by decide
        exact this w (List.mem_of_getElem? hw)
      refine ⟨rfl, ?_⟩
      show tCall spRest [] E0 (tCons (tVar 4) (tCons (tVar 0) tNil)) _ _ _
      refine ⟨_, rfl, _, rfl, false, false, ax, ar, w, rowA, rfl, sm.sq hax, sm.sq hrow2, hwl, fun H3 p s3 hp => ?_⟩
      have eD3 := s3 _ _ eD
      refine ⟨ys, eD3, ?_, Same.young (sm.trans s3) nD, ys ++ [.ref p], upd_same, ?_⟩
      · rw [← hlen, List.length_map, List.length_take]
        exact small1000 (by show min i 6 ≤ 1000; omega)
      · rw [List.take_add_one, hw, List.map_append]
        refine paired_snoc (paired_imp py fun _ _ z => (z.same s3).put eD3) ⟨p, rfl, Sq.put_list hp eD3, ?_⟩
        show (w.drop (LwB.mt w rowA)).length ≤ 1000000
        rw [List.length_drop]
        omega
    rintro H3 ⟨s3, ys, eD, py⟩
    rw [show xs2.length = 6 from (Paired.length p2).symm] at py
    have iG : Is H3 2 (trows true dueA) (.ref D) := rows_is eD (by rw [← Paired.length py]; decide) (by rw [← due_a]; exact py)
    intro H4 v4 s4 i4
    intro H5 v5 s5 i5
    obtain ⟨a5, xs5, rfl, h5, l5, p5⟩ := rows_of (n := 0) (t := false) (Ws := wsB) i5
    refine ⟨_, rfl, _, rfl, false, a5, rfl, ⟨xs5, h5.B⟩, fun D2 nD2 => ?_⟩
    have hrow5 := (s3.trans (s4.trans s5)).sq hrow2
    refine lc_seq (K := K) (b := false) (a := a5) (xs := xs5) (fun i H' => Same H5 H' ∧ ∃ ys, H' D2 = some (.lst ys) ∧ Paired (RowAt H') ((wsB.take i).map fun w => frontOf w rowA) ys)
      ⟨same_new nD2, [], upd_same, .nil⟩ (fun i H' _ h => (h.1.sq h5).B) ?_ ?_
    · rintro i x H' hx ⟨sm, ys, eD, py⟩
      obtain ⟨w, hw, ax, rfl, hax, lw⟩ := paired_get p5 hx
      have hlen := Paired.length py
      have hwl : w.length ≤ 1000 := by
        have : ∀ w ∈ wsB, w.length ≤ 1000 := by decide
        exact this w (List.mem_of_getElem? hw)
      refine ⟨rfl, ?_⟩
      show tCall spFront [] E0 (tCons (tVar 4) (tCons (tVar 0) tNil)) _ _ _
      refine ⟨_, rfl, _, rfl, false, false, ax, ar, w, rowA, rfl, sm.sq hax, sm.sq hrow5, hwl, fun H3 p s3 hp => ?_⟩
      have eD3 := s3 _ _ eD
      refine ⟨ys, eD3, ?_, Same.young (sm.trans s3) nD2, ys ++ [.ref p], upd_same, ?_⟩
      · rw [← hlen, List.length_map, List.length_take]
        exact small1000 (by show min i 6 ≤ 1000; omega)
      · rw [List.take_add_one, hw, List.map_append]
        refine paired_snoc (paired_imp py fun _ _ z => (z.same s3).put eD3) ⟨p, rfl, Sq.put_list hp eD3, ?_⟩
        show (frontOf w rowA).length ≤ 1000000
        rw [frontOf_take, List.length_take]
        omega
    rintro H6 ⟨s6, ys6, eD6, py6⟩
    rw [show xs5.length = 6 from (Paired.length p5).symm] at py6
    have iG2 : Is H6 2 (trows true dueB) (.ref D2) := rows_is eD6 (by rw [← Paired.length py6]; decide) (by rw [← due_b]; exact py6)
    refine ⟨1, dueA.map (trs false), dueB.map (trs false), iG.same (s4.trans (s5.trans s6)), iG2, by decide, fun H7 v7 s7 i7 => ?_⟩
    refine ⟨_, rfl, fun H8 v8 s8 i8 => ⟨1, dueA.map (trs false), dueB.map (trs false), i4.same (s5.trans (s6.trans (s7.trans s8))), i8, by decide, fun H9 v9 s9 i9 => ?_⟩⟩
    refine ⟨_, rfl, fun Ha va sa ia Hb vb sb ib => ?_⟩
    obtain ⟨pa, rfl, ha⟩ := Is.row (n := 0) (es := ["a", "b"]) ia
    obtain ⟨pb, rfl, hb⟩ := Is.row (n := 0) (es := []) ib
    refine ⟨false, false, pa, pb, ["a", "b"], [], rfl, sb.sq ha, hb, by decide, fun Hc pc sc hc => ?_⟩
    intro Hd vd sd id He ve se ie
    obtain ⟨pd, rfl, hd⟩ := Is.row (n := 0) (es := ["a", "b"]) id
    obtain ⟨pe, rfl, he⟩ := Is.row (n := 0) (es := []) ie
    refine ⟨false, false, pd, pe, ["a", "b"], [], rfl, se.sq hd, he, by decide, fun Hf pf sf hf => ?_⟩
    refine ⟨by show 2 ≤ sizeLine; decide, fun g ng => ?_⟩
    have sg := same_new (o := HO.lst [V.ref pc, V.ref pf]) ng
    have rC : RowAt (upd Hf g (.lst [V.ref pc, V.ref pf])) (restOf ["a", "b"] []) (.ref pc) := ⟨pc, rfl, (sd.trans (se.trans (sf.trans sg))).sq hc, by decide +kernel⟩
    have rF : RowAt (upd Hf g (.lst [V.ref pc, V.ref pf])) (frontOf ["a", "b"] []) (.ref pf) := ⟨pf, rfl, sg.sq hf, by decide +kernel⟩
    have iC : Is (upd Hf g (.lst [V.ref pc, V.ref pf])) 2 (trows true dueC) (.ref g) := rows_is upd_same (show 2 ≤ 1000000 by decide) (by rw [← due_c]; exact .cons rC (.cons rF .nil))
    have s79 : Same H7 _ := s8.trans (s9.trans (sa.trans (sb.trans (sc.trans (sd.trans (se.trans (sf.trans sg)))))))
    have s9g : Same H9 _ := sa.trans (sb.trans (sc.trans (sd.trans (se.trans (sf.trans sg)))))
    refine ⟨1, dueA.map (trs false) ++ dueB.map (trs false), dueC.map (trs false), i7.same s79, iC, by decide, fun Hx vx sx ix => ?_⟩
    refine ⟨_, rfl, fun Hy vy sy iy => ⟨1, dueA.map (trs false) ++ dueB.map (trs false), dueC.map (trs false), i9.same (s9g.trans (sx.trans sy)), iy, by decide, fun Hz vz sz iz => ?_⟩⟩
    refine ⟨vx, vz, _, rfl, ix.same (sy.trans sz), iz, fun H' s' => ?_⟩
    exact q H' (s1.trans (s2.trans (s3.trans (s4.trans (s5.trans (s6.trans (s7.trans (s79.trans (sx.trans (sy.trans (sz.trans s')))))))))))
end
end K10
namespace K10
open PySem PySem.Spec PyProof.Rows L2 IqX RvT LwB EnS TL
section
variable {P : Program} {w : World} {K : PySem.W.Frag} {mg : Str → Option Value} {base : Heap}
def spRightB : Sp := fun vs H Q _ => ∃ (b : Addr), vs = [.ref b] ∧ Bx 0 H b ∧ ∀ H', LwB.Fr b H H' → Q (.bl true) H'
theorem ok__law_right (D : Df K mg "_law_right" s__law_right ["_law_box_here"]) (B : Bn mg) (OH : Ok P w K mg base 4 "_law_by_hand_right" [] spTrue0) (OT : Ok P w K mg base 1 "_law_take" ["_law_box_here", "_law_size_so"] spTake)
    (ON : Ok P w K mg base 3 "_law_names" ["_law_box_here", "_law_much_so"] spNames) (OE : Ok P w K mg base 3 "_law_event_row" ["_law_box_here", "_law_tags", "_law_most"] spRow) (OW : Ok P w K mg base 4 "_law_word_right" ["_law_verse", "_law_row", "_law_more"] spTrue3) :
    Ok P w K mg base 5 "_law_right" ["_law_box_here"] spRightB := by
  refine D.ok sc__law_right (fun vs H Q E h => ?_) (fun f cdv A outer s H vs Q E hr h => ?_)
  · obtain ⟨_, rfl, _⟩ := h
    rfl
  · obtain ⟨b, rfl, hb, q⟩ := h
    have nd := sc__law_right.nd
    have hr1 : Room 1 _ := hr.mono (by decide)
    have hr3 : Room 3 _ := hr.mono (by decide)
    refine ⟨_, pss_cons (ps_if (pt_not (pt_val (pe_c0 OH hr))) (pss_one (ps_ret pe_bl)) pss_nil)
      (pss_cons (ps_for PassesOwn.never rfl (pi_range1 (by rfl) B.range (pa_cons pe_int pa_nil)) (pg_name (i := 1) nd rfl (.inl rfl))
        (pss_cons (ps_set (i := 2) nd rfl (.inl rfl) (pe_c ON hr3 (pa_cons (pv 0) (pa_cons (pe_op op_add pe_int (pe_c OT hr1 (pa_cons (pv 0) (pa_cons pe_int pa_nil)))) pa_nil))))
        (pss_cons (ps_par (i := 3) (j := 4) (by rfl) nd rfl rfl (by decide) rfl rfl (pa_cons (pe_c OE hr3 (pa_cons (pv 0) (pa_cons (pv 2) (pa_cons pe_int pa_nil))))
          (pa_cons (pe_c OE hr3 (pa_cons (pv 0) (pa_cons (pv 2) (pa_cons (pe_ifExp (pt_cmpR op_eq (pe_c OT hr1 (pa_cons (pv 0) (pa_cons pe_int pa_nil))) pe_int (nomark _)) pe_int pe_int) pa_nil)))) pa_nil)) (by rfl))
        (pss_one (ps_if (pt_not (pt_val (pe_c OW hr (pa_cons (pv 3) (pa_cons (pv 4) (pa_cons (pe_c OE hr3 (pa_cons (pv 0) (pa_cons (pv 2) (pa_cons pe_int pa_nil)))) pa_nil)))))) (pss_one (ps_ret pe_bl)) pss_nil)))))
      (pss_one (ps_ret pe_bl))), ?_⟩
    refine ⟨rfl, fun H1 s1 => ⟨true, rfl, iteF ?_⟩⟩
    refine ⟨6, rfl, by decide, by decide, for_range (lo := 0) (n := 6) (fun i σ H' => ∃ x1 x2 x3 x4 : Option V, σ = [some (.ref b), x1, x2, x3, x4] ∧ LwB.Fr b H H' ∧ Bx (1000 * i) H' b)
      ⟨none, none, none, none, rfl, Fr.same s1, hb.same s1⟩ ?_ ?_⟩
    · rintro i σ H2 hi ⟨x1, x2, x3, x4, rfl, fr, bx⟩
      refine ⟨_, rfl, _, rfl, b, 1000 * i, 4, rfl, bx, by omega, by decide, by decide, fun H3 t f3 b3 t0 t1 => ?_⟩
      obtain ⟨t, rfl⟩ := Int.eq_ofNat_of_zero_le t0
      refine ⟨1, t, rfl, rfl, b, 1000 * i + 1, 1 + t, rfl, b3, by omega, by omega, fun H4 l ss f4 b4 nl el hn hl => ?_⟩
      have hlb : l ≠ b := b3.ne_new nl
      refine ⟨_, rfl, _, rfl, b, l, 1000 * i + 1 + 400, 8, ss, rfl, b4, by omega, hlb, .lst el, by omega, by omega, by decide, fun H5 p5 e5 f5 b5 h5 n5 l5 _ => ?_⟩
      refine ⟨_, rfl, _, rfl, _, rfl, b, _, 3, rfl, b5, by omega, by decide, by decide, fun H6 u f6 b6 u0 u1 => ⟨rfl, _, rfl, ?_⟩⟩
      refine ite2 (fun _ => ?_) (fun _ => ?_)
      · refine ⟨b, l, 1000 * i + 1 + 400 + 1 + 8 + 1, 20, ss, rfl, b6, by omega, hlb, f6.sq hlb (f5.sq hlb (.lst el)), by omega, by omega, by decide, fun H7 p7 e7 f7 b7 h7 n7 l7 _ => ⟨_, _, rfl, ?_⟩⟩
        refine ⟨_, rfl, _, rfl, _, rfl, _, rfl, b, l, 1000 * i + 1 + 400 + 1 + 8 + 1 + 1 + 20, 8, ss, rfl, b7, by omega, hlb, f7.sq hlb (f6.sq hlb (f5.sq hlb (.lst el))), by omega, by omega, by decide, fun H8 p8 e8 f8 b8 h8 n8 l8 _ => ?_⟩
        refine ⟨p5, p7, p8, e5, e7, e8, rfl, f8.sq n5 (f7.sq n5 (f6.sq n5 h5)), f8.sq n7 h7, h8, by omega, by omega, by omega, fun H9 s9 => ⟨true, rfl, iteF ?_⟩⟩
        exact ⟨_, _, _, _, rfl, fr.trans (f3.trans (f4.trans (f5.trans (f6.trans (f7.trans (f8.trans (Fr.same s9))))))), (b8.same s9).mono (by omega)⟩
      · refine ⟨b, l, 1000 * i + 1 + 400 + 1 + 8 + 1, 6, ss, rfl, b6, by omega, hlb, f6.sq hlb (f5.sq hlb (.lst el)), by omega, by omega, by decide, fun H7 p7 e7 f7 b7 h7 n7 l7 _ => ⟨_, _, rfl, ?_⟩⟩
        refine ⟨_, rfl, _, rfl, _, rfl, _, rfl, b, l, 1000 * i + 1 + 400 + 1 + 8 + 1 + 1 + 6, 8, ss, rfl, b7, by omega, hlb, f7.sq hlb (f6.sq hlb (f5.sq hlb (.lst el))), by omega, by omega, by decide, fun H8 p8 e8 f8 b8 h8 n8 l8 _ => ?_⟩
        refine ⟨p5, p7, p8, e5, e7, e8, rfl, f8.sq n5 (f7.sq n5 (f6.sq n5 h5)), f8.sq n7 h7, h8, by omega, by omega, by omega, fun H9 s9 => ⟨true, rfl, iteF ?_⟩⟩
        exact ⟨_, _, _, _, rfl, fr.trans (f3.trans (f4.trans (f5.trans (f6.trans (f7.trans (f8.trans (Fr.same s9))))))), (b8.same s9).mono (by omega)⟩
    · rintro σ H' ⟨x1, x2, x3, x4, rfl, fr, bx⟩
      exact q H' fr
def spLaw (K : PySem.W.Frag) : Sp := fun vs H Q _ => ∃ (a : Addr) (ns : List Int), vs = [.ref a] ∧ SqL K H a (ns.map V.int) ∧ ns.length ≤ 63 ∧ ∀ H', Q (.bl true) H'
theorem fn_law {f : Addr} {fd : FuncData} (F : Fun K "law" "law" s_law f fd) (B : Bn mg) (OC : Ok P w K mg base 1 "_law_cells" ["_law_script", "_law_top_so"] (spCells K)) (OB : Ok P w K mg base 1 "_law_box" ["_law_script", "_law_k"] spBox) (OR : Ok P w K mg base 5 "_law_right" ["_law_box_here"] spRightB) :
    FnOk P w K mg base CX0 6 f fd ["_law_script"] (spLaw K) := by
  refine F.ok sc_law (fun vs H Q E h => ?_) (fun cdv A outer s H vs Q E hr h => ?_)
  · obtain ⟨_, _, rfl, _⟩ := h
    rfl
  · obtain ⟨a, ns, rfl, hS, hl, q⟩ := h
    have nd := sc_law.nd
    have hr1 : Room 1 _ := hr.mono (by decide)
    refine ⟨_, pss_cons (ps_set (i := 1) nd rfl (.inr rfl) (pe_c OC hr1 (pa_cons (pv 0) (pa_cons pe_int pa_nil))))
      (pss_one (ps_ret (pe_callB (cr_all rfl) (by rfl) B.all (by decide +kernel) (pa_cons
        (pe_lc (own := [("_law_k", 2)]) (g := gName 2) (by rfl) nd (pi_range1 (by rfl) B.range (pa_cons (pe_len B.len (pa_cons (pv 1) pa_nil)) pa_nil))
          (blkOk_by (N := ["_law_script", "_law_cells_so", "_law_k"]) (sc := defScope s_law) (by decide +kernel))
          (fun _ _ _ _ _ => pg_name (i := 2) nd rfl (.inl rfl)) (fun _ _ _ _ _ => pts_nil) (fun _ _ _ _ _ => pe_c OR hr (pa_cons (pe_c OB hr1 (pa_cons (pv 1) (pa_cons (pv 2) pa_nil))) pa_nil))) pa_nil)))), ?_⟩
    refine ⟨_, rfl, a, ns, 3, rfl, hS, by decide, by decide, hl, fun H1 c zs n1 z0 z1 => ?_⟩
    have hc : Sq true H1 c (zs.map V.int) := .lst n1.2.2
    refine ⟨_, rfl, true, c, _, rfl, hc, _, rfl, by rw [List.length_map]; omega, by rw [List.length_map]; omega, fun D nD => ?_⟩
    refine lc_range (lo := 0) (n := (((zs.map V.int).length : Nat) : Int).toNat) (fun i H' => Same H1 H' ∧ H' D = some (.lst ((List.replicate i true).map V.bl)))
      ⟨same_new nD, upd_same⟩ ?_ ?_
    · rintro i H2 hi ⟨sm, eD⟩
      rw [List.length_map] at hi
      refine ⟨rfl, ?_⟩
      show tCall spRightB [] E0 (tCons (tCall spBox [] E0 (tCons (tVar 1) (tCons (tVar 2) tNil))) tNil) _ _ _
      refine ⟨_, rfl, _, rfl, c, zs, i, (by rw [Int.zero_add]; rfl), sm.sq hc, by omega, fun H3 p s3 np bp => ?_⟩
      refine ⟨p, rfl, bp, fun H4 f4 => ?_⟩
      have k4 : Same H2 H4 := fun x o e => f4 x o (s3 x o e) (ne_of_none e np)
      refine ⟨_, k4 _ _ eD, ?_, Same.young (sm.trans k4) nD, ?_⟩
      · rw [List.length_map, List.length_replicate]
        exact small1000 (by omega)
      · rw [upd_same, List.replicate_succ', List.map_append]
        rfl
    · rintro H2 ⟨sm, eD⟩
      refine ⟨D, List.replicate _ true, rfl, SqL.of eD, ?_⟩
      have ea : ∀ n : Nat, (List.replicate n true).all id = true := fun n => by
        rw [List.all_eq_true]
        intro z hz
        exact (List.mem_replicate.mp hz).2
      rw [ea]
      exact q _
end
end K10
namespace K10
open PySem PySem.Spec PyProof.Rows L2 IqX RvT LwB EnS TL
structure Facts (K : PySem.W.Frag) (mg : Str → Option Value) : Prop where
  d_is_part : Df K mg "is_part" s_is_part ["word", "log"]
  d__early_places : Df K mg "_early_places" s__early_places ["word", "log"]
  d_rest : Df K mg "rest" s_rest ["word", "log"]
  d_front : Df K mg "front" s_front ["word", "log"]
  d__law_box : Df K mg "_law_box" s__law_box ["_law_script", "_law_k"]
  d__law_take : Df K mg "_law_take" s__law_take ["_law_box_here", "_law_size_so"]
  d__law_cells : Df K mg "_law_cells" s__law_cells ["_law_script", "_law_top_so"]
  d__law_of : Df K mg "_law_of" s__law_of ["_law_box_here", "_law_goods_so"]
  d__law_pick : Df K mg "_law_pick" s__law_pick ["_law_box_here", "_law_goods_so", "_law_count_so"]
  d__law_same : Df K mg "_law_same" s__law_same ["_law_got", "_law_due"]
  d__law_names : Df K mg "_law_names" s__law_names ["_law_box_here", "_law_much_so"]
  d__law_lies : Df K mg "_law_lies" s__law_lies ["_law_verse", "_law_row"]
  d__law_event_row : Df K mg "_law_event_row" s__law_event_row ["_law_box_here", "_law_tags", "_law_most"]
  d__law_left : Df K mg "_law_left" s__law_left ["_law_verse", "_law_row"]
  d__law_front_left : Df K mg "_law_front_left" s__law_front_left ["_law_verse", "_law_row"]
  d__law_word_right : Df K mg "_law_word_right" s__law_word_right ["_law_verse", "_law_row", "_law_more"]
  d__law_by_hand_right : Df K mg "_law_by_hand_right" s__law_by_hand_right []
  d__law_right : Df K mg "_law_right" s__law_right ["_law_box_here"]
  bn : Bn mg
theorem ok_law {P : Program} {w : World} {K : PySem.W.Frag} {mg : Str → Option Value} {base : Heap} {f : Addr} {fd : FuncData} (F : Fun K "law" "law" s_law f fd) (T : Facts K mg) : FnOk P w K mg base CX0 6 f fd ["_law_script"] (spLaw K) := by
  have OT := ok__law_take (P := P) (w := w) (base := base) T.d__law_take T.bn
  have OO := ok__law_of T.d__law_of T.bn OT
  have OPk := ok__law_pick T.d__law_pick T.bn OT
  have ON := ok__law_names T.d__law_names T.bn OT OO OPk
  have OS := ok__law_same (P := P) (w := w) (base := base) T.d__law_same T.bn 3
  have OP := ok_is_part (P := P) (w := w) (base := base) T.d_is_part T.bn
  have OE := ok__early_places (P := P) (w := w) (base := base) T.d__early_places T.bn
  have OR := ok_rest T.d_rest T.bn OE
  have OF := ok_front T.d_front T.bn OR
  have OL := ok__law_lies (P := P) (w := w) (base := base) T.d__law_lies T.bn
  have OW := ok__law_word_right T.d__law_word_right T.bn (ok__law_left T.d__law_left T.bn OL) (ok__law_front_left T.d__law_front_left T.bn OL) OR T.d_rest OF T.d_front OP OL OS
  have OH := ok__law_by_hand_right T.d__law_by_hand_right T.bn OR OF OS
  have OX := ok__law_right T.d__law_right T.bn OH OT ON (ok__law_event_row T.d__law_event_row T.bn OT OO) OW
  exact fn_law F T.bn (ok__law_cells T.d__law_cells T.bn) (ok__law_box T.d__law_box T.bn) OX
theorem all_mk {l : PySem.W.OpenLaw} {w : World} {K : PySem.W.Frag} {h : Heap} {mg : Str → Option Value} {fa f0 f1 f2 f3 f4 f5 f6 f7 f8 f9 f10 f11 f12 f13 f14 f15 f16 f17 f18 : Addr} (X : K.In h) (G : h.Ns mainGlobals mg) (hfa : mg "law" = some (.ref fa))
    {od0 an0 od1 an1 od2 an2 od3 an3 od4 an4 od5 an5 od6 an6 od7 an7 od8 an8 od9 an9 od10 an10 od11 an11 od12 an12 od13 an13 od14 an14 od15 an15 od16 an16 od17 an17 od18 an18 : Option Addr} {sl0 sl1 sl2 sl3 sl4 sl5 sl6 sl7 sl8 sl9 sl10 sl11 sl12 sl13 sl14 sl15 sl16 sl17 sl18 : Array (Option Value)} {oc0 kV0 dc0 pm0 cd0 ct0 oc1 kV1 dc1 pm1 cd1 ct1 oc2 kV2 dc2 pm2 cd2 ct2 oc3 kV3 dc3 pm3 cd3 ct3 oc4 kV4 dc4 pm4 cd4 ct4 oc5 kV5 dc5 pm5 cd5 ct5 oc6 kV6 dc6 pm6 cd6 ct6 oc7 kV7 dc7 pm7 cd7 ct7 oc8 kV8 dc8 pm8 cd8 ct8 oc9 kV9 dc9 pm9 cd9 ct9 oc10 kV10 dc10 pm10 cd10 ct10 oc11 kV11 dc11 pm11 cd11 ct11 oc12 kV12 dc12 pm12 cd12 ct12 oc13 kV13 dc13 pm13 cd13 ct13 oc14 kV14 dc14 pm14 cd14 ct14 oc15 kV15 dc15 pm15 cd15 ct15 oc16 kV16 dc16 pm16 cd16 ct16 oc17 kV17 dc17 pm17 cd17 ct17 oc18 kV18 dc18 pm18 cd18 ct18 : Value}
    (a0 : PySem.W.nsIn K mainGlobals "is_part" = some (some (.ref f0))) (l0 : K.lookup f0 = some ⟨oc0, od0, .func (PySem.W.fnOf "is_part" "is_part" (defArgs s_is_part) (defBody s_is_part) (defScope s_is_part) .none kV0 dc0 pm0 an0 cd0 ct0), sl0⟩) (c0 : PySem.W.codeIn K cd0 "is_part" = true) (k0 : PySem.W.keepIn K (.ref f0) = true)
    (a1 : PySem.W.nsIn K mainGlobals "_early_places" = some (some (.ref f1))) (l1 : K.lookup f1 = some ⟨oc1, od1, .func (PySem.W.fnOf "_early_places" "_early_places" (defArgs s__early_places) (defBody s__early_places) (defScope s__early_places) .none kV1 dc1 pm1 an1 cd1 ct1), sl1⟩) (c1 : PySem.W.codeIn K cd1 "_early_places" = true) (k1 : PySem.W.keepIn K (.ref f1) = true)
    (a2 : PySem.W.nsIn K mainGlobals "rest" = some (some (.ref f2))) (l2 : K.lookup f2 = some ⟨oc2, od2, .func (PySem.W.fnOf "rest" "rest" (defArgs s_rest) (defBody s_rest) (defScope s_rest) .none kV2 dc2 pm2 an2 cd2 ct2), sl2⟩) (c2 : PySem.W.codeIn K cd2 "rest" = true) (k2 : PySem.W.keepIn K (.ref f2) = true)
    (a3 : PySem.W.nsIn K mainGlobals "front" = some (some (.ref f3))) (l3 : K.lookup f3 = some ⟨oc3, od3, .func (PySem.W.fnOf "front" "front" (defArgs s_front) (defBody s_front) (defScope s_front) .none kV3 dc3 pm3 an3 cd3 ct3), sl3⟩) (c3 : PySem.W.codeIn K cd3 "front" = true) (k3 : PySem.W.keepIn K (.ref f3) = true)
    (a4 : PySem.W.nsIn K mainGlobals "_law_box" = some (some (.ref f4))) (l4 : K.lookup f4 = some ⟨oc4, od4, .func (PySem.W.fnOf "_law_box" "_law_box" (defArgs s__law_box) (defBody s__law_box) (defScope s__law_box) .none kV4 dc4 pm4 an4 cd4 ct4), sl4⟩) (c4 : PySem.W.codeIn K cd4 "_law_box" = true) (k4 : PySem.W.keepIn K (.ref f4) = true)
    (a5 : PySem.W.nsIn K mainGlobals "_law_take" = some (some (.ref f5))) (l5 : K.lookup f5 = some ⟨oc5, od5, .func (PySem.W.fnOf "_law_take" "_law_take" (defArgs s__law_take) (defBody s__law_take) (defScope s__law_take) .none kV5 dc5 pm5 an5 cd5 ct5), sl5⟩) (c5 : PySem.W.codeIn K cd5 "_law_take" = true) (k5 : PySem.W.keepIn K (.ref f5) = true)
    (a6 : PySem.W.nsIn K mainGlobals "_law_cells" = some (some (.ref f6))) (l6 : K.lookup f6 = some ⟨oc6, od6, .func (PySem.W.fnOf "_law_cells" "_law_cells" (defArgs s__law_cells) (defBody s__law_cells) (defScope s__law_cells) .none kV6 dc6 pm6 an6 cd6 ct6), sl6⟩) (c6 : PySem.W.codeIn K cd6 "_law_cells" = true) (k6 : PySem.W.keepIn K (.ref f6) = true)
    (a7 : PySem.W.nsIn K mainGlobals "_law_of" = some (some (.ref f7))) (l7 : K.lookup f7 = some ⟨oc7, od7, .func (PySem.W.fnOf "_law_of" "_law_of" (defArgs s__law_of) (defBody s__law_of) (defScope s__law_of) .none kV7 dc7 pm7 an7 cd7 ct7), sl7⟩) (c7 : PySem.W.codeIn K cd7 "_law_of" = true) (k7 : PySem.W.keepIn K (.ref f7) = true)
    (a8 : PySem.W.nsIn K mainGlobals "_law_pick" = some (some (.ref f8))) (l8 : K.lookup f8 = some ⟨oc8, od8, .func (PySem.W.fnOf "_law_pick" "_law_pick" (defArgs s__law_pick) (defBody s__law_pick) (defScope s__law_pick) .none kV8 dc8 pm8 an8 cd8 ct8), sl8⟩) (c8 : PySem.W.codeIn K cd8 "_law_pick" = true) (k8 : PySem.W.keepIn K (.ref f8) = true)
    (a9 : PySem.W.nsIn K mainGlobals "_law_same" = some (some (.ref f9))) (l9 : K.lookup f9 = some ⟨oc9, od9, .func (PySem.W.fnOf "_law_same" "_law_same" (defArgs s__law_same) (defBody s__law_same) (defScope s__law_same) .none kV9 dc9 pm9 an9 cd9 ct9), sl9⟩) (c9 : PySem.W.codeIn K cd9 "_law_same" = true) (k9 : PySem.W.keepIn K (.ref f9) = true)
    (a10 : PySem.W.nsIn K mainGlobals "_law_names" = some (some (.ref f10))) (l10 : K.lookup f10 = some ⟨oc10, od10, .func (PySem.W.fnOf "_law_names" "_law_names" (defArgs s__law_names) (defBody s__law_names) (defScope s__law_names) .none kV10 dc10 pm10 an10 cd10 ct10), sl10⟩) (c10 : PySem.W.codeIn K cd10 "_law_names" = true) (k10 : PySem.W.keepIn K (.ref f10) = true)
    (a11 : PySem.W.nsIn K mainGlobals "_law_lies" = some (some (.ref f11))) (l11 : K.lookup f11 = some ⟨oc11, od11, .func (PySem.W.fnOf "_law_lies" "_law_lies" (defArgs s__law_lies) (defBody s__law_lies) (defScope s__law_lies) .none kV11 dc11 pm11 an11 cd11 ct11), sl11⟩) (c11 : PySem.W.codeIn K cd11 "_law_lies" = true) (k11 : PySem.W.keepIn K (.ref f11) = true)
    (a12 : PySem.W.nsIn K mainGlobals "_law_event_row" = some (some (.ref f12))) (l12 : K.lookup f12 = some ⟨oc12, od12, .func (PySem.W.fnOf "_law_event_row" "_law_event_row" (defArgs s__law_event_row) (defBody s__law_event_row) (defScope s__law_event_row) .none kV12 dc12 pm12 an12 cd12 ct12), sl12⟩) (c12 : PySem.W.codeIn K cd12 "_law_event_row" = true) (k12 : PySem.W.keepIn K (.ref f12) = true)
    (a13 : PySem.W.nsIn K mainGlobals "_law_left" = some (some (.ref f13))) (l13 : K.lookup f13 = some ⟨oc13, od13, .func (PySem.W.fnOf "_law_left" "_law_left" (defArgs s__law_left) (defBody s__law_left) (defScope s__law_left) .none kV13 dc13 pm13 an13 cd13 ct13), sl13⟩) (c13 : PySem.W.codeIn K cd13 "_law_left" = true) (k13 : PySem.W.keepIn K (.ref f13) = true)
    (a14 : PySem.W.nsIn K mainGlobals "_law_front_left" = some (some (.ref f14))) (l14 : K.lookup f14 = some ⟨oc14, od14, .func (PySem.W.fnOf "_law_front_left" "_law_front_left" (defArgs s__law_front_left) (defBody s__law_front_left) (defScope s__law_front_left) .none kV14 dc14 pm14 an14 cd14 ct14), sl14⟩) (c14 : PySem.W.codeIn K cd14 "_law_front_left" = true) (k14 : PySem.W.keepIn K (.ref f14) = true)
    (a15 : PySem.W.nsIn K mainGlobals "_law_word_right" = some (some (.ref f15))) (l15 : K.lookup f15 = some ⟨oc15, od15, .func (PySem.W.fnOf "_law_word_right" "_law_word_right" (defArgs s__law_word_right) (defBody s__law_word_right) (defScope s__law_word_right) .none kV15 dc15 pm15 an15 cd15 ct15), sl15⟩) (c15 : PySem.W.codeIn K cd15 "_law_word_right" = true) (k15 : PySem.W.keepIn K (.ref f15) = true)
    (a16 : PySem.W.nsIn K mainGlobals "_law_by_hand_right" = some (some (.ref f16))) (l16 : K.lookup f16 = some ⟨oc16, od16, .func (PySem.W.fnOf "_law_by_hand_right" "_law_by_hand_right" (defArgs s__law_by_hand_right) (defBody s__law_by_hand_right) (defScope s__law_by_hand_right) .none kV16 dc16 pm16 an16 cd16 ct16), sl16⟩) (c16 : PySem.W.codeIn K cd16 "_law_by_hand_right" = true) (k16 : PySem.W.keepIn K (.ref f16) = true)
    (a17 : PySem.W.nsIn K mainGlobals "_law_right" = some (some (.ref f17))) (l17 : K.lookup f17 = some ⟨oc17, od17, .func (PySem.W.fnOf "_law_right" "_law_right" (defArgs s__law_right) (defBody s__law_right) (defScope s__law_right) .none kV17 dc17 pm17 an17 cd17 ct17), sl17⟩) (c17 : PySem.W.codeIn K cd17 "_law_right" = true) (k17 : PySem.W.keepIn K (.ref f17) = true)
    (a18 : PySem.W.nsIn K mainGlobals "law" = some (some (.ref f18))) (l18 : K.lookup f18 = some ⟨oc18, od18, .func (PySem.W.fnOf "law" "law" (defArgs s_law) (defBody s_law) (defScope s_law) .none kV18 dc18 pm18 an18 cd18 ct18), sl18⟩) (c18 : PySem.W.codeIn K cd18 "law" = true) (k18 : PySem.W.keepIn K (.ref f18) = true)
    (z_len : PySem.W.nsIn K mainGlobals "len" = some none)
    (z_abs : PySem.W.nsIn K mainGlobals "abs" = some none)
    (z_int : PySem.W.nsIn K mainGlobals "int" = some none)
    (z_list : PySem.W.nsIn K mainGlobals "list" = some none)
    (z_tuple : PySem.W.nsIn K mainGlobals "tuple" = some none)
    (z_range : PySem.W.nsIn K mainGlobals "range" = some none)
    (z_min : PySem.W.nsIn K mainGlobals "min" = some none)
    (z_max : PySem.W.nsIn K mainGlobals "max" = some none)
    (z_enumerate : PySem.W.nsIn K mainGlobals "enumerate" = some none)
    (z_zip : PySem.W.nsIn K mainGlobals "zip" = some none)
    (z_isinstance : PySem.W.nsIn K mainGlobals "isinstance" = some none)
    (z_all : PySem.W.nsIn K mainGlobals "all" = some none)
    (z_bool : PySem.W.nsIn K mainGlobals "bool" = some none)
    (z_str : PySem.W.nsIn K mainGlobals "str" = some none)
    (z_iter : PySem.W.nsIn K mainGlobals "iter" = some none)
    (z_sorted : PySem.W.nsIn K mainGlobals "sorted" = some none)
    (fin : ∀ (fd : FuncData), Fun K "law" "law" s_law fa fd → Facts K mg → ∀ base : Heap, FnOk l.prog w K mg base CX0 6 fa fd ["_law_script"] (spLaw K)) :
    ∃ fd : FuncData, (∀ (s : Shared) (v : Value), BindsTo s fd ⟨[v], []⟩ [("_law_script", v)]) ∧ ∀ base : Heap, K.In base → base.Ns mainGlobals mg → FnOk l.prog w K mg base CX0 6 fa fd ["_law_script"] (spLaw K) := by
  have e := hfa.symm.trans (PySem.W.mg_of X G a18)
  cases e
  have F0 := fun_mk (st := s_is_part) l0 c0 k0
  have b0 := F0.binds (ps := ["word", "log"]) fun _ _ _ _ _ _ us hl => match us, hl with | [_, _], _ => rfl
  have F1 := fun_mk (st := s__early_places) l1 c1 k1
  have b1 := F1.binds (ps := ["word", "log"]) fun _ _ _ _ _ _ us hl => match us, hl with | [_, _], _ => rfl
  have F2 := fun_mk (st := s_rest) l2 c2 k2
  have b2 := F2.binds (ps := ["word", "log"]) fun _ _ _ _ _ _ us hl => match us, hl with | [_, _], _ => rfl
  have F3 := fun_mk (st := s_front) l3 c3 k3
  have b3 := F3.binds (ps := ["word", "log"]) fun _ _ _ _ _ _ us hl => match us, hl with | [_, _], _ => rfl
  have F4 := fun_mk (st := s__law_box) l4 c4 k4
  have b4 := F4.binds (ps := ["_law_script", "_law_k"]) fun _ _ _ _ _ _ us hl => match us, hl with | [_, _], _ => rfl
  have F5 := fun_mk (st := s__law_take) l5 c5 k5
  have b5 := F5.binds (ps := ["_law_box_here", "_law_size_so"]) fun _ _ _ _ _ _ us hl => match us, hl with | [_, _], _ => rfl
  have F6 := fun_mk (st := s__law_cells) l6 c6 k6
  have b6 := F6.binds (ps := ["_law_script", "_law_top_so"]) fun _ _ _ _ _ _ us hl => match us, hl with | [_, _], _ => rfl
  have F7 := fun_mk (st := s__law_of) l7 c7 k7
  have b7 := F7.binds (ps := ["_law_box_here", "_law_goods_so"]) fun _ _ _ _ _ _ us hl => match us, hl with | [_, _], _ => rfl
  have F8 := fun_mk (st := s__law_pick) l8 c8 k8
  have b8 := F8.binds (ps := ["_law_box_here", "_law_goods_so", "_law_count_so"]) fun _ _ _ _ _ _ us hl => match us, hl with | [_, _, _], _ => rfl
  have F9 := fun_mk (st := s__law_same) l9 c9 k9
  have b9 := F9.binds (ps := ["_law_got", "_law_due"]) fun _ _ _ _ _ _ us hl => match us, hl with | [_, _], _ => rfl
  have F10 := fun_mk (st := s__law_names) l10 c10 k10
  have b10 := F10.binds (ps := ["_law_box_here", "_law_much_so"]) fun _ _ _ _ _ _ us hl => match us, hl with | [_, _], _ => rfl
  have F11 := fun_mk (st := s__law_lies) l11 c11 k11
  have b11 := F11.binds (ps := ["_law_verse", "_law_row"]) fun _ _ _ _ _ _ us hl => match us, hl with | [_, _], _ => rfl
  have F12 := fun_mk (st := s__law_event_row) l12 c12 k12
  have b12 := F12.binds (ps := ["_law_box_here", "_law_tags", "_law_most"]) fun _ _ _ _ _ _ us hl => match us, hl with | [_, _, _], _ => rfl
  have F13 := fun_mk (st := s__law_left) l13 c13 k13
  have b13 := F13.binds (ps := ["_law_verse", "_law_row"]) fun _ _ _ _ _ _ us hl => match us, hl with | [_, _], _ => rfl
  have F14 := fun_mk (st := s__law_front_left) l14 c14 k14
  have b14 := F14.binds (ps := ["_law_verse", "_law_row"]) fun _ _ _ _ _ _ us hl => match us, hl with | [_, _], _ => rfl
  have F15 := fun_mk (st := s__law_word_right) l15 c15 k15
  have b15 := F15.binds (ps := ["_law_verse", "_law_row", "_law_more"]) fun _ _ _ _ _ _ us hl => match us, hl with | [_, _, _], _ => rfl
  have F16 := fun_mk (st := s__law_by_hand_right) l16 c16 k16
  have b16 := F16.binds (ps := []) fun _ _ _ _ _ _ us hl => match us, hl with | [], _ => rfl
  have F17 := fun_mk (st := s__law_right) l17 c17 k17
  have b17 := F17.binds (ps := ["_law_box_here"]) fun _ _ _ _ _ _ us hl => match us, hl with | [_], _ => rfl
  have F18 := fun_mk (st := s_law) l18 c18 k18
  have FF : Facts K mg := ⟨⟨_, _, F0, PySem.W.mg_of X G a0, b0⟩, ⟨_, _, F1, PySem.W.mg_of X G a1, b1⟩, ⟨_, _, F2, PySem.W.mg_of X G a2, b2⟩, ⟨_, _, F3, PySem.W.mg_of X G a3, b3⟩, ⟨_, _, F4, PySem.W.mg_of X G a4, b4⟩, ⟨_, _, F5, PySem.W.mg_of X G a5, b5⟩, ⟨_, _, F6, PySem.W.mg_of X G a6, b6⟩, ⟨_, _, F7, PySem.W.mg_of X G a7, b7⟩, ⟨_, _, F8, PySem.W.mg_of X G a8, b8⟩, ⟨_, _, F9, PySem.W.mg_of X G a9, b9⟩, ⟨_, _, F10, PySem.W.mg_of X G a10, b10⟩, ⟨_, _, F11, PySem.W.mg_of X G a11, b11⟩, ⟨_, _, F12, PySem.W.mg_of X G a12, b12⟩, ⟨_, _, F13, PySem.W.mg_of X G a13, b13⟩, ⟨_, _, F14, PySem.W.mg_of X G a14, b14⟩, ⟨_, _, F15, PySem.W.mg_of X G a15, b15⟩, ⟨_, _, F16, PySem.W.mg_of X G a16, b16⟩, ⟨_, _, F17, PySem.W.mg_of X G a17, b17⟩, ⟨PySem.W.mg_none_of X G z_len, PySem.W.mg_none_of X G z_abs, PySem.W.mg_none_of X G z_int, PySem.W.mg_none_of X G z_list, PySem.W.mg_none_of X G z_tuple, PySem.W.mg_none_of X G z_range, PySem.W.mg_none_of X G z_min, PySem.W.mg_none_of X G z_max, PySem.W.mg_none_of X G z_enumerate, PySem.W.mg_none_of X G z_zip, PySem.W.mg_none_of X G z_isinstance, PySem.W.mg_none_of X G z_all, PySem.W.mg_none_of X G z_bool, PySem.W.mg_none_of X G z_str, PySem.W.mg_none_of X G z_iter, PySem.W.mg_none_of X G z_sorted⟩⟩
  exact ⟨PySem.W.fnOf "law" "law" (defArgs s_law) (defBody s_law) (defScope s_law) .none kV18 dc18 pm18 an18 cd18 ct18, fun s v => .of_eq rfl, fun base _ _ => fin _ F18 FF base⟩
end K10
open PySem PySem.W PyProof.Rows
set_option maxRecDepth 100000 in
set_option maxHeartbeats 0 in
theorem PySem.Challenge.cw_moredone_k10_rests_and_fronts_holds : PySem.Challenge.rw_moredone_k10_rests_and_fronts.Holds := by
  w_on; o_law; k_head; (case hw => w_witness2)
  k_fill
  refine L2.walk_of (l := PySem.Challenge.rw_moredone_k10_rests_and_fronts) (n := 63) (k := 6) (x := "_law_script") (CX := fun _ => L2.CX0) (sp := fun w => K10.spLaw _) rfl (by decide) rfl ⟨rfl, by decide, by decide⟩ (fun w h Y => PySem.W.kIn_of Y) ?F (fun _ _ a ns hl _ hS => ⟨a, ns, rfl, hS, hl, fun _ => rfl⟩) (fun _ _ _ _ _ h => h)
  case F =>
    intro w mg fa h KX G hmg
    refine' K10.all_mk KX G hmg ?a0 ?l0 ?c0 ?k0 ?a1 ?l1 ?c1 ?k1 ?a2 ?l2 ?c2 ?k2 ?a3 ?l3 ?c3 ?k3 ?a4 ?l4 ?c4 ?k4 ?a5 ?l5 ?c5 ?k5 ?a6 ?l6 ?c6 ?k6 ?a7 ?l7 ?c7 ?k7 ?a8 ?l8 ?c8 ?k8 ?a9 ?l9 ?c9 ?k9 ?a10 ?l10 ?c10 ?k10 ?a11 ?l11 ?c11 ?k11 ?a12 ?l12 ?c12 ?k12 ?a13 ?l13 ?c13 ?k13 ?a14 ?l14 ?c14 ?k14 ?a15 ?l15 ?c15 ?k15 ?a16 ?l16 ?c16 ?k16 ?a17 ?l17 ?c17 ?k17 ?a18 ?l18 ?c18 ?k18 ?z_len ?z_abs ?z_int ?z_list ?z_tuple ?z_range ?z_min ?z_max ?z_enumerate ?z_zip ?z_isinstance ?z_all ?z_bool ?z_str ?z_iter ?z_sorted ?fin
    (case a0 => k_is); (case l0 => k_is); (case c0 => k_is); (case k0 => k_is)
    (case a1 => k_is); (case l1 => k_is); (case c1 => k_is); (case k1 => k_is)
    (case a2 => k_is); (case l2 => k_is); (case c2 => k_is); (case k2 => k_is)
    (case a3 => k_is); (case l3 => k_is); (case c3 => k_is); (case k3 => k_is)
    (case a4 => k_is); (case l4 => k_is); (case c4 => k_is); (case k4 => k_is)
    (case a5 => k_is); (case l5 => k_is); (case c5 => k_is); (case k5 => k_is)
    (case a6 => k_is); (case l6 => k_is); (case c6 => k_is); (case k6 => k_is)
    (case a7 => k_is); (case l7 => k_is); (case c7 => k_is); (case k7 => k_is)
    (case a8 => k_is); (case l8 => k_is); (case c8 => k_is); (case k8 => k_is)
    (case a9 => k_is); (case l9 => k_is); (case c9 => k_is); (case k9 => k_is)
    (case a10 => k_is); (case l10 => k_is); (case c10 => k_is); (case k10 => k_is)
    (case a11 => k_is); (case l11 => k_is); (case c11 => k_is); (case k11 => k_is)
    (case a12 => k_is); (case l12 => k_is); (case c12 => k_is); (case k12 => k_is)
    (case a13 => k_is); (case l13 => k_is); (case c13 => k_is); (case k13 => k_is)
    (case a14 => k_is); (case l14 => k_is); (case c14 => k_is); (case k14 => k_is)
    (case a15 => k_is); (case l15 => k_is); (case c15 => k_is); (case k15 => k_is)
    (case a16 => k_is); (case l16 => k_is); (case c16 => k_is); (case k16 => k_is)
    (case a17 => k_is); (case l17 => k_is); (case c17 => k_is); (case k17 => k_is)
    (case a18 => k_is); (case l18 => k_is); (case c18 => k_is); (case k18 => k_is)
    (case z_len => k_is)
    (case z_abs => k_is)
    (case z_int => k_is)
    (case z_list => k_is)
    (case z_tuple => k_is)
    (case z_range => k_is)
    (case z_min => k_is)
    (case z_max => k_is)
    (case z_enumerate => k_is)
    (case z_zip => k_is)
    (case z_isinstance => k_is)
    (case z_all => k_is)
    (case z_bool => k_is)
    (case z_str => k_is)
    (case z_iter => k_is)
    (case z_sorted => k_is)
    exact fun fd F FF base => K10.ok_law F FF
