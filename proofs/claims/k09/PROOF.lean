import PyProof.Rows.All
import Wide.All
import OpenK.AllK
import Wide.FinOn
import PyProof.WalksMore
import HandS.Base
import HandS.Call
import HandS.List
import HandS.ForMost
import HandS.Style
import HandS.TupAny
import HandS.Wide
import HandS.IsInst
import HandS.Flow
import HandS.SortKw
import KE.GoesMore
import KE.GoesEnum
import HandS.More
import PyProof.StrWalks
import HandS.Defaults
import HandS.Zip
import HandS.TupSets
import KE.KeyNested
import KE.SortData
import HandS.DeepEq
import HandS.TupMul
import HandS.Walk
import HandS.Text
import KE.DataMinMax
import PyProof.StrBlock2
import HandS.Conv
import PySem.Challenge.RW_moredone_k09_parts_and_places
set_option Elab.async false
set_option linter.all false
set_option maxRecDepth 100000
set_option maxHeartbeats 2000000
namespace IqX
open PySem PySem.Spec PyProof.Rows L2
theorem no_contains_l : typeLookup (.type "list_iterator") "__contains__" = pure none := by rw [typeLookup_type, builtinLookup_eq_fast]; kernel_rfl
theorem no_contains_t : typeLookup (.type "tuple_iterator") "__contains__" = pure none := by rw [typeLookup_type, builtinLookup_eq_fast]; kernel_rfl
theorem plain_ci : plainId "proto.contains_iter" = true := by decide +kernel
theorem entry_ci : entryFor table "proto.contains_iter" = some Builtin.«proto.contains_iter» := entryFor_of_fast (by kernel_rfl)

section
variable {prog : Program} {w : World} {A : Around} {E : Value → Shared → Prop} {s : Shared}
theorem next_list_end {it l : Addr} {i : Nat} {items : Array Value} {Q : Option Value → Shared → Prop} (hh : A.handled = none)
    (hit : s.heap.IsListIter it l i) (hl : s.heap.IsList l items) (hx : items[i]? = none)
    (hQ : ∀ h', Heap.ExtBut it s.heap h' → (∃ u, h'.get? it = some u) → Q none { s with heap := h' }) : wpAny (model prog w) A (pyNext (.ref it)) Q E s := by
  obtain ⟨o, ho, hc, hd⟩ := id hit
  obtain ⟨ol, hol, _, nl, hdl⟩ := hl
  unfold pyNext
  refine wpAny_bind (wpAny_attempt (wpAny_callSpecial?_slot (name := Str.ofString "__next__") hit.typeIs slot_listiter_next
    (wpAny_call_entry slot_listiter_next hit.typeIs entry_listiter_next ?_ (args_listiter_next _))))
  show wpAny _ _ (field (.ref it) 0 >>= _) _ _ s
  refine wpAny_bind (wpAny_field ho hd (x := .ref l) rfl ?_)
  show wpAny _ _ (if (Value.ref l == Value.none) = true then _ else _) _ _ s
  rw [if_neg (show ¬ ((Value.ref l == Value.none) = true) from Bool.false_ne_true)]
  show wpAny _ _ (field (.ref it) 1 >>= _) _ _ s
  refine wpAny_bind (wpAny_field ho hd (x := .int i 0) rfl ?_)
  show wpAny _ _ (seqItems? (.ref l) >>= _) _ _ s
  refine wpAny_bind (wpAny_seqItems hol hdl ?_)
  simp only [Int.toNat_natCast, hx]
  refine wpAny_bind (wpAny_rule (wpAny_bind (wpAny_setField ho hd (by simp) ?_)))
  show wpAny _ _ (newExc (.type "StopIteration") [] >>= _) _ _ _
  refine wpAny_bind ?_
  simp only [newExc, newTuple]
  refine wpAny_bind (wpAny_newObj_type ?_ (by size_fits))
  refine wpAny_bind (m := firstArgMember _ _) (wpAny_of_eq (a := Value.none) (by first | rfl | (simp only [firstArgMember]; rfl)) ?_)
  refine wpAny_newObj_type ?_ (by size_fits)
  simp only [raiseNew]
  refine wpAny_bind (wpAny_handled ?_)
  rw [show A.in1.handled = none from hh]
  refine wpAny_bind (wpAny_pure (wpAny_throw ?_))
  refine wpAny_bind (wpAny_isInstance (T := "StopIteration") (b := true) ⟨_, Heap.get?_push_size _ rfl, rfl⟩ isSubtype_stop ?_)
  exact wpAny_pure (hQ _ (((Heap.SameBut.update ..).extBut.push _).push _) ⟨_, Heap.get?_push_of_some _ (Heap.get?_push_of_some _ (Heap.get?_update_self _ ho (Obj.isFreed_of_fields (Obj.data_mapFields hd _))))⟩)
theorem next_tuple_end {it t : Addr} {i : Nat} {items : Array Value} {Q : Option Value → Shared → Prop} (hh : A.handled = none)
    (hit : s.heap.IsTupleIter it t i) (ht : s.heap.IsTuple t items) (hx : items[i]? = none)
    (hQ : ∀ h', Heap.ExtBut it s.heap h' → (∃ u, h'.get? it = some u) → Q none { s with heap := h' }) : wpAny (model prog w) A (pyNext (.ref it)) Q E s := by
  obtain ⟨o, ho, hc, hd⟩ := id hit
  obtain ⟨ol, hol, _, nl, hdl⟩ := ht
  unfold pyNext
  refine wpAny_bind (wpAny_attempt (wpAny_callSpecial?_slot (name := Str.ofString "__next__") hit.typeIs F.slot_tuple_iterator_next
    (wpAny_call_entry F.slot_tuple_iterator_next hit.typeIs F.entry_tuple_iterator_next ?_ (F.args_tuple_iterator_next_1 _))))
  show wpAny _ _ (field (.ref it) 0 >>= _) _ _ s
  refine wpAny_bind (wpAny_field ho hd (x := .ref t) rfl ?_)
  show wpAny _ _ (if (Value.ref t == Value.none) = true then _ else _) _ _ s
  rw [if_neg (show ¬ ((Value.ref t == Value.none) = true) from Bool.false_ne_true)]
  show wpAny _ _ (field (.ref it) 1 >>= _) _ _ s
  refine wpAny_bind (wpAny_field ho hd (x := .int i 0) rfl ?_)
  show wpAny _ _ (seqItems? (.ref t) >>= _) _ _ s
  refine wpAny_bind (wpAny_seqItems hol hdl ?_)
  simp only [Int.toNat_natCast, hx]
  refine wpAny_bind (wpAny_rule (wpAny_bind (wpAny_setField ho hd (by simp) ?_)))
  show wpAny _ _ (newExc (.type "StopIteration") [] >>= _) _ _ _
  refine wpAny_bind ?_
  simp only [newExc, newTuple]
  refine wpAny_bind (wpAny_newObj_type ?_ (by size_fits))
  refine wpAny_bind (m := firstArgMember _ _) (wpAny_of_eq (a := Value.none) (by first | rfl | (simp only [firstArgMember]; rfl)) ?_)
  refine wpAny_newObj_type ?_ (by size_fits)
  simp only [raiseNew]
  refine wpAny_bind (wpAny_handled ?_)
  first | rw [show A.in1.handled = none from hh] | rw [hh]
  refine wpAny_bind (wpAny_pure (wpAny_throw ?_))
  refine wpAny_bind (wpAny_isInstance (T := "StopIteration") (b := true) ⟨_, Heap.get?_push_size _ rfl, rfl⟩ isSubtype_stop ?_)
  exact wpAny_pure (hQ _ (((Heap.SameBut.update ..).extBut.push _).push _) ⟨_, Heap.get?_push_of_some _ (Heap.get?_push_of_some _ (Heap.get?_update_self _ ho (Obj.isFreed_of_fields (Obj.data_mapFields hd _))))⟩)
end

/-- at it an iterator over the list (b) or tuple at l, the next place is i -/
def IsIt (b : Bool) (h : Heap) (it l : Addr) (i : Nat) : Prop := if b = true then h.IsListIter it l i else h.IsTupleIter it l i
def ItQ (b : Bool) (l it : Addr) (i : Nat) : HO := .ext fun h => IsIt b h it l i
/-- an iterator that has ended -/
def ItX (it : Addr) : HO := .ext fun h => ∃ o, h.get? it = some o
theorem isIt_get {b : Bool} {h : Heap} {it l : Addr} {i : Nat} (x : IsIt b h it l i) : ∃ o, h.get? it = some o := by
  cases b with
  | true => obtain ⟨o, e, _⟩ := (show h.IsListIter it l i from x); exact ⟨o, e⟩
  | false => obtain ⟨o, e, _⟩ := (show h.IsTupleIter it l i from x); exact ⟨o, e⟩
theorem itQ_ok {P : Program} {w : World} {H : Hp} {b : Bool} {h : Heap} {it l : Addr} {i : Nat} (x : IsIt b h it l i) : ObjOk P w H h it (ItQ b l it i) := by
  refine ⟨x, isIt_get x, fun h1 h2 q k => ?_⟩
  cases b with
  | true => obtain ⟨o, e, r⟩ := (show h1.IsListIter it l i from q); exact (show h2.IsListIter it l i from ⟨o, k _ e, r⟩)
  | false => obtain ⟨o, e, r⟩ := (show h1.IsTupleIter it l i from q); exact (show h2.IsTupleIter it l i from ⟨o, k _ e, r⟩)
theorem itX_ok {P : Program} {w : World} {H : Hp} {h : Heap} {it : Addr} (x : ∃ o, h.get? it = some o) : ObjOk P w H h it (ItX it) := by
  refine ⟨x, x, fun h1 h2 q k => ?_⟩
  obtain ⟨o, e⟩ := q
  exact ⟨o, k _ e⟩
section
variable {X : Cx} {pins : List (Addr × Obj)} {σ : L2.St} {H : Hp} {s : Shared} {l it : Addr} {i : Nat} {b : Bool}
theorem itQ_get (I : Inv X pins σ H s) (e : H it = some (ItQ b l it i)) : IsIt b s.heap it l i := (I.hok it _ e).1
/-- a list (b) or a tuple -/
def SqB (K : PySem.W.Frag) (b : Bool) (H : Hp) (a : Addr) (xs : List V) : Prop := if b = true then SqL K H a xs else SqT K H a xs
theorem SqB.list {K : PySem.W.Frag} {H : Hp} {a : Addr} {xs : List V} (h : SqB K true H a xs) : SqL K H a xs := h
theorem SqB.tup {K : PySem.W.Frag} {H : Hp} {a : Addr} {xs : List V} (h : SqB K false H a xs) : SqT K H a xs := h
theorem SqB.or {K : PySem.W.Frag} {H : Hp} {a : Addr} {xs : List V} : ∀ {b : Bool}, SqB K b H a xs → SqL K H a xs ∨ SqT K H a xs
  | true, h => .inl h
  | false, h => .inr h

/-- iter(xs) -/
def rIterQ (K : PySem.W.Frag) : List V → Hp → VK → Prop := fun xs H Q => ∃ (b : Bool) (l : Addr) (zs : List V), xs = [.ref l] ∧ SqB K b H l zs ∧ ∀ it, H it = none → Q (.ref it) (upd H it (ItQ b l it 0))
theorem call_iterQ : CallR X (.builtin "iter") (rIterQ X.K) := by
  intro pins s σ H xs us Q I r h
  obtain ⟨b, l, zs, rfl, hq, q⟩ := h
  obtain rfl := Vals.ref1 r
  refine Calls.call_function_entry (by decide +kernel) (by decide +kernel) PySem.W.kdk_entry_iter (PySem.W.kdk_args_iter _) ?_
  unfold Builtin.«iter»
  refine wpAny_bind (m := someArgs "iter" 1 2 _) (wpAny_of_eq (a := [Value.ref l]) (by first | rfl | kernel_rfl!) ?_)
  show wpAny _ _ (pyIter (.ref l) >>= _) _ _ _
  cases b with
  | true =>
    obtain ⟨its, rv, pl, hz⟩ := I.list hq.list
    refine wpAny_bind (wpAny_pyIter_list pl.isList ?_)
    exact wpAny_pure ⟨_, rfl, .ref s.heap.objs.size, _, I.laid (t' := s.toks) (fun b u e => Heap.get?_push_of_some _ e) (Nat.le_refl _) (itQ_ok (b := true) (show Heap.IsListIter _ _ l 0 from ⟨_, Heap.get?_push_size _ rfl, rfl, rfl⟩)), rfl, q _ (I.hok.fresh (Nat.le_refl _))⟩
  | false =>
    obtain ⟨its, rv, pl, hz⟩ := I.tuple hq.tup
    refine wpAny_bind (wpAny_pyIter_tuple pl ?_)
    exact wpAny_pure ⟨_, rfl, .ref s.heap.objs.size, _, I.laid (t' := s.toks) (fun b u e => Heap.get?_push_of_some _ e) (Nat.le_refl _) (itQ_ok (b := false) (show Heap.IsTupleIter _ _ l 0 from ⟨_, Heap.get?_push_size _ rfl, rfl, rfl⟩)), rfl, q _ (I.hok.fresh (Nat.le_refl _))⟩

/-- pyNext of such an iterator -/
theorem next_itQ {A : Around} {E : Value → Shared → Prop} {zs : List V} {Q : Option Value → Shared → Prop} (hh : A.handled = none) (I : Inv X pins σ H s) (hit : H it = some (ItQ b l it i)) (hl : SqB X.K b H l zs)
    (hS : ∀ x u s', zs[i]? = some x → RelV x u → Inv X pins σ (upd H it (ItQ b l it (i + 1))) s' → Q (some u) s') (hN : ∀ s', zs[i]? = none → Inv X pins σ (upd H it (ItX it)) s' → Q none s') :
    wpAny (model X.prog X.w) A (pyNext (.ref it)) Q E s := by
  have mu : Mut (H it) := by rw [hit]; exact True.intro
  have ii := itQ_get I hit
  cases b with
  | true =>
    obtain ⟨its, rv, pl, hz⟩ := I.list hl.list
    cases hx : zs[i]? with
    | some x =>
      obtain ⟨u, hu, ru⟩ := rv.get hx
      refine wpAny_pyNext_list_item (show s.heap.IsListIter it l i from ii) pl.isList (x := u) (by rw [List.getElem?_toArray]; exact hu) fun h' e' sb => ?_
      exact hS x u _ hx ru (I.write (x := it) (e := it) (t' := s.toks) mu (.inl rfl) (fun b o nb z => (sb.2 b nb).trans z) (isIt_get (b := true) e') (itQ_ok (b := true) e'))
    | none =>
      refine next_list_end hh (show s.heap.IsListIter it l i from ii) pl.isList (by rw [List.getElem?_toArray]; exact rv.none_of hx) fun h' sb ex => ?_
      exact hN _ hx (I.write (x := it) (e := it) (t' := s.toks) mu (.inl rfl) (fun b o nb z => sb b o nb z) ex (itX_ok ex))
  | false =>
    obtain ⟨its, rv, pl, hz⟩ := I.tuple hl.tup
    cases hx : zs[i]? with
    | some x =>
      obtain ⟨u, hu, ru⟩ := rv.get hx
      refine wpAny_pyNext_tuple_item (show s.heap.IsTupleIter it l i from ii) pl (x := u) (by rw [List.getElem?_toArray]; exact hu) fun h' e' sb => ?_
      exact hS x u _ hx ru (I.write (x := it) (e := it) (t' := s.toks) mu (.inl rfl) (fun b o nb z => (sb.2 b nb).trans z) (isIt_get (b := false) e') (itQ_ok (b := false) e'))
    | none =>
      refine next_tuple_end hh (show s.heap.IsTupleIter it l i from ii) pl (by rw [List.getElem?_toArray]; exact rv.none_of hx) fun h' sb ex => ?_
      exact hN _ hx (I.write (x := it) (e := it) (t' := s.toks) mu (.inl rfl) (fun b o nb z => sb b o nb z) ex (itX_ok ex))
/-- x in it -/
theorem ci_loop {A : Around} {R : Result → Shared → Prop} {x : V} {v : Value} {zs : List V} (hh : A.handled = none) (rx : RelV x v) (fx : flatV x = true) (fz : zs.all flatV = true) (hne : l ≠ it) :
    ∀ (k i : Nat) (H : Hp) (s : Shared), zs.length + 1 - i = k → Inv X pins σ H s → H it = some (ItQ b l it i) → SqB X.K b H l zs →
    (∀ j s', i ≤ j → (∃ z, zs[j]? = some z ∧ eqV z x = true) → (∀ m z, i ≤ m → m < j → zs[m]? = some z → eqV z x = false) → Inv X pins σ (upd H it (ItQ b l it (j + 1))) s' → R (.ok (.ret (.bool true))) s') →
    (∀ s', (∀ m z, i ≤ m → zs[m]? = some z → eqV z x = false) → Inv X pins σ (upd H it (ItX it)) s' → R (.ok (.ret (.bool false))) s') →
    codeAny (model X.prog X.w) A (.builtin "proto.contains_iter" ⟨[.ref it, v], []⟩) R s := by
  intro k
  induction k with
  | zero =>
    intro i H s hk I hi hl hT hF
    refine codeAny_builtin entry_ci ?_
    rw [Around.under_plainId plain_ci]
    unfold Builtin.«proto.contains_iter»
    refine wpAny_bind (next_itQ (by exact hh) I hi hl (fun z u s' hz _ _ => ?_) fun s' hz I' => ?_)
    · have := (List.getElem?_eq_some_iff.mp hz).1
      omega
    · refine wpAny_bind (wpAny_rule (wpAny_pure ?_))
      refine hF s' (fun m z hm e => ?_) I'
      have := (List.getElem?_eq_some_iff.mp e).1
      omega
  | succ k ih =>
    intro i H s hk I hi hl hT hF
    refine codeAny_builtin entry_ci ?_
    rw [Around.under_plainId plain_ci]
    unfold Builtin.«proto.contains_iter»
    refine wpAny_bind (next_itQ (by exact hh) I hi hl (fun z u s' hz rz I' => ?_) fun s' hz I' => ?_)
    · have hlt := (List.getElem?_eq_some_iff.mp hz).1
      have fzz : flatV z = true := List.all_eq_true.mp fz z (List.mem_of_getElem? hz)
      refine wpAny_bind (eqAt_V rz rx fzz fx _ _ _ _ ?_)
      cases hb : eqV z x with
      | true =>
        refine wpAny_bind (wpAny_rule (wpAny_pure ?_))
        exact hT i s' (Nat.le_refl _) ⟨z, hz, hb⟩ (fun m z' h1 h2 _ => absurd h2 (Nat.not_lt.mpr h1)) I'
      | false =>
        refine wpAny_pure ⟨plainId_quiet plain_ci _, ?_⟩
        have hl' : SqB X.K b (upd H it (ItQ b l it (i + 1))) l zs := by
          have e : (upd H it (ItQ b l it (i + 1))) l = H l := upd_ne hne
          cases b with
          | true =>
            have q : SqL X.K H l zs := hl
            show SqL X.K _ l zs
            unfold SqL Rd at q ⊢
            simp only [e]
            exact q
          | false =>
            have q : SqT X.K H l zs := hl
            show SqT X.K _ l zs
            unfold SqT Rd at q ⊢
            simp only [e]
            exact q
        refine ih (i + 1) _ s' (by omega) I' upd_same hl' (fun j s2 hj hz2 hm I2 => ?_) fun s2 hm I2 => ?_
        · rw [upd_upd] at I2
          refine hT j s2 (by omega) hz2 (fun m z' h1 h2 e => ?_) I2
          by_cases hmi : m = i
          · subst hmi
            rw [hz] at e
            cases e
            exact hb
          · exact hm m z' (by omega) h2 e
        · rw [upd_upd] at I2
          refine hF s2 (fun m z' h1 e => ?_) I2
          by_cases hmi : m = i
          · subst hmi
            rw [hz] at e
            cases e
            exact hb
          · exact hm m z' (by omega) e
    · refine wpAny_bind (wpAny_rule (wpAny_pure ?_))
      refine hF s' (fun m z hm e => ?_) I'
      have h1 := (List.getElem?_eq_some_iff.mp e).1
      have h2 := List.getElem?_eq_none_iff.mp hz
      omega
/-- the event e in the iterator it over zs, from the place i on -/
def rInIt (K : PySem.W.Frag) : R2 := fun x y H Q => ∃ (it l : Addr) (b : Bool) (i : Nat) (zs : List V), y = .ref it ∧ H it = some (ItQ b l it i) ∧ SqB K b H l zs ∧ l ≠ it ∧ flatV x = true ∧ zs.all flatV = true ∧
  (∀ j, i ≤ j → (∃ z, zs[j]? = some z ∧ eqV z x = true) → (∀ m z, i ≤ m → m < j → zs[m]? = some z → eqV z x = false) → Q (.bl true) (upd H it (ItQ b l it (j + 1)))) ∧
  ((∀ m z, i ≤ m → zs[m]? = some z → eqV z x = false) → Q (.bl false) (upd H it (ItX it)))
theorem contains_itT {T : String} {A : Around} {E : Value → Shared → Prop} {Q : Bool → Shared → Prop} {v : Value} (hT : s.TypeIs (.ref it) T) (hno : typeLookup (.type T) "__contains__" = pure none)
    (hit : ∀ {R E : Value → Shared → Prop} {A : Around}, R (.ref it) s → wpAny (model X.prog X.w) A (pyIter (.ref it)) R E s)
    (hrun : wpAny (model X.prog X.w) A (runValue (.builtin "proto.contains_iter" ⟨[.ref it, v], []⟩)) (fun r s' => ∃ z, r = .bool z ∧ Q z s') E s) :
    wpAny (model X.prog X.w) A (contains (.ref it) v) Q E s := by
  unfold contains
  refine wpAny_holding ?_
  rw [stdlibNamesSay?_of_typeIs hT]
  refine wpAny_bind (wpAny_specialOf hT hno ?_)
  refine wpAny_ite_split (fun hab => absurd hab (by decide)) (fun _ => ?_)
  refine wpAny_bind (wpAny_callSpecialUnlessNone?_none hT hno ?_)
  refine wpAny_bind (wpAny_rule ?_)
  refine wpAny_bind (wpAny_tryCatch (hit ?_))
  refine wpAny_bind (wpAny_mono hrun (fun r s' hr => ?_) fun _ _ z => z)
  obtain ⟨z, rfl, q⟩ := hr
  exact wpAny_pure q
theorem op_in_it (hc : X.calm = true) : OpR X (compareOp .In) (rInIt X.K) := by
  intro pins s σ H x y v u Q I rx ry h
  obtain ⟨it, l, b, i, zs, rfl, hi, hl, hne, fx, fz, qT, qF⟩ := h
  cases ry
  have ii := itQ_get I hi
  have hh : X.A.handled = none := I.ok.hd hc
  show wpAny _ _ ((contains (Value.ref it) v) >>= fun z => pure (Value.bool z)) _ _ s
  have run : wpAny (model X.prog X.w) X.A (runValue (.builtin "proto.contains_iter" ⟨[.ref it, v], []⟩)) (fun r s' => ∃ z, r = .bool z ∧ wpAny (model X.prog X.w) X.A (pure (Value.bool z)) (EP X pins σ Q) X.xe s') X.xe s := by
    refine wpAny_runValue (ci_loop (X := X) (b := b) (l := l) (zs := zs) hh rx fx fz hne _ i H s rfl I hi hl (fun j s' hj hz hm I' => ?_) fun s' hm I' => ?_)
    · exact ⟨true, rfl, wpAny_pure ⟨.bl true, _, I', rfl, qT j hj hz hm⟩⟩
    · exact ⟨false, rfl, wpAny_pure ⟨.bl false, _, I', rfl, qF hm⟩⟩
  cases b with
  | true => exact wpAny_bind (contains_itT (T := "list_iterator") (show s.heap.IsListIter it l i from ii).typeIs no_contains_l (fun q => wpAny_pyIter_listiter (show s.heap.IsListIter it l i from ii) q) run)
  | false => exact wpAny_bind (contains_itT (T := "tuple_iterator") (show s.heap.IsTupleIter it l i from ii).typeIs no_contains_t (fun q => wpAny_pyIter_tupleiter (show s.heap.IsTupleIter it l i from ii) q) run)
end
end IqX
namespace RvT
open PySem PySem.Spec PyProof.Rows L2 HT
section
variable {prog : Program} {w : World} {A : Around} {E : Value → Shared → Prop} {s : Shared}
theorem sliceApplied_rev {sl : Addr} {vl vu vs : Value} {n : Nat} {Q : Int × Int × Nat → Shared → Prop} (hs : s.heap.IsSliceOf sl vl vu vs) (pl : IsPart vl none) (pu : IsPart vu none) (ps : IsPart vs (some (-1)))
    (h : Q ((n : Int) - 1, -1, n) s) : wpAny (model prog w) A (Builtin.Slice.sliceApplied (.ref sl) (pure (n : Int))) Q E s := by
  obtain ⟨os, hos, hcs, hds⟩ := id hs
  unfold Builtin.Slice.sliceApplied Builtin.Slice.sliceFields
  refine wpAny_bind (wpAny_bind (wpAny_field hos hds (x := vl) rfl (wpAny_bind (wpAny_field hos hds (x := vu) rfl (wpAny_bind (wpAny_field hos hds (x := vs) rfl (wpAny_pure ?_)))))))
  refine wpAny_bind (slicePart_ ps ?_)
  show wpAny _ _ (if ((-1 : Int) == 0) = true then _ else _) _ _ s
  rw [if_neg (by decide)]
  refine wpAny_bind (slicePart_ pl (wpAny_bind (slicePart_ pu (wpAny_bind (wpAny_pure ?_)))))
  show wpAny _ _ (pure (((n : Int) - 1), (-1 : Int), Builtin.Slice.slicePlaces ((n : Int) - 1) (-1) (-1))) _ _ s
  have e : Builtin.Slice.slicePlaces ((n : Int) - 1) (-1) (-1) = n := by
    unfold Builtin.Slice.slicePlaces
    have h1 : ¬ ((-1 : Int) > 0) := by omega
    simp only [h1, if_false, Int.neg_neg, Int.ediv_one]
    split <;> omega
  rw [e]
  exact wpAny_pure h
theorem fm_congr {α β : Type} {f g : α → Option β} : ∀ {l : List α}, (∀ x, x ∈ l → f x = g x) → l.filterMap f = l.filterMap g
  | [], _ => rfl
  | x :: r, h => by
    have h1 := h x List.mem_cons_self
    have h2 := fm_congr (f := f) (g := g) (l := r) fun y hy => h y (List.mem_cons_of_mem _ hy)
    rw [List.filterMap_cons, List.filterMap_cons, h1, h2]
theorem pick_rev (xs : Array Value) : ((List.range xs.size).filterMap fun (m : Nat) => xs[(((xs.size : Nat) : Int) - 1 + (m : Int) * (-1)).toNat]?).toArray = xs.toList.reverse.toArray := by
  congr 1
  have e : ∀ m, m ∈ List.range xs.size → xs[(((xs.size : Nat) : Int) - 1 + (m : Int) * (-1)).toNat]? = some (xs.toList.reverse.getD m default) := by
    intro m hm
    have hlt : m < xs.size := List.mem_range.mp hm
    have e1 : (((xs.size : Nat) : Int) - 1 + (m : Int) * (-1)).toNat = xs.size - 1 - m := by omega
    rw [e1, List.getD_eq_getElem?_getD, List.getElem?_reverse (by simpa using hlt)]
    have h2 : xs.size - 1 - m < xs.size := by omega
    rw [Array.getElem?_eq_getElem h2]
    simp [Array.length_toList, Array.getElem?_toList, h2]
  have e2 : (List.range xs.size).filterMap (fun (m : Nat) => xs[(((xs.size : Nat) : Int) - 1 + (m : Int) * (-1)).toNat]?) = (List.range xs.size).map (fun m => xs.toList.reverse.getD m default) := by
    rw [← List.filterMap_eq_map]
    exact fm_congr e
  rw [e2]
  apply List.ext_getElem
  · simp
  · intro i h1 h2
    simp at h1 h2 ⊢
    rw [List.getElem?_reverse (by simpa using h2)]
    simp
    have h3 : xs.size - 1 - i < xs.size := by omega
    simp [Array.getElem?_eq_getElem h3]
theorem getItem_tuple_rev {t sl : Addr} {items : Array Value} {vl vu vs : Value} {Q : Value → Shared → Prop} (ht : IsTup s.heap t items) (hs : s.heap.IsSliceOf sl vl vu vs) (pl : IsPart vl none) (pu : IsPart vu none) (ps : IsPart vs (some (-1)))
    (h : Q (.ref s.heap.objs.size) { s with heap := s.heap.push { cls := .type "tuple", data := .seq items.toList.reverse.toArray } })
    (hsz : items.size ≤ sizeLine) : wpAny (model prog w) A (getItem (.ref t) (.ref sl)) Q E s := by
  have htake : sizeOk (.seq items.toList.reverse.toArray) := by
    show items.toList.reverse.toArray.size ≤ sizeLine
    rw [List.size_toArray, List.length_reverse, Array.length_toList]
    exact hsz
  obtain ⟨os, hos, hcs, hds⟩ := id hs
  have hTs : s.TypeIs (.ref sl) "slice" := ⟨os, hos, hcs⟩
  unfold getItem
  try with_reducible refine wpAny_holding ?_
  first | refine wpAny_bind (wpAny_pure ?_) | skip
  refine wpAny_bind (wpAny_sequenceKey ht.typeIs (by decide) ?_)
  refine wpAny_bind (wpAny_callSpecial?_slot (name := Str.ofString "__getitem__") ht.typeIs PyProof.Rows.slot_tuple_getitem
    (wpAny_call_entry PyProof.Rows.slot_tuple_getitem ht.typeIs entry_tuple_getitem ?_ (args_tuple_getitem _ _)))
  show wpAny _ _ (Builtin.Tuple.tupleItemsOf (.ref t) >>= _) _ _ s
  refine wpAny_bind (tupleItemsOf_ ht ?_)
  refine wpAny_bind (wpAny_typeOf hTs ?_)
  rw [if_pos (by decide)]
  refine wpAny_bind (sliceApplied_rev hs pl pu ps ?_)
  have hno : ¬ ((((items.size : Nat) : Int) - 1 == 0 && (-1 : Int) == 1 && items.size == items.size) = true) := by
    intro q
    rw [Bool.and_eq_true, Bool.and_eq_true] at q
    exact absurd q.1.2 (by decide)
  show wpAny _ _ (if (((items.size : Nat) : Int) - 1 == 0 && (-1 : Int) == 1 && items.size == items.size) = true then _ else _) _ _ s
  rw [if_neg hno, pick_rev]
  first
    | exact wpAny_bind (m := Builtin.Tuple.tupleExact _) (wpAny_newObj_type (wpAny_pure ⟨_, rfl, wpAny_pure h⟩) htake)
    | exact wpAny_bind (m := Builtin.Tuple.tupleExact _) (wpAny_newObj_type (wpAny_bind (wpAny_pure (wpAny_pure ⟨_, rfl, wpAny_pure h⟩))) htake)
    | exact wpAny_bind (wpAny_bind (m := Builtin.Tuple.tupleExact _) (wpAny_newObj_type (wpAny_pure (wpAny_pure ⟨_, rfl, wpAny_pure h⟩)) htake))
    | exact wpAny_bind (wpAny_bind (m := Builtin.Tuple.tupleExact _) (wpAny_newObj_type (wpAny_pure ⟨_, rfl, wpAny_pure h⟩) htake))
end
section
variable {X : Cx}
/-- xs[::-1], a list or a tuple -/
def tRevS (K : PySem.W.Frag) (te : TE) : TE := fun σ H Q => te σ H fun x H1 => ∃ (b : Bool) (a : Addr) (xs : List V), x = .ref a ∧ IqX.SqB K b H1 a xs ∧ ∀ p, H1 p = none → Q (.ref p) (upd H1 p (if b = true then .lst xs.reverse else .tup xs.reverse))
theorem pe_revS {e : Expr} {te : TE} {k : Nat} {p1 p2 p3 pos : Pos} (he : PE X e te) : PE X (.Subscript e (.Slice none none (some (.UnaryOp .USub (.Constant (.int 1) k p1) p2)) p3) pos) (tRevS X.K te) := by
  refine ⟨fun pins s σ H Q I h => ?_⟩
  refine Subscript_ (thn (he.run pins s σ H _ I h) fun v s1 ⟨x, H1, I1, r1, q1⟩ => ?_)
  obtain ⟨b, a, xs, ex, hx, q⟩ := q1
  subst ex
  cases r1
  have hst : PO X (some (.UnaryOp .USub (.Constant (.int 1) k p1) p2)) (tPart (tUn (rU fun i => .int (-i)) (tC (.int 1)))) := po_some (pe_un un_neg pe_int)
  refine wpAny_Slice (thn (po_none.run pins s1 σ H1 (fun o H2 => o = none ∧ H2 = H1) I1 ⟨rfl, rfl⟩) fun vl s2 ⟨l, H2, I2, pl, el, e2⟩ => ?_)
  subst el e2
  refine thn (po_none.run pins s2 σ H2 (fun o H3 => o = none ∧ H3 = H2) I2 ⟨rfl, rfl⟩) fun vu s3 ⟨u, H3, I3, pu, eu, e3⟩ => ?_
  subst eu e3
  refine thn (hst.run pins s3 σ H3 (fun o H4 => o = some (-1) ∧ H4 = H3) I3 ⟨1, rfl, -1, rfl, rfl, rfl⟩) fun vs s4 ⟨o, H4, I4, ps, eo, e4⟩ => ?_
  subst eo e4
  have I5 : Inv X pins σ H4 { s4 with heap := s4.heap.push { cls := .type "slice", data := .fields #[vl, vu, vs] } } := I4.kept (t' := s4.toks) fun b ob q => Heap.get?_push_of_some _ q
  show wpAny (model X.prog X.w) X.A (subscriptTail e (.Slice none none (some (.UnaryOp .USub (.Constant (.int 1) k p1) p2)) p3) (.ref a) (.ref s4.heap.objs.size)) (EP X pins σ Q) X.xe { s4 with heap := s4.heap.push { cls := .type "slice", data := .fields #[vl, vu, vs] } }
  cases b with
  | true =>
    obtain ⟨its, r, ht, hz⟩ := I5.list hx.list
    have hlen := r.length
    refine tail_any (ops := [.ref a, .ref s4.heap.objs.size]) ht.isList.typeIs (PySem.slot_list_getitem.lookup) ?_ (by with_unfolding_all rfl)
    refine wpAny_getItem_list_slice ht.isList (Heap.IsSliceOf.new _ vl vu vs) pl pu ps (by decide) ?_ (by rw [List.size_toArray]; omega)
    rw [PySem.W.krv_pick]
    refine ⟨.ref _, _, I5.laid (t' := s4.toks) (o := .lst xs.reverse) (fun b ob q => Heap.get?_push_of_some _ q) (Nat.le_refl _) ?_, rfl, q _ (I5.hok.fresh (Nat.le_refl _))⟩
    exact ⟨by rw [List.length_reverse]; exact hz, _, 0, r.reverse, Heap.get?_push_size _ rfl⟩
  | false =>
    obtain ⟨its, r, ht, hz⟩ := I5.tuple hx.tup
    have hlen := r.length
    refine tail_any (ops := [.ref a, .ref s4.heap.objs.size]) ht.typeIs (PyProof.Rows.slot_tuple_getitem.lookup) ?_ (by with_unfolding_all rfl)
    refine getItem_tuple_rev ht (Heap.IsSliceOf.new _ vl vu vs) pl pu ps ?_ (by rw [List.size_toArray]; omega)
    refine ⟨.ref _, _, I5.laid (t' := s4.toks) (o := .tup xs.reverse) (fun b ob q => Heap.get?_push_of_some _ q) (Nat.le_refl _) ?_, rfl, q _ (I5.hok.fresh (Nat.le_refl _))⟩
    exact ⟨by rw [List.length_reverse]; exact hz, _, r.reverse, ⟨_, Heap.get?_push_size _ rfl, rfl, _, rfl⟩⟩
/-- for x in xs, a list or a tuple -/
def iSeq (K : PySem.W.Frag) (tl : TE) : TI := fun σ H R => tl σ H fun x H1 => ∃ (b : Bool) (a : Addr), x = .ref a ∧ (∃ xs, IqX.SqB K b H1 a xs) ∧ R (if b = true then Itl K a else Itt K a) H1
theorem pi_seq {tg l : Expr} {tl : TE} (hl : PE X l tl) : PI X tg l (iSeq X.K tl) := by
  refine ⟨fun pins s σ H R I h => ?_⟩
  refine thn (hl.run pins s σ H _ I h) fun v s1 ⟨x, H1, I1, r1, q1⟩ => ?_
  obtain ⟨b, a, e, ⟨xs, hq⟩, q⟩ := q1
  subst e
  cases r1
  cases b with
  | true =>
    obtain ⟨its, rv, p, hz⟩ := I1.list hq.list
    refine wpAny_pyIter_list p.isList ?_
    refine ⟨s1.heap.objs.size, [s1.heap.objs.size], _, _, H1, rfl, I1.kept (t' := s1.toks) fun b o e => Heap.get?_push_of_some _ e, turn_list a _, ⟨_, Heap.get?_push_size _ rfl, rfl, rfl⟩, fun b hb => ?_, q⟩
    have e : b = s1.heap.objs.size := by simpa using hb
    subst e
    exact I1.fpOk (Nat.le_refl _) (I1.hok.fresh (Nat.le_refl _))
  | false =>
    obtain ⟨its, rv, p, hz⟩ := I1.tuple hq.tup
    refine wpAny_pyIter_tuple (show s1.heap.IsTuple a its.toArray from p) ?_
    refine ⟨s1.heap.objs.size, [s1.heap.objs.size], _, _, H1, rfl, I1.kept (t' := s1.toks) fun b o e => Heap.get?_push_of_some _ e, turn_tuple a _, ⟨_, Heap.get?_push_size _ rfl, rfl, rfl⟩, fun b hb => ?_, q⟩
    have e : b = s1.heap.objs.size := by simpa using hb
    subst e
    exact I1.fpOk (Nat.le_refl _) (I1.hok.fresh (Nat.le_refl _))
theorem for_seq {K : PySem.W.Frag} {b : Bool} {a : Addr} {xs : List V} {g : TG} {tb : TS} {D : Ends} {σ : L2.St} {H : Hp} (Pv : Nat → L2.St → Hp → Prop) (h0 : Pv 0 σ H) (hl : ∀ i σ H, i ≤ xs.length → Pv i σ H → IqX.SqB K b H a xs)
    (hs : ∀ i x σ H, xs[i]? = some x → Pv i σ H → g x σ H fun σ2 H2 => tb { D with nx := Pv (i + 1), ct := Pv (i + 1), bk := D.nx } σ2 H2) (hd : ∀ σ H, Pv xs.length σ H → D.nx σ H) :
    ∃ W : Nat → Nat → L2.St → Hp → Prop, (∃ m, W 0 m σ H) ∧ ∀ i m σ H, W i m σ H →
      (((if b = true then Itl K a else Itt K a)).stop i H ∧ D.nx σ H) ∨ (((if b = true then Itl K a else Itt K a)).go i H ∧ ∃ N : L2.St → Hp → Prop, (∀ σ' H', N σ' H' → ∃ m', m' < m ∧ W (i + 1) m' σ' H') ∧ ∀ x H', ((if b = true then Itl K a else Itt K a)).yld i H x H' → g x σ H' fun σ2 H2 => tb { D with nx := N, ct := N, bk := D.nx } σ2 H2) := by
  cases b with
  | true => exact for_list (K := K) (a := a) (xs := xs) Pv h0 hl hs hd
  | false => exact for_tup (K := K) (a := a) (xs := xs) Pv h0 hl hs hd
theorem lc_seq {K : PySem.W.Frag} {b : Bool} {a : Addr} {xs : List V} {g : TG} {tt : TT} {te : TE} {vs : List Nat} {σ : L2.St} {H1 : Hp} {D : Addr} {Qd : Hp → Prop} (Pv : Nat → Hp → Prop) (h0 : Pv 0 (upd H1 D (.lst []))) (hl : ∀ i H, i ≤ xs.length → Pv i H → IqX.SqB K b H a xs)
    (hs : ∀ i x H, xs[i]? = some x → Pv i H → g x (wipe σ vs) H fun σ2 H2 => wipe σ2 vs = wipe σ vs ∧ tt σ2 H2 fun b H3 =>
      if b = true then te σ2 H3 fun y H4 => ∃ acc, H4 D = some (.lst acc) ∧ acc.length < sizeLine ∧ Pv (i + 1) (upd H4 D (.lst (acc ++ [y]))) else Pv (i + 1) H3) (hd : ∀ H, Pv xs.length H → Qd H) :
    ∃ W : Nat → Nat → Hp → Prop, (∃ m, W 0 m (upd H1 D (.lst []))) ∧ ∀ i m H, W i m H →
      ((if b = true then Itl K a else Itt K a).stop i H ∧ Qd H) ∨ ((if b = true then Itl K a else Itt K a).go i H ∧ ∃ Nx : Hp → Prop, (∀ H', Nx H' → ∃ m', m' < m ∧ W (i + 1) m' H') ∧ ∀ x H', (if b = true then Itl K a else Itt K a).yld i H x H' → g x (wipe σ vs) H' fun σ2 H2 => wipe σ2 vs = wipe σ vs ∧ tt σ2 H2 fun b H3 =>
        if b = true then te σ2 H3 fun y H4 => ∃ acc, H4 D = some (.lst acc) ∧ acc.length < sizeLine ∧ Nx (upd H4 D (.lst (acc ++ [y]))) else Nx H3) := by
  cases b with
  | true => exact lc_list (K := K) (a := a) (xs := xs) Pv h0 hl hs hd
  | false => exact lc_tup (K := K) (a := a) (xs := xs) Pv h0 hl hs hd
end
end RvT
namespace EnS
open PySem PySem.Spec PyProof.Rows L2 IqX RvT
open AutoSeq1 (wpAny_loadPart')
theorem meets_enumerate_new1 {v : Value} {o : Obj} {H : Heap → Prop} (B : Begins v o H) :
    Meets (Builtin.«enumerate.__new__» ⟨[.type "enumerate", v], []⟩) (fun _ R s => H s.heap ∧
      R (.ok (.ret (.ref (s.heap.push o).objs.size))) { s with heap := (s.heap.push o).push { cls := .type "enumerate", data := .fields #[.none, .bool false, .ref s.heap.objs.size, rawInt 0, .none, .none] } }) :=
  .of_wp fun prog w A R s h => by
    obtain ⟨hp, g, d, tk, os⟩ := s; obtain ⟨h1, h⟩ := h
    have hsub := sub_enumerate
    have q1 : ∀ {A' : Around} {E : Value → Shared → Prop} {Q : Value → Shared → Prop}, Q (.ref hp.objs.size) ⟨(hp.push o), g, d, tk, os⟩ → wpAny (model prog w) A' (pyIter v) Q E ⟨hp, g, d, tk, os⟩ :=
      fun q => B.iter prog w _ _ ⟨hp, g, d, tk, os⟩ _ (B.keeps _ _ h1 fun b o' e => e) q
    wp_walk
    refine wpAny_stack_any fun st => wpAny_pure ?_
    split
    · rename_i c _ _ _ _ _
      cases (c == Value.type "enumerate")
      · wp_walk using q1
        exact ⟨_, rfl, h⟩
      · wp_walk using q1
        exact ⟨_, rfl, h⟩
    · wp_walk using q1
      exact ⟨_, rfl, h⟩
section
variable {prog : Program} {w : World} {A : Around} {E : Value → Shared → Prop} {s : Shared}
theorem enum_begins1 {v : Value} {o : Obj} {H : Heap → Prop} {Q : Value → Shared → Prop} (B : Begins v o H) (h1 : H s.heap)
    (h : ∀ h', IsEnum h' (s.heap.objs.size + 1) s.heap.objs.size 0 .none → h'.get? s.heap.objs.size = some o → h'.objs.size = s.heap.objs.size + 2 →
      (∀ b o, s.heap.get? b = some o → h'.get? b = some o) → Q (.ref (s.heap.objs.size + 1)) { s with heap := h' }) :
    wpAny (model prog w) A (call (.type "enumerate") [v]) Q E s := by
  refine callType_new F.called_enumerate (by decide) (F.typeCall_enumerate_1 _) (F.newCall_enumerate_1 _) (fun obj => F.args_object_init_2 obj _) F.entry_enumerate_new
    (meets_enumerate_new1 B) ⟨h1, ?_⟩
  have hz : (s.heap.push o).objs.size = s.heap.objs.size + 1 := Heap.size_push ..
  show _ ∧ _
  rw [hz]
  have he : IsEnum ((s.heap.push o).push { cls := .type "enumerate", data := .fields #[.none, .bool false, .ref s.heap.objs.size, rawInt 0, .none, .none] }) (s.heap.objs.size + 1) s.heap.objs.size 0 .none := by
    have := Heap.get?_push_size (s.heap.push o) (o := { cls := .type "enumerate", data := .fields #[.none, .bool false, .ref s.heap.objs.size, rawInt 0, .none, .none] }) rfl
    rw [hz] at this; exact this
  refine ⟨⟨_, he, rfl⟩, h _ he (Heap.get?_push_of_some _ (Heap.get?_push_size _ B.free)) (by rw [Heap.size_push, hz]) fun b o x => Heap.get?_push_of_some _ (Heap.get?_push_of_some _ x)⟩
end
/-- the list (b) or tuple at a as it stands at each turn, each item in a new pair -/
def Ites (b : Bool) (K : PySem.W.Frag) (a : Addr) : It :=
  ⟨fun i H => ∃ (xs : List V) (x : V), SqB K b H a xs ∧ xs[i]? = some x, fun i H v H' => ∃ T x, v = .ref T ∧ H T = none ∧ H' = upd H T (.tup [.int (i : Nat), x]) ∧ ∀ xs, SqB K b H a xs → xs[i]? = some x, fun i H => ∃ xs : List V, SqB K b H a xs ∧ xs.length ≤ i⟩
theorem turn_enumT {P : Program} {w : World} {K : PySem.W.Frag} {elts : List Expr} {kk : Nat} {tpos : Pos} (a e it : Addr) :
    Turn P w K (.Tuple elts kk tpos) (Ites false K a) [e, it] e (fun i h => (∃ old, IsEnum h e it ((i : Nat) : Int) old) ∧ h.IsTupleIter it a i ∧ e ≠ it) where
  mem := by simp
  obj := fun i h st b hb => by
    obtain ⟨⟨old, he⟩, ⟨o, ho, hc, hd⟩, _⟩ := st
    have e' : b = e ∨ b = it := by simpa using hb
    rcases e' with z | z
    · rw [z]; exact ⟨_, he, fun v q => nomatch q⟩
    · rw [z]; exact ⟨o, ho, fun v q => by rw [hd] at q; cases q⟩
  keep := fun i h h' st k => let ⟨⟨old, he⟩, hi, hne⟩ := st; ⟨⟨old, k e (by simp) _ he⟩, hi.at fun o q => k it (by simp) o q, hne⟩
  item := by
    intro X hP hw hK hc i pins s σ H E I hf st hg
    subst hP hw hK
    obtain ⟨⟨old, he⟩, hit, hne⟩ := st
    obtain ⟨xs, x, hq, hx⟩ := hg
    obtain ⟨its, rv, p, hz⟩ := I.tuple hq.tup
    obtain ⟨u, hu, ru⟩ := rv.get hx
    have hel : e < s.heap.objs.size := Heap.lt_size he
    have hil : it < s.heap.objs.size := by obtain ⟨_, q, _⟩ := hit; exact Heap.lt_size q
    have pt : s.heap.IsTuple a its.toArray := p
    have hae : a ≠ it := by
      rintro rfl
      obtain ⟨o1, e1, c1, _⟩ := id hit
      obtain ⟨o2, e2, c2, _⟩ := id pt
      rw [e1] at e2
      cases e2
      rw [c1] at c2
      exact absurd c2 (by decide)
    have haE : e ≠ a := by
      rintro rfl
      obtain ⟨o2, e2, c2, _⟩ := id pt
      have e1 := he
      unfold IsEnum at e1
      rw [e1] at e2
      cases e2
      exact absurd (show Value.type "enumerate" = Value.type "tuple" from c2) (by decide)
    have hii : i < its.toArray.size := by
      rw [List.size_toArray]
      exact (List.getElem?_eq_some_iff.mp hu).1
    refine wpAny_pyNext_enum_itemD (Draws.tuple (A := X.A.in1) (I.ok.hd hc) it a hae its.toArray) he ⟨hit, pt⟩ hii hne (by simp [hne, haE]) fun u' h' tk hP' ho hst' hT hsz hk => ?_
    have eu : u' = u := by
      have h1 : its.toArray[i]? = some u' := hP'
      rw [List.getElem?_toArray, hu] at h1
      exact (Option.some.inj h1).symm
    subst eu
    refine ⟨_, rfl, wpAny_letOwnedTupleGo_enum (s := { s with heap := h', toks := tk + 1 }) ho fun h'' he' sb => ?_⟩
    have hT2 : h''.get? s.heap.objs.size = some { cls := .type "tuple", data := .seq #[.int i tk, u'] } := (sb.2 _ (Nat.ne_of_gt hel)).trans hT
    have new : ObjOk X.prog X.w (upd H s.heap.objs.size (.tup [.int (i : Nat), x])) h'' s.heap.objs.size (.tup [.int (i : Nat), x]) :=
      ⟨by show 2 ≤ sizeLine; decide, [.int i tk, u'], .cons ⟨_, rfl⟩ (.cons ru .nil), ⟨_, hT2, rfl, _, rfl⟩⟩
    have I1 : Inv X pins σ (upd H s.heap.objs.size (.tup [.int (i : Nat), x])) { s with heap := h'', toks := tk + 1 } :=
      I.turnedNew (ch := [e, it]) (fun b ob hb q => (sb.2 b (fun z => hb (by simp [z]))).trans (hk b ob (fun z => hb (by simp [z])) (fun z => hb (by simp [z])) q)) hf (Nat.le_refl _) new
    refine ⟨.ref s.heap.objs.size, _, I1, rfl, ⟨_, x, rfl, I.hok.fresh (Nat.le_refl _), rfl, fun ys hy => by rw [I.tuple_inj hy.tup hq.tup]; exact hx⟩, ⟨⟨u', ?_⟩, hst'.1.at fun o q => (sb.2 it (Ne.symm hne)).trans q, hne⟩, fun b hb => ?_⟩
    · have e1 : ((i + 1 : Nat) : Int) = (i : Int) + 1 := by omega
      rw [e1]; exact he'
    · have hb' : b < s.heap.objs.size := by
        have e' : b = e ∨ b = it := by simpa using hb
        rcases e' with z | z
        · rw [z]; exact hel
        · rw [z]; exact hil
      rw [upd_ne (Nat.ne_of_lt hb')]
      exact (hf b hb).1
  done := by
    intro X hP hw hK hc i pins s σ H E I hf st hg
    subst hP hw hK
    obtain ⟨⟨old, he⟩, hit, hne⟩ := st
    obtain ⟨xs, hq, hx⟩ := hg
    obtain ⟨its, rv, p, hz⟩ := I.tuple hq.tup
    obtain ⟨f0, f1, f2, f3, f4, f5⟩ := hf it (by simp)
    have hl := rv.length
    have pt : s.heap.IsTuple a its.toArray := p
    have hT : s.TypeIs (.ref e) "enumerate" := ⟨_, he, rfl⟩
    unfold pyNext
    refine wpAny_bind (wpAny_attempt (wpAny_callSpecial?_slot (name := Str.ofString "__next__") hT F.slot_enumerate_next
      (wpAny_call_entry F.slot_enumerate_next hT F.entry_enumerate_next ?_ (F.args_enumerate_next_1 _))))
    show wpAny _ _ (field (.ref e) 2 >>= _) _ _ _
    refine wpAny_bind (wpAny_field he rfl (x := .ref it) rfl ?_)
    refine wpAny_bind (wpAny_nextOf_tuple_end (by exact I.ok.hd hc) hit pt (by simp; omega) fun h' x he' hx' => ?_)
    obtain ⟨o, ho, hc'⟩ := hx'
    refine wpAny_bind (wpAny_isInstance (T := "StopIteration") (b := true) ⟨o, ho, hc'⟩ isSubtype_stop ?_)
    exact wpAny_pure ⟨rfl, I.turned (t' := s.toks) (fun b o hb q => he' b o hb q) f0 f1 f3 f4 f5⟩
  self := fun A i s Q E st h => let ⟨⟨_, he⟩, _⟩ := st; wpAny_pyIter_enum he h
def iEnumS (K : PySem.W.Frag) (ta : TA) : TI := fun σ H R => ta σ H fun vs H1 => ∃ (b : Bool) (a : Addr) (xs : List V), vs = [.ref a] ∧ SqB K b H1 a xs ∧ R (Ites b K a) H1
theorem pi_enumS {X : Cx} {e : Expr} {ta : TA} {p pos tpos : Pos} {elts : List Expr} {kk : Nat} (hg : Gl X "enumerate") (hm : X.mg "enumerate" = none) (ha : PA X [e] ta) (hs : starEach [e] X.env = [(false, eval e X.env)] := by rfl) :
    PI X (.Tuple elts kk tpos) (.Call (.Name "enumerate" p) [e] [] pos) (iEnumS X.K ta) := by
  refine ⟨fun pins s σ H R I h => ?_⟩
  refine Call_ (ld_blt I hg hm boot_enumerate (PyProof.Rows.callWith_type1 (thn (ha.run pos pins s σ H _ I h) fun us s1 ⟨vs, H1, I1, r1, q1⟩ => ?_) hs rfl))
  obtain ⟨b, a, xs, ex, hq, q⟩ := q1
  subst ex
  cases r1 with
  | cons r rr =>
    cases rr
    cases r
    have fp : ∀ b', b' ∈ [s1.heap.objs.size + 1, s1.heap.objs.size] → FpOk X pins H1 b' := fun b' hb => by
      have e' : b' = s1.heap.objs.size + 1 ∨ b' = s1.heap.objs.size := by simpa using hb
      have hle : s1.heap.objs.size ≤ b' := by
        rcases e' with z | z
        · rw [z]; exact Nat.le_add_right _ _
        · rw [z]; exact Nat.le_refl _
      exact I1.fpOk hle (I1.hok.fresh hle)
    cases b with
    | true =>
      obtain ⟨its, rv, p', hz⟩ := I1.list hq.list
      refine call_enumerate_list p'.isList fun h' he hit hsz hk => wpAny_pyIter_enum he ?_
      have I2 : Inv X pins σ H1 { s1 with heap := h' } := I1.kept (t' := s1.toks) hk
      exact ⟨s1.heap.objs.size + 1, [s1.heap.objs.size + 1, s1.heap.objs.size], _, Ites true X.K a, H1, rfl, I2, turn_enum a (s1.heap.objs.size + 1) s1.heap.objs.size, ⟨⟨.none, he⟩, hit, Nat.succ_ne_self _⟩, fp, q⟩
    | false =>
      obtain ⟨its, rv, p', hz⟩ := I1.tuple hq.tup
      refine enum_begins1 (begins_tuple a its.toArray) p' fun h' he hit hsz hk => wpAny_pyIter_enum he ?_
      have I2 : Inv X pins σ H1 { s1 with heap := h' } := I1.kept (t' := s1.toks) hk
      exact ⟨s1.heap.objs.size + 1, [s1.heap.objs.size + 1, s1.heap.objs.size], _, Ites false X.K a, H1, rfl, I2, turn_enumT a (s1.heap.objs.size + 1) s1.heap.objs.size, ⟨⟨.none, he⟩, ⟨_, hit, rfl, rfl⟩, Nat.succ_ne_self _⟩, fp, q⟩
/-- for i, x in enumerate(xs) -/
theorem for_enumS {K : PySem.W.Frag} {b : Bool} {a : Addr} {xs : List V} {g : TG} {tb : TS} {D : Ends} {σ : L2.St} {H : Hp} (Pv : Nat → L2.St → Hp → Prop) (h0 : Pv 0 σ H) (hl : ∀ i σ H, i ≤ xs.length → Pv i σ H → SqB K b H a xs)
    (hs : ∀ i x T σ H, xs[i]? = some x → Pv i σ H → H T = none → g (.ref T) σ (upd H T (.tup [.int (i : Nat), x])) fun σ2 H2 => tb { D with nx := Pv (i + 1), ct := Pv (i + 1), bk := D.nx } σ2 H2) (hd : ∀ σ H, Pv xs.length σ H → D.nx σ H) :
    ∃ W : Nat → Nat → L2.St → Hp → Prop, (∃ m, W 0 m σ H) ∧ ∀ i m σ H, W i m σ H →
      ((Ites b K a).stop i H ∧ D.nx σ H) ∨ ((Ites b K a).go i H ∧ ∃ N : L2.St → Hp → Prop, (∀ σ' H', N σ' H' → ∃ m', m' < m ∧ W (i + 1) m' σ' H') ∧ ∀ x H', (Ites b K a).yld i H x H' → g x σ H' fun σ2 H2 => tb { D with nx := N, ct := N, bk := D.nx } σ2 H2) := by
  refine ⟨fun i m σ H => m = xs.length - i ∧ i ≤ xs.length ∧ Pv i σ H, ⟨xs.length, by simp, Nat.zero_le _, h0⟩, ?_⟩
  rintro i m σ H ⟨rfl, hi, p⟩
  have q := hl i σ H hi p
  by_cases hlt : i < xs.length
  · refine .inr ⟨⟨xs, xs[i], q, by simp [hlt]⟩, Pv (i + 1), fun σ' H' p' => ⟨xs.length - (i + 1), by omega, rfl, hlt, p'⟩, fun x H' y => ?_⟩
    obtain ⟨T, z, rfl, nT, rfl, y⟩ := y
    exact hs i z T σ H (y xs q) p nT
  · have e : i = xs.length := by omega
    subst e
    exact .inl ⟨⟨xs, q, Nat.le_refl _⟩, hd σ H p⟩
end EnS
namespace LsX
open PySem PySem.Spec PyProof.Rows L2
section
variable {prog : Program} {w : World} {A : Around} {E : Value → Shared → Prop} {s : Shared}
theorem hint_str {x : Str} {t : Tok} {Q : Bool → Shared → Prop} (h : Q false s) : wpAny (model prog w) A (Builtin.List.listLengthHint (.str x t)) Q E s := by
  have hT : s.TypeIs (.str x t) "str" := typeIs_str s x t
  unfold Builtin.List.listLengthHint
  refine wpAny_bind (wpAny_specialOf hT PySem.F.slot_str_len.lookup ?_)
  generalize hid : ("str.__len__" : String) = id0
  wp_delta
  rw [show splitId id0 = some ("str", "__len__") from by subst hid; decide +kernel]
  subst hid
  refine wpAny_bind (wpAny_isInstance (T := "str") (b := true) hT (by rw [isSubtype_type]; kernel_rfl) ?_)
  refine wpAny_ite_split (fun hab => absurd hab (by decide)) (fun _ => ?_)
  refine wpAny_ite_split (fun _ => ?_) (fun hab => absurd (by decide +kernel) hab)
  refine wpAny_bind (wpAny_typeOf hT ?_)
  exact wpAny_pure h
theorem extend_str {R : Result → Shared → Prop} (hh : A.handled = none) (x : Str) (t : Tok) (S : Addr) (res : Value) (c₀ : Nat) (hS : s.heap.get? S = some { cls := .type "list", data := .seq #[] c₀ })
    (hR : ∀ h' tk acc' c', (∀ b o, b ≠ S → s.heap.get? b = some o → h'.get? b = some o) → h'.get? S = some { cls := .type "list", dict := none, data := .seq acc' c', slots := #[] } →
      ItemsOf (SignAt x) acc' x.cps.size → R (.ok (.ret res)) { s with heap := h', toks := tk }) (hn : x.cps.size ≤ sizeLine) :
    wpAny (model prog w) A.in1 (Builtin.List.listExtendWith (.ref S) (.str x t) res)
      (fun fin s' => match fin with | .done f => R (.ok f) s' | .again c' => c'.quiet = true ∧ codeAny (model prog w) A c' R s') (fun e s' => R (.error e) s') s := by
  have hSI : S ≠ s.heap.objs.size := Nat.ne_of_lt (Heap.lt_size hS)
  have hSf : S ∉ [s.heap.objs.size] := fun hm => hSI (List.mem_singleton.mp hm)
  unfold Builtin.List.listExtendWith
  refine wpAny_bind (wpAny_typeOf (T := "str") (v := .str x t) (typeIs_str s x t) ?_)
  have h1 : Builtin.List.listSameRef (.ref S) (.str x t) = false := rfl
  have h2 : (Value.type "str" == Value.type "list") = false := by decide
  have h3 : (Value.type "str" == Value.type "tuple") = false := by decide
  simp only [h1, h2, h3, Bool.or_false, Bool.false_eq_true, if_false]
  refine wpAny_bind (wpAny_pyIter_str fun o St W hst => ?_)
  refine wpAny_bind (wpAny_holding (hint_str ?_))
  rw [if_neg (by first | decide | decide +kernel)]
  have W' := W A.in1 hh
  refine wpAny_pure ⟨plainId_quiet PySem.F.plain_extend_loop _, codeAny_extend_loopS W'.toS hn _ hSf _ x.cps.size 0 _ _ _ rfl (Nat.zero_le _) hst (Heap.get?_push_of_some _ hS) (ItemsOf.nil _) fun s' acc' c' hm hS' hacc => ?_⟩
  rw [Moved.eq_with hm]
  refine hR s'.heap s'.toks acc' c' (fun b ob hb e => hm.heap b ob (fun hmem => ?_) (Heap.get?_push_of_some _ e)) hS' hacc
  rcases List.mem_cons.mp hmem with e' | hmem
  · exact hb e'
  · exact absurd (Heap.lt_size e) (by rw [List.mem_singleton.mp hmem]; exact Nat.lt_irrefl _)
theorem list_init_str {R : Result → Shared → Prop} (hh : A.handled = none) (x : Str) (t : Tok) (S : Addr) (hS : s.heap.get? S = some { cls := .type "list", data := .seq #[] })
    (hR : ∀ h' tk acc' c', (∀ b o, b ≠ S → s.heap.get? b = some o → h'.get? b = some o) → h'.get? S = some { cls := .type "list", dict := none, data := .seq acc' c', slots := #[] } →
      ItemsOf (SignAt x) acc' x.cps.size → R (.ok (.ret .none)) { s with heap := h', toks := tk }) (hn : x.cps.size ≤ sizeLine) :
    wpAny (model prog w) A.in1 (Builtin.«list.__init__» ⟨[.ref S, .str x t], []⟩)
      (fun fin s' => match fin with | .done f => R (.ok f) s' | .again c' => c'.quiet = true ∧ codeAny (model prog w) A c' R s') (fun e s' => R (.error e) s') s := by
  show wpAny _ _ (do let old ← Builtin.List.listItems (.ref S); Builtin.List.listUpdate (.ref S) (fun _ => #[]); letGo old.toList.reverse; Builtin.List.listExtendWith (.ref S) (.str x t) .none) _ _ s
  refine wpAny_bind ?_
  unfold Builtin.List.listItems
  refine wpAny_bind (wpAny_seqItems hS rfl (wpAny_pure ?_))
  show wpAny _ _ (updateSeq S (fun _ => #[]) >>= fun _ => letGo (#[] : Array Value).toList.reverse >>= fun _ => Builtin.List.listExtendWith (.ref S) (.str x t) .none) _ _ s
  refine wpAny_bind (wpAny_updateSeq hS rfl ?_)
  have hS₂ := Heap.get?_update_self (Obj.mapSeq (fun _ => (#[] : Array Value))) hS rfl
  have oth : ∀ b o, b ≠ S → s.heap.get? b = some o → (s.heap.update S (Obj.mapSeq (fun _ => (#[] : Array Value)))).get? b = some o :=
    fun b o hb e => (Heap.get?_update_other _ _ (Ne.symm hb)).trans e
  refine wpAny_bind (wpAny_letGo ?_)
  refine extend_str hh x t S .none _ hS₂ (fun h' tk acc' c' hk hS' hacc => ?_) hn
  exact hR h' tk acc' c' (fun b o hb e => hk b o hb (oth b o hb e)) hS' hacc
theorem call_list_str {x : Str} {t : Tok} {Q : Value → Shared → Prop} (hh : A.handled = none) (hn : x.cps.size ≤ sizeLine)
    (hQ : ∀ h' tk acc' c', (∀ b o, s.heap.get? b = some o → h'.get? b = some o) →
      h'.get? s.heap.objs.size = some { cls := .type "list", dict := none, data := .seq acc' c', slots := #[] } → ItemsOf (SignAt x) acc' x.cps.size → Q (.ref s.heap.objs.size) { s with heap := h', toks := tk }) :
    wpAny (model prog w) A (call (.type "list") [.str x t]) Q E s := by
  refine callType_codes (Q₁ := fun obj s₁ => obj = .ref s.heap.objs.size ∧ s₁ = { s with heap := s.heap.push { cls := .type "list", data := .seq #[] } }) PySem.F.called_list (PySem.F.typeCall_list_1 _) PySem.F.entry_list_init
    (code_list_new _ ⟨rfl, rfl⟩) fun obj s₁ h₁ => ?_
  obtain ⟨rfl, rfl⟩ := h₁
  have hS : (s.heap.push { cls := .type "list", data := .seq #[] }).get? s.heap.objs.size = some { cls := .type "list", data := .seq #[] } := Heap.get?_push_size _ rfl
  refine ⟨⟨_, hS, rfl⟩, PySem.F.args_list_init_2 _ _, list_init_str (A := A.in1) hh x t _ hS (fun h' tk acc' c' hk hS' hacc => ?_) hn⟩
  exact ⟨rfl, hQ h' tk acc' c' (fun b o e => hk b o (Nat.ne_of_lt (Heap.lt_size e)) (Heap.get?_push_of_some _ e)) hS' hacc⟩
end
/-- list(x), x a text: its signs -/
theorem call_list_signs {X : Cx} (hc : X.calm = true) : CallR X (.type "list") (fun xs H Q => ∃ z : Str, xs = [.str z] ∧ z.cps.size ≤ sizeLine ∧ ∀ p, H p = none → Q (.ref p) (upd H p (.lst (z.cps.toList.map fun c => V.str ⟨#[c]⟩)))) := by
  intro pins s σ H xs us Q I r h
  obtain ⟨z, rfl, hz, q⟩ := h
  obtain ⟨u, rfl, t, rfl⟩ := vals1 r
  refine call_list_str (I.ok.hd hc) hz fun h' tk acc' c' kp e ha => ?_
  have hr : Vals (z.cps.toList.map fun c => V.str ⟨#[c]⟩) acc'.toList := by
    refine vals_of_idx _ _ ?_ fun j u hj => ?_
    · rw [List.length_map, Array.length_toList, Array.length_toList]
      exact ha.1
    · obtain ⟨c, tk', hcj, rfl⟩ := ha.2 j u (by rw [← Array.getElem?_toList]; exact hj)
      refine ⟨.str ⟨#[c]⟩, ?_, tk', rfl⟩
      rw [List.getElem?_map, Array.getElem?_toList, hcj]
      rfl
  exact ⟨.ref s.heap.objs.size, _, I.laid (t' := tk) kp (Nat.le_refl _) (show ObjOk X.prog X.w _ h' _ (.lst _) from ⟨by rw [List.length_map, Array.length_toList]; exact hz, acc'.toList, c', hr, by simpa using e⟩), rfl, q _ (I.hok.fresh (Nat.le_refl _))⟩
end LsX
namespace LwB
open PySem PySem.Spec PyProof.Rows L2 IqX RvT
/-! ### frames: all but the box stays -/
def Fr (b : Addr) (H H' : Hp) : Prop := ∀ a o, H a = some o → a ≠ b → H' a = some o
theorem Fr.refl (b : Addr) (H : Hp) : Fr b H H := fun _ _ h _ => h
theorem Fr.trans {b : Addr} {H H1 H2 : Hp} (x : Fr b H H1) (y : Fr b H1 H2) : Fr b H H2 := fun a o h n => y a o (x a o h n) n
theorem Fr.same {b : Addr} {H H' : Hp} (x : Same H H') : Fr b H H' := fun a o h _ => x a o h
theorem same_new {H : Hp} {p : Addr} {o : HO} (h : H p = none) : Same H (upd H p o) := fun b x e => by
  rw [upd_ne (ne_of_none e h)]
  exact e
theorem Fr.new {b : Addr} {H : Hp} {p : Addr} {o : HO} (h : H p = none) : Fr b H (upd H p o) := Fr.same (same_new h)
theorem Fr.put {b : Addr} {H : Hp} {o : HO} : Fr b H (upd H b o) := fun a x e n => by
  rw [upd_ne n]
  exact e
/-- a store to a thing that was not there at first -/
theorem Fr.young {b : Addr} {H H1 : Hp} {p : Addr} {o : HO} (x : Fr b H H1) (h : H p = none) : Fr b H (upd H1 p o) := fun a u e n => by
  rw [upd_ne (ne_of_none e h)]
  exact x a u e n
theorem Same.young {H H1 : Hp} {p : Addr} {o : HO} (x : Same H H1) (h : H p = none) : Same H (upd H1 p o) := fun a u e => by
  rw [upd_ne (ne_of_none e h)]
  exact x a u e
theorem Fr.free {b : Addr} {H H' : Hp} (x : Fr b H H') {l : Addr} (n : l ≠ b) (h : H' l = none) : H l = none := by
  cases q : H l with
  | none => rfl
  | some o =>
    rw [x l o q n] at h
    cases h
theorem seqL_of {K : PySem.W.Frag} {H H' : Hp} {a : Addr} {xs : List V} (e : ∀ o, H a = some o → H' a = some o) (h : SqL K H a xs) : SqL K H' a xs := by
  rcases h with (h | ⟨o, h⟩) | h
  · exact .inl (.inl (e _ h))
  · exact .inl (.inr ⟨o, e _ h⟩)
  · exact .inr h
theorem seqT_of {K : PySem.W.Frag} {H H' : Hp} {a : Addr} {xs : List V} (e : ∀ o, H a = some o → H' a = some o) (h : SqT K H a xs) : SqT K H' a xs := by
  rcases h with (h | ⟨o, h⟩) | h
  · exact .inl (.inl (e _ h))
  · exact .inl (.inr ⟨o, e _ h⟩)
  · exact .inr h
theorem seqB_of {K : PySem.W.Frag} {b : Bool} {H H' : Hp} {a : Addr} {xs : List V} (e : ∀ o, H a = some o → H' a = some o) (h : SqB K b H a xs) : SqB K b H' a xs := by
  cases b with
  | true => exact seqL_of e h
  | false => exact seqT_of e h
theorem _root_.L2.Same.sqB {K : PySem.W.Frag} {b : Bool} {H H' : Hp} {a : Addr} {xs : List V} (s : Same H H') (h : SqB K b H a xs) : SqB K b H' a xs := seqB_of (fun o e => s a o e) h
theorem _root_.L2.Same.sqT {K : PySem.W.Frag} {H H' : Hp} {a : Addr} {xs : List V} (s : Same H H') (h : SqT K H a xs) : SqT K H' a xs := seqT_of (fun o e => s a o e) h
theorem Fr.sqB {K : PySem.W.Frag} {b : Bool} {c : Addr} {H H' : Hp} {a : Addr} {xs : List V} (s : Fr c H H') (n : a ≠ c) (h : SqB K b H a xs) : SqB K b H' a xs := seqB_of (fun o e => s a o e n) h
theorem Fr.sqL {K : PySem.W.Frag} {c : Addr} {H H' : Hp} {a : Addr} {xs : List V} (s : Fr c H H') (n : a ≠ c) (h : SqL K H a xs) : SqL K H' a xs := seqL_of (fun o e => s a o e n) h
theorem Fr.sqT {K : PySem.W.Frag} {c : Addr} {H H' : Hp} {a : Addr} {xs : List V} (s : Fr c H H') (n : a ≠ c) (h : SqT K H a xs) : SqT K H' a xs := seqT_of (fun o e => s a o e n) h
theorem sqL_lst {K : PySem.W.Frag} {H : Hp} {a : Addr} {xs : List V} (h : H a = some (.lst xs)) : SqB K true H a xs := SqL.of h
theorem sqT_tup {K : PySem.W.Frag} {H : Hp} {a : Addr} {xs : List V} (h : H a = some (.tup xs)) : SqB K false H a xs := SqT.of h

/-- a list (b) or a tuple that stands in H -/
def Sq (b : Bool) (H : Hp) (a : Addr) (xs : List V) : Prop := Rd H a (if b = true then .lst xs else .tup xs)
theorem Sq.there {b : Bool} {H : Hp} {a : Addr} {xs : List V} (h : Sq b H a xs) : ∃ o, H a = some o := by
  rcases h with h | ⟨o, h⟩
  · exact ⟨_, h⟩
  · exact ⟨_, h⟩
theorem Sq.ne {b : Bool} {H : Hp} {a p : Addr} {xs : List V} (h : Sq b H a xs) (n : H p = none) : a ≠ p := by
  obtain ⟨o, e⟩ := h.there
  exact ne_of_none e n
theorem Sq.B {K : PySem.W.Frag} {b : Bool} {H : Hp} {a : Addr} {xs : List V} (h : Sq b H a xs) : SqB K b H a xs := by
  cases b with
  | true => exact .inl h
  | false => exact .inl h
theorem Sq.L {K : PySem.W.Frag} {H : Hp} {a : Addr} {xs : List V} (h : Sq true H a xs) : SqL K H a xs := .inl h
theorem Sq.T {K : PySem.W.Frag} {H : Hp} {a : Addr} {xs : List V} (h : Sq false H a xs) : SqT K H a xs := .inl h
theorem Sq.LT {K : PySem.W.Frag} {b : Bool} {H : Hp} {a : Addr} {xs : List V} (h : Sq b H a xs) : SqL K H a xs ∨ SqT K H a xs := by
  cases b with
  | true => exact .inl (.inl h)
  | false => exact .inr (.inl h)
theorem Sq.of {b : Bool} {H : Hp} {a : Addr} {xs : List V} (h : H a = Option.some (if b = true then HO.lst xs else HO.tup xs)) : Sq b H a xs := .inl h
theorem Sq.lst {H : Hp} {a : Addr} {xs : List V} (h : H a = some (HO.lst xs)) : Sq true H a xs := .inl h
theorem Sq.tup {H : Hp} {a : Addr} {xs : List V} (h : H a = some (HO.tup xs)) : Sq false H a xs := .inl h
theorem Sq.put {b : Bool} {H : Hp} {a : Addr} {xs : List V} : Sq b (L2.upd H a (if b = true then HO.lst xs else HO.tup xs)) a xs := .inl upd_same
theorem Sq.mv {b : Bool} {H H' : Hp} {a : Addr} {xs : List V} (e : ∀ o, H a = some o → H' a = some o) (h : Sq b H a xs) : Sq b H' a xs := by
  rcases h with h | ⟨o, h⟩
  · exact .inl (e _ h)
  · exact .inr ⟨o, e _ h⟩
theorem _root_.L2.Same.sq {b : Bool} {H H' : Hp} {a : Addr} {xs : List V} (s : Same H H') (h : Sq b H a xs) : Sq b H' a xs := h.mv fun o e => s a o e
theorem Fr.sq {b : Bool} {c : Addr} {H H' : Hp} {a : Addr} {xs : List V} (s : Fr c H H') (n : a ≠ c) (h : Sq b H a xs) : Sq b H' a xs := h.mv fun o e => s a o e n
theorem Sq.inj {b : Bool} {H : Hp} {a : Addr} {xs ys : List V} (h : Sq b H a xs) (h' : Sq b H a ys) : xs = ys := by
  rcases h with h | ⟨o, h⟩ <;> rcases h' with h' | ⟨o', h'⟩ <;> (rw [h] at h'; cases b <;> cases h' <;> rfl)

/-! ### the box -/
def Bx (n : Nat) (H : Hp) (b : Addr) : Prop := ∃ x0 x1 x2 : Int, H b = some (.lst [.int x0, .int x1, .int x2]) ∧ 0 ≤ x0 ∧ 0 ≤ x1 ∧ x1 < 2 ^ 62 ∧ 0 ≤ x2 ∧ x2 ≤ (n : Int)
theorem Bx.mono {n m : Nat} {H : Hp} {b : Addr} (h : n ≤ m) (x : Bx n H b) : Bx m H b := by
  obtain ⟨x0, x1, x2, e, h0, h1, h2, h3, h4⟩ := x
  exact ⟨x0, x1, x2, e, h0, h1, h2, h3, by omega⟩
theorem Bx.ne_new {n : Nat} {H : Hp} {b p : Addr} (x : Bx n H b) (h : H p = none) : p ≠ b := by
  obtain ⟨x0, x1, x2, e, _⟩ := x
  exact (ne_of_none e h).symm
theorem Bx.same {n : Nat} {H H' : Hp} {b : Addr} (x : Bx n H b) (s : Same H H') : Bx n H' b := by
  obtain ⟨x0, x1, x2, e, r⟩ := x
  exact ⟨x0, x1, x2, s _ _ e, r⟩
theorem Bx.new {n : Nat} {H : Hp} {b p : Addr} {o : HO} (x : Bx n H b) (h : H p = none) : Bx n (upd H p o) b := x.same (same_new h)
theorem Bx.upd {n : Nat} {H : Hp} {b p : Addr} {o : HO} (x : Bx n H b) (h : p ≠ b) : Bx n (upd H p o) b := by
  obtain ⟨x0, x1, x2, e, r⟩ := x
  exact ⟨x0, x1, x2, by rw [upd_ne h.symm]; exact e, r⟩

/-! ### defs that are called by their names -/
structure Ok (P : Program) (w : World) (K : PySem.W.Frag) (mg : Str → Option Value) (base : Heap) (k : Nat) (x : Str) (ps : List Str) (sp : Sp) : Prop where
  ex : ∃ (f : Addr) (fd : FuncData), FnOk P w K mg base CX0 k f fd ps sp ∧ mg x = some (.ref f) ∧ PySem.W.keepIn K (.ref f) = true ∧ Binds K fd ps [] ∧ ∃ (oc : Value) (od : Option Addr) (osl : Array (Option Value)), K.lookup f = some ⟨oc, od, .func fd, osl⟩
structure Df (K : PySem.W.Frag) (mg : Str → Option Value) (x : Str) (st : Stmt) (ps : List Str) : Prop where
  ex : ∃ (f : Addr) (fd : FuncData), Fun K x x st f fd ∧ mg x = some (.ref f) ∧ Binds K fd ps []
section
variable {P : Program} {w : World} {K : PySem.W.Frag} {mg : Str → Option Value} {base : Heap}
theorem Df.ok {x : Str} {st : Stmt} {N ps : List Str} {k : Nat} {sp : Sp} (D : Df K mg x st ps) (S : FnScope N ps (defScope st)) (len : ∀ vs H Q E, sp vs H Q E → vs.length = ps.length)
    (hbody : ∀ (f : Addr) (cdv : Value) (A : Around) (outer : List Env) (s : Shared) (H : Hp) (vs : List V) (Q : VK) (E : XK), Room k (A.deeper (envOfC x (defScope st) s.heap.objs.size f cdv)) → sp vs H Q E →
      ∃ t, PSs (cxOf CX0 P w K mg base N x (defScope st) f cdv A outer s H E).nox (defBody st) t ∧ t { nx := fun _ H' => Q .non H', rt := Q } (start N vs) H) : Ok P w K mg base (k + 1) x ps sp := by
  obtain ⟨f, fd, F, g, b⟩ := D.ex
  obtain ⟨oc, od, _, _, _, _, _, _, osl, _, lk, _⟩ := F.ex
  exact ⟨f, fd, F.ok S len (hbody f), g, F.kp, b, oc, od, osl, lk⟩
theorem Ok.up {x : Str} {ps : List Str} {k : Nat} {sp sp' : Sp} (O : Ok P w K mg base k x ps sp) (h : sp = sp') : Ok P w K mg base k x ps sp' := h ▸ O
end
section
variable {X : Cx} {k : Nat} {x : Str} {ps : List Str} {sp : Sp} {e : Expr} {es : List Expr} {t : TA} {p pos : Pos}
theorem pe_c (O : Ok X.prog X.w X.K X.mg X.base k x ps sp) (hr : Room k X.A) (ha : PA X (e :: es) t) (hg : Gl X x := by rfl)
    (hdb : (x == ("__debug__" : Str)) = false := by decide) (he : starEach (e :: es) X.env = (false, eval e X.env) :: starEach es X.env := by rfl) (hpl : (backTo pos (starEach es X.env)).any (·.1) = false := by rfl) :
    PE X (.Call (.Name x p) (e :: es) [] pos) (tCall sp [] E0 t) := by
  obtain ⟨f, fd, F, g, kp, b, _⟩ := O.ex
  exact pe_call F hr hg g kp b .nil pass0 ha hdb he hpl
theorem pe_c0 (O : Ok X.prog X.w X.K X.mg X.base k x ps sp) (hr : Room k X.A) (hg : Gl X x := by rfl)
    (hdb : (x == ("__debug__" : Str)) = false := by decide) :
    PE X (.Call (.Name x p) [] [] pos) (tCall sp [] E0 tNil) := by
  obtain ⟨f, fd, F, g, kp, b, _⟩ := O.ex
  exact pe_call0 F hr hg g kp b .nil pass0 hdb
end
/-! ### f(b=.., a=..): two parameters, by their names, the other way about -/
def swap2 {α : Type} : List α → List α → List α
  | [], [x, y] => [y, x]
  | _, _ => []
/-- how the def's two parameters bind by their names, the second one first -/
def Kw2 (x : Str) (st : Stmt) (ps ks : List Str) : Prop := ∀ (kV doc pm : Value) (an : Option Addr) (cdv ct u v : Value), bindArgs (PySem.W.fnOf x x (defArgs st) (defBody st) (defScope st) .none kV doc pm an cdv ct) ⟨[], ks.zip [u, v]⟩ = pure (ps.zip [v, u])
section
variable {X : Cx} {k : Nat} {x : Str} {ps ks : List Str} {sp : Sp} {kws : List Keyword} {tk : TA} {p pos : Pos} {st : Stmt}
def tCall2 (sp : Sp) (tk : TA) : TE := fun σ H Q => tk σ H fun zs H1 => ∃ u v : V, zs = [u, v] ∧ sp [v, u] H1 Q E0
theorem pe_kw2 (O : Ok X.prog X.w X.K X.mg X.base k x ps sp) (D : Df X.K X.mg x st ps) (kb : Kw2 x st ps ks) (hr : Room k X.A) (hkw : PK X kws tk) (hk2 : ks.length = 2 := by rfl) (hg : Gl X x := by rfl)
    (hall : (backToKw pos (keywordEach kws X.env)).all (·.1.isSome) = true := by rfl) (hks : (backToKw pos (keywordEach kws X.env)).filterMap (·.1) = ks := by rfl) (hdb : (x == ("__debug__" : Str)) = false := by decide)
    (hpl : ((backTo pos (starEach [] X.env)).any (·.1) || (backToKw pos (keywordEach kws X.env)).any (·.1.isNone)) = false := by rfl) :
    PE X (.Call (.Name x p) [] kws pos) (tCall2 sp tk) := by
  obtain ⟨f, fd, F, g, kp, b, oc, od, osl, lk⟩ := O.ex
  obtain ⟨f', fd', F', g', b'⟩ := D.ex
  rw [g] at g'
  cases g'
  obtain ⟨oc2, od2, kV, doc, pm, an, cdv, ct, osl2, efd, lk2, _⟩ := F'.ex
  rw [lk] at lk2
  cases lk2
  have K2 : KBn X.K fd ps 0 ks swap2 swap2 := by
    refine ⟨fun s us ws _ l1 l2 => ?_, fun {vs us zs ws} r1 r2 => ?_⟩
    · match us, ws, l1, l2.trans hk2 with
      | [], [u, v], _, _ =>
        rw [efd]
        exact .of_eq (kb kV doc pm an cdv ct u v)
    · cases r1 with
      | nil =>
        cases r2 with
        | nil => exact .nil
        | cons a r2 =>
          cases r2 with
          | nil => exact .nil
          | cons b r2 =>
            cases r2 with
            | nil => exact .cons b (.cons a .nil)
            | cons c r2 => exact .nil
      | cons a r1 => cases r2 <;> exact .nil
  refine ⟨fun pins s σ H Q I h => ?_⟩
  refine wpAny_Call_Name_kw (ld_glob I hg g ?_ hdb)
  refine PySem.W.callWith_KW0 (h₀ := X.base) I.ok.mod.kin kp hall ?_ hpl
  refine thn (hkw.run pos pins s σ H _ I h) fun ws s2 ⟨zs, H2, I2, rz, u, v, ez, q2⟩ => ⟨I2.kIn, ?_⟩
  subst ez
  rw [hks]
  exact run_fnN (us := []) (vs := []) F hr K2 pass0 I2 .nil rz rfl hk2.symm q2
end
/-! ### built-ins that the text leaves as they are -/
structure Bn (mg : Str → Option Value) : Prop where
  len : mg "len" = none
  abs : mg "abs" = none
  int : mg "int" = none
  list : mg "list" = none
  tuple : mg "tuple" = none
  range : mg "range" = none
  min : mg "min" = none
  max : mg "max" = none
  enumerate : mg "enumerate" = none
  zip : mg "zip" = none
  isinstance : mg "isinstance" = none
  all : mg "all" = none
  bool : mg "bool" = none
  str : mg "str" = none
  iter : mg "iter" = none
  sorted : mg "sorted" = none
section
variable {X : Cx} {pos : Pos}
theorem pe_ty {T : Str} {n : String} (hm : X.mg T = none) (hv : bootBuiltins T = some (.type n) := by decide +kernel) (hg : Gl X T := by rfl) (hn : T ≠ Str.ofString "__name__" := by decide) (hd : (T == ("__debug__" : Str)) = false := by decide) : PE X (.Name T pos) (tC (.ty n)) := pe_bltn (hn := hn) (hd := hd) hg hm hv rfl
end
/-! ### texts as values -/
theorem flat_strs (ws : List Str) : (ws.map V.str).all flatV = true := by
  rw [List.all_map]
  exact List.all_eq_true.mpr fun _ _ => rfl
theorem map_get {ws : List Str} {i : Nat} {x : V} (h : (ws.map V.str)[i]? = some x) : ∃ z, ws[i]? = some z ∧ x = .str z := by
  rw [List.getElem?_map] at h
  cases e : ws[i]? with
  | none =>
    rw [e] at h
    cases h
  | some z =>
    rw [e] at h
    exact ⟨z, rfl, (Option.some.inj h).symm⟩
theorem get_map {ws : List Str} {i : Nat} {z : Str} (h : ws[i]? = some z) : (ws.map V.str)[i]? = some (.str z) := by
  rw [List.getElem?_map, h]
  rfl
/-! ### parts -/
def isPart : List Str → List Str → Bool
  | [], _ => true
  | _ :: _, [] => false
  | w :: ws, e :: es => if e = w then isPart ws es else isPart (w :: ws) es
theorem isPart_nil : ∀ es : List Str, isPart [] es = true
  | [] => by simp [isPart]
  | _ :: _ => by simp [isPart]
theorem isPart_find {w : Str} {ws : List Str} : ∀ {es : List Str} {j : Nat}, es[j]? = some w → (∀ (m : Nat) (z : Str), m < j → es[m]? = some z → z ≠ w) → isPart (w :: ws) es = isPart ws (es.drop (j + 1))
  | [], _, h, _ => by simp at h
  | e :: es, 0, h, _ => by
    have : e = w := Option.some.inj h
    show (if e = w then isPart ws es else isPart (w :: ws) es) = _
    rw [if_pos this]
    rfl
  | e :: es, j + 1, h, hm => by
    have hne : e ≠ w := hm 0 e (Nat.succ_pos _) rfl
    show (if e = w then isPart ws es else isPart (w :: ws) es) = _
    rw [if_neg hne, isPart_find (es := es) (j := j) h fun m z h1 h2 => hm (m + 1) z (Nat.succ_lt_succ h1) h2]
    rfl
theorem isPart_miss {w : Str} {ws : List Str} : ∀ {es : List Str}, (∀ (m : Nat) (z : Str), es[m]? = some z → z ≠ w) → isPart (w :: ws) es = false
  | [], _ => rfl
  | e :: es, hm => by
    have hne : e ≠ w := hm 0 e rfl
    show (if e = w then isPart ws es else isPart (w :: ws) es) = _
    rw [if_neg hne]
    exact isPart_miss fun m z h => hm (m + 1) z h
theorem eqV_str {a b : Str} : eqV (.str a) (.str b) = (a == b) := rfl
/-- whether word is a part of log; nothing else changes -/
def spPart : Sp := fun vs H Q _ => ∃ (b1 b2 : Bool) (a c : Addr) (ws es : List Str), vs = [.ref a, .ref c] ∧ Sq b1 H a (ws.map V.str) ∧ Sq b2 H c (es.map V.str) ∧ ∀ H', Same H H' → Q (.bl (isPart ws es)) H'
theorem drop_at {α : Type} {ws : List α} {i : Nat} {z : α} (hz : ws[i]? = some z) : ws.drop i = z :: ws.drop (i + 1) := by
  obtain ⟨h, e⟩ := List.getElem?_eq_some_iff.mp hz
  rw [List.drop_eq_getElem_cons h, e]
end LwB
namespace LwB
open PySem PySem.Spec PyProof.Rows L2 IqX RvT EnS
/-- the places of the longest beginning of word that is a part of log -/
def early : List Str → List Str → Nat → List Nat
  | [], _, _ => []
  | _ :: _, [], _ => []
  | w :: ws, e :: es, k => if e = w then k :: early ws es (k + 1) else early (w :: ws) es (k + 1)
theorem early_nil (es : List Str) (k : Nat) : early [] es k = [] := by
  cases es <;> simp [early]
theorem early_end (ws : List Str) (k : Nat) : early ws [] k = [] := by
  cases ws <;> simp [early]
theorem early_hit {w e : Str} {ws es : List Str} {k : Nat} (h : e = w) : early (w :: ws) (e :: es) k = k :: early ws es (k + 1) := by
  show (if e = w then _ else _) = _
  rw [if_pos h]
theorem early_miss {w e : Str} {ws es : List Str} {k : Nat} (h : e ≠ w) : early (w :: ws) (e :: es) k = early (w :: ws) es (k + 1) := by
  show (if e = w then _ else _) = _
  rw [if_neg h]
theorem early_len : ∀ (es ws : List Str) (k : Nat), (early ws es k).length ≤ ws.length
  | [], ws, k => by rw [early_end]; exact Nat.zero_le _
  | e :: es, [], k => by rw [early_nil]; exact Nat.zero_le _
  | e :: es, w :: ws, k => by
    by_cases h : e = w
    · rw [early_hit h]
      exact Nat.succ_le_succ (early_len es ws (k + 1))
    · rw [early_miss h]
      exact early_len es (w :: ws) (k + 1)
/-- at p a new thing, and all else as it was -/
def NewAt (H H' : Hp) (p : Addr) (o : HO) : Prop := Same H H' ∧ H p = none ∧ H' p = some o
def nats (ns : List Nat) : List V := ns.map fun n => V.int (n : Nat)
def spEarly : Sp := fun vs H Q _ => ∃ (b1 b2 : Bool) (a c : Addr) (ws es : List Str), vs = [.ref a, .ref c] ∧ Sq b1 H a (ws.map V.str) ∧ Sq b2 H c (es.map V.str) ∧ ws.length ≤ 1000 ∧
  ∀ H' p, NewAt H H' p (.lst (nats (early ws es 0))) → Q (.ref p) H'
/-! ### rules over Sq -/
section
variable {X : Cx}
/-- xs[i] -/
def rIxQ : R2 := fun x y H Q => ∃ (b : Bool) (a : Addr) (xs : List V) (i : Int) (v : V), x = .ref a ∧ y = .int i ∧ Sq b H a xs ∧ atI xs i = some v ∧ Q v H
theorem ix_sq : IxR X rIxQ := by
  intro value slice pins s σ H x y v u Q I rx ry h e
  obtain ⟨b, a, xs, i, z, rfl, rfl, hq, ha, q⟩ := h
  refine ix_seq value slice pins s σ H _ _ v u Q I rx ry ?_ e
  cases b with
  | true => exact .inl ⟨a, xs, i, z, rfl, rfl, hq.L, ha, q⟩
  | false => exact .inr (.inl ⟨a, xs, i, z, rfl, rfl, hq.T, ha, q⟩)
/-- len(xs) -/
def rLenQ : List V → Hp → VK → Prop := fun vs H Q => ∃ (b : Bool) (a : Addr) (xs : List V), vs = [.ref a] ∧ Sq b H a xs ∧ Q (.int (xs.length : Nat)) H
theorem call_lenQ : CallR X (.builtin "len") rLenQ := by
  intro pins s σ H xs us Q I r h
  obtain ⟨b, a, zs, rfl, hq, q⟩ := h
  exact call_len_seq pins s σ H _ us Q I r ⟨a, zs, rfl, hq.LT, q⟩
theorem pe_len {e : Expr} {te : TA} {p pos : Pos} (hm : X.mg "len" = none) (he : PA X [e] te) (hg : Gl X "len" := by rfl) (hs : starEach [e] X.env = (false, eval e X.env) :: starEach [] X.env := by rfl) : PE X (.Call (.Name "len" p) [e] [] pos) (tCB rLenQ te) := pe_callB (he := hs) call_lenQ hg hm PySem.boot_len he
/-- xs[lo:hi]: what comes is a list or tuple of the cut -/
def rSlQ : V → Option Int → Option Int → Hp → VK → Prop := fun x lo hi H Q => ∃ (b : Bool) (a : Addr) (xs : List V), x = .ref a ∧ Sq b H a xs ∧ ∀ H' p, Same H H' → (b = true → H p = none ∧ H' p = some (.lst (cutV xs lo hi))) → Sq b H' p (cutV xs lo hi) → Q (.ref p) H'
theorem cutV_whole {xs : List V} {lo hi : Option Int} (h : HT.sIx xs.length 0 lo = 0 ∧ HT.sIx xs.length xs.length hi = xs.length) : cutV xs lo hi = xs := by
  unfold cutV
  rw [h.1, h.2]
  simp
theorem sl_sq : SlR X rSlQ := by
  intro pins s σ H x v vl vu lo hi sl Q I rx hs pl pu h
  obtain ⟨b, a, xs, rfl, hq, q⟩ := h
  cases b with
  | true =>
    exact sl_list pins s σ H _ v vl vu lo hi sl Q I rx hs pl pu ⟨a, xs, rfl, hq.L, fun p np => q _ p (same_new np) (fun _ => ⟨np, upd_same⟩) (Sq.lst upd_same)⟩
  | false =>
    refine sl_tupA pins s σ H _ v vl vu lo hi sl Q I rx hs pl pu ⟨a, xs, rfl, hq.T, fun hw => ?_, fun _ p np => q _ p (same_new np) (fun e => nomatch e) (Sq.tup upd_same)⟩
    refine q H a (Same.refl H) (fun e => nomatch e) ?_
    rw [cutV_whole hw]
    exact hq
/-- tuple(xs) -/
def rTupQ : List V → Hp → VK → Prop := fun vs H Q => ∃ (b : Bool) (a : Addr) (xs : List V), vs = [.ref a] ∧ Sq b H a xs ∧ ∀ H' p, Same H H' → Sq false H' p xs → Q (.ref p) H'
theorem call_tupQ : CallR X (.type "tuple") rTupQ := by
  intro pins s σ H xs us Q I r h
  obtain ⟨b, a, zs, rfl, hq, q⟩ := h
  refine call_tuple_of pins s σ H _ us Q I r ?_
  cases b with
  | true => exact ⟨a, zs, rfl, .inl ⟨hq.L, fun p np => q _ p (same_new np) (Sq.tup upd_same)⟩⟩
  | false => exact ⟨a, zs, rfl, .inr ⟨hq.T, q _ _ (Same.refl H) hq⟩⟩
/-- list(xs) -/
def rListQ : List V → Hp → VK → Prop := fun vs H Q => ∃ (b : Bool) (a : Addr) (xs : List V), vs = [.ref a] ∧ Sq b H a xs ∧ ∀ H' p, NewAt H H' p (.lst xs) → Q (.ref p) H'
theorem call_listQ : CallR X (.type "list") rListQ := by
  intro pins s σ H xs us Q I r h
  obtain ⟨b, a, zs, rfl, hq, q⟩ := h
  refine call_list_of pins s σ H _ us Q I r ?_
  exact ⟨a, zs, rfl, hq.LT, fun p np => q _ p ⟨same_new np, np, upd_same⟩⟩
theorem pe_tupQ {e : Expr} {te : TA} {p pos : Pos} (hm : X.mg "tuple" = none) (he : PA X [e] te) (hg : Gl X "tuple" := by rfl) (hs : starEach [e] X.env = (false, eval e X.env) :: starEach [] X.env := by rfl) : PE X (.Call (.Name "tuple" p) [e] [] pos) (tCB rTupQ te) := pe_callTy (he := hs) call_tupQ hg hm (by decide +kernel) he
theorem pe_listQ {e : Expr} {te : TA} {p pos : Pos} (hm : X.mg "list" = none) (he : PA X [e] te) (hg : Gl X "list" := by rfl) (hs : starEach [e] X.env = (false, eval e X.env) :: starEach [] X.env := by rfl) : PE X (.Call (.Name "list" p) [e] [] pos) (tCB rListQ te) := pe_callTy (he := hs) call_listQ hg hm (by decide +kernel) he
end
theorem cut_from (xs : List V) (n : Nat) : cutV xs (some (n : Int)) none = xs.drop n := by
  unfold cutV
  rw [HT.sIx_nat, HT.sIx_none]
  by_cases h : n ≤ xs.length
  · rw [Nat.min_eq_left h, List.take_of_length_le (by rw [List.length_drop]; exact Nat.le_refl _)]
  · rw [Nat.min_eq_right (by omega), Nat.sub_self, List.take_zero, List.drop_eq_nil_of_le (by omega)]
theorem cut_to (xs : List V) (n : Nat) : cutV xs none (some (n : Int)) = xs.take n := by
  unfold cutV
  rw [HT.sIx_nat, HT.sIx_none, List.drop_zero, Nat.sub_zero]
  by_cases h : n ≤ xs.length
  · rw [Nat.min_eq_left h]
  · rw [Nat.min_eq_right (by omega), List.take_length, List.take_of_length_le (by omega)]
theorem cut_mid (xs : List V) (m n : Nat) : cutV xs (some (m : Int)) (some (n : Int)) = (xs.drop m).take (n - m) := by
  unfold cutV
  rw [HT.sIx_nat, HT.sIx_nat]
  by_cases h : m ≤ xs.length
  · rw [Nat.min_eq_left h]
    by_cases h2 : n ≤ xs.length
    · rw [Nat.min_eq_left h2]
    · rw [Nat.min_eq_right (by omega), List.take_of_length_le (by rw [List.length_drop]; omega), List.take_of_length_le (by rw [List.length_drop]; omega)]
  · rw [Nat.min_eq_right (by omega : xs.length ≤ m), List.drop_length, List.drop_eq_nil_of_le (by omega), List.take_nil, List.take_nil]
/-- what is left of word -/
def restOf (ws es : List Str) : List Str := ws.drop (early ws es 0).length
def spRest : Sp := fun vs H Q _ => ∃ (b1 b2 : Bool) (a c : Addr) (ws es : List Str), vs = [.ref a, .ref c] ∧ Sq b1 H a (ws.map V.str) ∧ Sq b2 H c (es.map V.str) ∧ ws.length ≤ 1000 ∧
  ∀ H' p, Same H H' → Sq false H' p ((restOf ws es).map V.str) → Q (.ref p) H'
def spFront : Sp := fun vs H Q _ => ∃ (b1 b2 : Bool) (a c : Addr) (ws es : List Str), vs = [.ref a, .ref c] ∧ Sq b1 H a (ws.map V.str) ∧ Sq b2 H c (es.map V.str) ∧ ws.length ≤ 1000 ∧
  ∀ H' p, Same H H' → Sq false H' p ((restOf ws.reverse es.reverse).reverse.map V.str) → Q (.ref p) H'
end LwB
namespace LwB
open PySem PySem.Spec PyProof.Rows L2 IqX RvT EnS TL
/-! ### the law's own helpers: what they promise -/
def spBox : Sp := fun vs H Q _ => ∃ (a : Addr) (ns : List Int) (k : Nat), vs = [.ref a, .int k] ∧ Sq true H a (ns.map V.int) ∧ k < 1000 ∧
  ∀ H' p, Same H H' → H p = none → Bx 0 H' p → Q (.ref p) H'
def spTake : Sp := fun vs H Q _ => ∃ (b : Addr) (n : Nat) (m : Int), vs = [.ref b, .int m] ∧ Bx n H b ∧ n < 1000000000 ∧ 0 < m ∧ m < 1073741824 ∧
  ∀ H' r, Fr b H H' → Bx (n + 1) H' b → 0 ≤ r → r < m → Q (.int r) H'
def spCells (K : PySem.W.Frag) : Sp := fun vs H Q _ => ∃ (a : Addr) (ns : List Int) (t : Nat), vs = [.ref a, .int t] ∧ SqL K H a (ns.map V.int) ∧ 0 < t ∧ t ≤ 63 ∧ ns.length ≤ 63 ∧
  ∀ H' p (zs : List Int), NewAt H H' p (.lst (zs.map V.int)) → 0 < zs.length → zs.length ≤ t → Q (.ref p) H'
/-- the signs of a text, each a text -/
def signs (z : Str) : List V := z.cps.toList.map fun c => V.str ⟨#[c]⟩
/-- goods: a text or a list, of such items -/
def Goods (H : Hp) (b : Addr) (g : V) (xs : List V) : Prop := (∃ z : Str, g = .str z ∧ z.length ≤ 1000000 ∧ xs = signs z) ∨ (∃ (t : Bool) (l : Addr), g = .ref l ∧ l ≠ b ∧ Sq t H l xs ∧ xs.length ≤ 1000000)
theorem Goods.len {H : Hp} {b : Addr} {g : V} {xs : List V} (h : Goods H b g xs) : xs.length ≤ 1000000 := by
  rcases h with ⟨z, _, h, rfl⟩ | ⟨_, _, _, _, _, h⟩
  · unfold signs
    rw [List.length_map]
    exact h
  · exact h
theorem Goods.fr {H H' : Hp} {b : Addr} {g : V} {xs : List V} (f : Fr b H H') (h : Goods H b g xs) : Goods H' b g xs := by
  rcases h with h | ⟨t, l, e, n, hs, hl⟩
  · exact .inl h
  · exact .inr ⟨t, l, e, n, f.sq n hs, hl⟩
def spOf : Sp := fun vs H Q _ => ∃ (b : Addr) (n : Nat) (g : V) (xs : List V), vs = [.ref b, g] ∧ Bx n H b ∧ n < 1000000000 ∧ Goods H b g xs ∧ 0 < xs.length ∧
  ∀ H' x, Fr b H H' → Bx (n + 1) H' b → x ∈ xs → Q x H'
def spPick : Sp := fun vs H Q _ => ∃ (b : Addr) (n m : Nat) (g : V) (xs : List V), vs = [.ref b, g, .int m] ∧ Bx n H b ∧ n < 900000000 ∧ m ≤ 1000000 ∧ Goods H b g xs ∧
  ∀ H' p ys rest, Fr b H H' → Bx (n + m) H' b → H p = none → H' p = some (.lst ys) → (ys ++ rest).Perm xs → ys.length = min m xs.length → Q (.ref p) H'
theorem ixN_nat {n k : Nat} (h : k < n) : ixN n (k : Int) = some k := by
  unfold ixN
  rw [if_pos (by omega), if_pos (by omega)]
  simp
theorem _root_.L2.PE.imp {X : Cx} {e : Expr} {t t' : TE} (h : PE X e t) (i : ∀ σ H Q, t' σ H Q → t σ H Q) : PE X e t' := ⟨fun pins s σ H Q I q => h.run pins s σ H Q I (i σ H Q q)⟩
theorem _root_.L2.PS.imp {X : Cx} {st : Stmt} {t t' : TS} (h : PS X st t) (i : ∀ D σ H, t' D σ H → t D σ H) : PS X st t' := ⟨fun pins s σ H D I q => h.run pins s σ H D I (i D σ H q)⟩
theorem _root_.L2.PSs.imp {X : Cx} {st : List Stmt} {t t' : TS} (h : PSs X st t) (i : ∀ D σ H, t' D σ H → t D σ H) : PSs X st t' := ⟨fun pins s σ H D I q => h.run pins s σ H D I (i D σ H q)⟩
theorem seqIndex_nat {n k : Nat} (h : k < n) : seqIndex? (k : Int) n = some k := by
  unfold seqIndex?
  have h1 : ¬ ((k : Int) < 0) := by omega
  simp only [h1, if_false]
  have h2 : (0 : Int) ≤ (k : Int) := by omega
  have h3 : (k : Int) < (n : Int) := by omega
  simp [h2, h3]
theorem erase_perm {α : Type} : ∀ (l : List α) (i : Nat) (h : i < l.length), (l[i] :: l.eraseIdx i).Perm l
  | [], _, h => absurd h (Nat.not_lt_zero _)
  | x :: xs, 0, _ => List.Perm.refl _
  | x :: xs, i + 1, h => by
    have h' : i < xs.length := Nat.lt_of_succ_lt_succ h
    show (xs[i] :: x :: xs.eraseIdx i).Perm (x :: xs)
    exact (List.Perm.swap x xs[i] _).trans ((erase_perm xs i h').cons x)
theorem pick_perm {fs pool xs : List V} {k : Nat} (h : k < pool.length) (p : (fs ++ pool).Perm xs) : ((fs ++ [pool[k]]) ++ pool.eraseIdx k).Perm xs := by
  refine List.Perm.trans ?_ p
  rw [List.append_assoc]
  refine List.Perm.append_left fs ?_
  show (pool[k] :: pool.eraseIdx k).Perm pool
  exact erase_perm pool k h
/-- list(script[:top]) or [0] -/
def tCellsAt (K : PySem.W.Frag) : TE := fun σ H Q => ∃ (a : Addr) (ns : List Int) (t : Nat), σ[0]? = some (some (.ref a)) ∧ σ[1]? = some (some (.int t)) ∧ SqL K H a (ns.map V.int) ∧ 0 < t ∧
  ∀ H' p (zs : List Int), NewAt H H' p (.lst (zs.map V.int)) → 0 < zs.length → zs.length ≤ t → (t < ns.length → zs.length = t) → Q (.ref p) H'
/-! ### rules over goods -/
section
variable {X : Cx}
def rLenG : List V → Hp → VK → Prop := fun vs H Q => ∃ (b : Addr) (g : V) (xs : List V), vs = [g] ∧ Goods H b g xs ∧ Q (.int (xs.length : Nat)) H
theorem call_lenG : CallR X (.builtin "len") rLenG := by
  intro pins s σ H xs us Q I r h
  obtain ⟨b, g, zs, rfl, hg, q⟩ := h
  rcases hg with ⟨z, rfl, hz, rfl⟩ | ⟨t, l, rfl, _, hs, _⟩
  · refine call_len_str pins s σ H _ us Q I r ⟨z, rfl, Nat.le_trans hz (by decide), ?_⟩
    unfold signs at q
    rw [List.length_map] at q
    exact q
  · exact call_len_seq pins s σ H _ us Q I r ⟨l, zs, rfl, hs.LT, q⟩
theorem pe_lenG {e : Expr} {te : TA} {p pos : Pos} (hm : X.mg "len" = none) (he : PA X [e] te) (hg : Gl X "len" := by rfl) (hs : starEach [e] X.env = (false, eval e X.env) :: starEach [] X.env := by rfl) : PE X (.Call (.Name "len" p) [e] [] pos) (tCB rLenG te) := pe_callB (he := hs) call_lenG hg hm PySem.boot_len he
/-- list(goods) -/
def rListG : List V → Hp → VK → Prop := fun vs H Q => ∃ (b : Addr) (g : V) (xs : List V), vs = [g] ∧ Goods H b g xs ∧ ∀ H' p, NewAt H H' p (.lst xs) → Q (.ref p) H'
theorem call_listG (hc : X.calm = true) : CallR X (.type "list") rListG := by
  intro pins s σ H xs us Q I r h
  obtain ⟨b, g, zs, rfl, hg, q⟩ := h
  rcases hg with ⟨z, rfl, hz, rfl⟩ | ⟨t, l, rfl, _, hs, _⟩
  · exact LsX.call_list_signs hc pins s σ H _ us Q I r ⟨z, rfl, Nat.le_trans hz (by decide), fun p np => q _ p ⟨same_new np, np, upd_same⟩⟩
  · exact call_listQ pins s σ H _ us Q I r ⟨t, l, zs, rfl, hs, q⟩
theorem pe_listG {e : Expr} {te : TA} {p pos : Pos} (hc : X.calm = true) (hm : X.mg "list" = none) (he : PA X [e] te) (hg : Gl X "list" := by rfl) (hs : starEach [e] X.env = (false, eval e X.env) :: starEach [] X.env := by rfl) : PE X (.Call (.Name "list" p) [e] [] pos) (tCB rListG te) := pe_callTy (he := hs) (call_listG hc) hg hm (by decide +kernel) he
/-- abs(i), int(i), int(b) -/
theorem pe_abs {e : Expr} {te : TA} {p pos : Pos} (hm : X.mg "abs" = none) (he : PA X [e] te) (hg : Gl X "abs" := by rfl) (hs : starEach [e] X.env = (false, eval e X.env) :: starEach [] X.env := by rfl) : PE X (.Call (.Name "abs" p) [e] [] pos) (tCB (fun xs H Q => ∃ i, xs = [V.int i] ∧ Q (.int (if i < 0 then -i else i)) H) te) := pe_callB (he := hs) call_abs hg hm (by decide +kernel) he
theorem pe_int1 {e : Expr} {te : TA} {p pos : Pos} (hm : X.mg "int" = none) (he : PA X [e] te) (hg : Gl X "int" := by rfl) (hs : starEach [e] X.env = (false, eval e X.env) :: starEach [] X.env := by rfl) : PE X (.Call (.Name "int" p) [e] [] pos) (tCB (fun xs H Q => (∃ i, xs = [V.int i] ∧ Q (.int i) H) ∨ ∃ k, xs = [V.bl k] ∧ Q (.int (if k then 1 else 0)) H) te) := pe_callTy (he := hs) call_int1 hg hm (by decide +kernel) he
def rIxG : R2 := fun x y H Q => ∃ (b : Addr) (xs : List V) (i : Nat) (v : V), y = .int i ∧ Goods H b x xs ∧ xs[i]? = some v ∧ Q v H
theorem ix_goods : IxR X rIxG := by
  intro value slice pins s σ H x y v u Q I rx ry h e
  obtain ⟨b, xs, i, w', rfl, hg, hi, q⟩ := h
  refine ix_seq value slice pins s σ H _ _ v u Q I rx ry ?_ e
  rcases hg with ⟨z, rfl, hz, rfl⟩ | ⟨t, l, rfl, _, hs, _⟩
  · refine .inr (.inr ?_)
    unfold signs at hi
    rw [List.getElem?_map] at hi
    cases hc : z.cps.toList[i]? with
    | none =>
      rw [hc] at hi
      cases hi
    | some c =>
      rw [hc] at hi
      cases hi
      exact ⟨z, i, c, rfl, rfl, Nat.le_trans hz (by decide), atI_nat hc, q⟩
  · cases t with
    | true => exact .inl ⟨l, xs, i, w', rfl, rfl, hs.L, atI_nat hi, q⟩
    | false => exact .inr (.inl ⟨l, xs, i, w', rfl, rfl, hs.T, atI_nat hi, q⟩)
end
end LwB
namespace LwB
open PySem PySem.Spec PyProof.Rows L2 IqX RvT EnS TL
/-! ### trees of values -/
inductive Tr where
  | non | bl (b : Bool) | int (i : Int) | str (z : Str) | sq (t : Bool) (ts : List Tr)
/-- a list that may be changed, or a tuple -/
def Sx (t : Bool) (H : Hp) (a : Addr) (xs : List V) : Prop := Sq t H a xs ∧ (t = true → H a = some (.lst xs))
theorem Sx.lst {H : Hp} {a : Addr} {xs : List V} (h : H a = some (.lst xs)) : Sx true H a xs := ⟨.lst h, fun _ => h⟩
theorem Sx.tup {H : Hp} {a : Addr} {xs : List V} (h : Sq false H a xs) : Sx false H a xs := ⟨h, fun e => nomatch e⟩
theorem Sx.mv {t : Bool} {H H' : Hp} {a : Addr} {xs : List V} (e : ∀ o, H a = some o → H' a = some o) (h : Sx t H a xs) : Sx t H' a xs := ⟨h.1.mv e, fun q => e _ (h.2 q)⟩
def Is (H : Hp) (n : Nat) : Tr → V → Prop := match n with
  | 0 => fun t v => match t with
    | .non => v = V.non
    | .bl b => v = V.bl b
    | .int i => v = V.int i
    | .str z => v = V.str z
    | .sq _ _ => False
  | n + 1 => fun t v => match t with
    | .non => v = V.non
    | .bl b => v = V.bl b
    | .int i => v = V.int i
    | .str z => v = V.str z
    | .sq t ts => ∃ (a : Addr) (xs : List V), v = V.ref a ∧ Sx t H a xs ∧ xs.length ≤ 1000000 ∧ Paired (Is H n) ts xs
theorem Is.non {H : Hp} {n : Nat} : Is H n .non V.non := by cases n <;> rfl
theorem Is.bl {H : Hp} {n : Nat} {b : Bool} : Is H n (.bl b) (V.bl b) := by cases n <;> rfl
theorem Is.int {H : Hp} {n : Nat} {i : Int} : Is H n (.int i) (V.int i) := by cases n <;> rfl
theorem Is.str {H : Hp} {n : Nat} {z : Str} : Is H n (.str z) (V.str z) := by cases n <;> rfl
theorem Is.sq {H : Hp} {n : Nat} {t : Bool} {a : Addr} {ts : List Tr} {xs : List V} (h : Sx t H a xs) (hl : xs.length ≤ 1000000) (p : Paired (Is H n) ts xs) : Is H (n + 1) (.sq t ts) (V.ref a) := ⟨a, xs, rfl, h, hl, p⟩
theorem Is.non_eq {H : Hp} {n : Nat} {v : V} (h : Is H n .non v) : v = .non := by cases n <;> exact h
theorem Is.bl_eq {H : Hp} {n : Nat} {b : Bool} {v : V} (h : Is H n (.bl b) v) : v = .bl b := by cases n <;> exact h
theorem Is.int_eq {H : Hp} {n : Nat} {i : Int} {v : V} (h : Is H n (.int i) v) : v = .int i := by cases n <;> exact h
theorem Is.str_eq {H : Hp} {n : Nat} {z : Str} {v : V} (h : Is H n (.str z) v) : v = .str z := by cases n <;> exact h
theorem Is.sq_eq {H : Hp} {n : Nat} {t : Bool} {ts : List Tr} {v : V} (h : Is H n (.sq t ts) v) : ∃ m a xs, n = m + 1 ∧ v = .ref a ∧ Sx t H a xs ∧ xs.length ≤ 1000000 ∧ Paired (Is H m) ts xs := by
  cases n with
  | zero => exact absurd h id
  | succ m =>
    obtain ⟨a, xs, e, hs, hl, p⟩ := h
    exact ⟨m, a, xs, rfl, e, hs, hl, p⟩
theorem paired_imp {α β : Type} {F G : α → β → Prop} : ∀ {l₁ : List α} {l₂ : List β}, Paired F l₁ l₂ → (∀ a b, F a b → G a b) → Paired G l₁ l₂
  | _, _, .nil, _ => .nil
  | _, _, .cons r t, f => .cons (f _ _ r) (paired_imp t f)
theorem Is.mv {H H' : Hp} (e : ∀ a o, H a = some o → H' a = some o) : ∀ {n : Nat} {t : Tr} {v : V}, Is H n t v → Is H' n t v := by
  intro n
  induction n with
  | zero => intro t v h; cases t <;> exact h
  | succ n ih =>
    intro t v h
    cases t with
    | sq t ts =>
      obtain ⟨a, xs, e', hs, hl, p⟩ := h
      exact ⟨a, xs, e', hs.mv fun o q => e a o q, hl, paired_imp p fun a b q => ih q⟩
    | _ => exact h
theorem Is.same {H H' : Hp} {n : Nat} {t : Tr} {v : V} (s : Same H H') (h : Is H n t v) : Is H' n t v := h.mv s
theorem Is.up {H : Hp} : ∀ {n : Nat} {t : Tr} {v : V}, Is H n t v → Is H (n + 1) t v := by
  intro n
  induction n with
  | zero =>
    intro t v h
    cases t with
    | sq t ts => exact absurd h id
    | _ => exact h
  | succ n ih =>
    intro t v h
    cases t with
    | sq t ts =>
      obtain ⟨a, xs, e', hs, hl, p⟩ := h
      exact ⟨a, xs, e', hs, hl, paired_imp p fun a b q => ih q⟩
    | _ => exact h
theorem Is.mono {H : Hp} {n m : Nat} {t : Tr} {v : V} (h : n ≤ m) (x : Is H n t v) : Is H m t v := by
  induction h with
  | refl => exact x
  | step _ ih => exact ih.up
theorem paired_get {α β : Type} {F : α → β → Prop} : ∀ {l₁ : List α} {l₂ : List β} {i : Nat} {y : β}, Paired F l₁ l₂ → l₂[i]? = some y → ∃ x, l₁[i]? = some x ∧ F x y
  | _, _, _, _, .nil, h => by simp at h
  | _, _, 0, _, .cons r _, h => by
    simp at h
    subst h
    exact ⟨_, rfl, r⟩
  | _, _, i + 1, y, .cons _ t, h => by
    obtain ⟨x, e, r⟩ := paired_get (i := i) (y := y) t (by simpa using h)
    exact ⟨x, by simpa using e, r⟩
/-- both are the same: _law_same says so -/
def spSame : Nat → Sp
  | 0 => fun _ _ _ _ => False
  | n + 1 => fun vs H Q _ => ∃ (v1 v2 : V) (t : Tr), vs = [v1, v2] ∧ Is H n t v1 ∧ Is H n t v2 ∧ ∀ H', Same H H' → Q (.bl true) H'
theorem spSame_len : ∀ {n : Nat} {vs : List V} {H : Hp} {Q : VK} {E : XK}, spSame n vs H Q E → vs.length = 2
  | 0, _, _, _, _, h => h.elim
  | n + 1, _, _, _, _, ⟨_, _, _, e, _⟩ => by rw [e]; rfl
theorem kit2 {K : PySem.W.Frag} {t a b : String} {r1 r2 : Bool} (h1 : kitB t a = some r1) (h2 : kitB t b = some r2) : PySem.W.kitAny K (.type t) [.type a, .type b] = some (r1 || r2) := by
  cases r1 with
  | true => exact kitAny_cons (kit_ty h1) (fun e => nomatch e) (fun _ => rfl)
  | false =>
    refine kitAny_cons (kit_ty h1) (fun _ => ?_) (fun e => nomatch e)
    cases r2 with
    | true => exact kitAny_cons (kit_ty h2) (fun e => nomatch e) (fun _ => rfl)
    | false => exact kitAny_cons (kit_ty h2) (fun _ => kitAny_nil) (fun e => nomatch e)
theorem iteD {c A B : Prop} [Decidable c] (h : c) (a : A) : if decide c = true then A else B := by
  rw [if_pos (decide_eq_true h)]
  exact a
theorem iteDF {c A B : Prop} [Decidable c] (h : ¬ c) (b : B) : if decide c = true then A else B := by
  rw [if_neg (by simp [h])]
  exact b
theorem iteND {c A B : Prop} [Decidable c] (h : c) (b : B) : if (!decide c) = true then A else B := by
  rw [if_neg (by simp [h])]
  exact b
theorem Sq.ty {K : PySem.W.Frag} {t : Bool} {H : Hp} {a : Addr} {xs : List V} (h : Sq t H a xs) : TyX K H (.ref a) (.type (if t = true then "list" else "tuple")) := by
  cases t with
  | true =>
    rcases h with h | ⟨o, h⟩
    · exact .base (.lst h)
    · exact .base (.frz h)
  | false =>
    rcases h with h | ⟨o, h⟩
    · exact .base (.tup h)
    · exact .fTuple h
section
variable {X : Cx} {p pos : Pos} {e : Expr} {es : List Expr} {te : TA}
/-- isinstance(x, T) and isinstance(x, (T, U)): built-in types -/
def rIsQ (K : PySem.W.Frag) : List V → Hp → VK → Prop := fun vs H Q => ∃ (x : V) (T t : String) (b : Bool), vs = [x, .ty T] ∧ TyX K H x (.type t) ∧ kitB t T = some b ∧ Q (.bl b) H
theorem call_isQ : CallR X (.builtin "isinstance") (rIsQ X.K) := by
  intro pins s σ H xs us Q I r h
  obtain ⟨x, T, t, b, rfl, ty, hk, q⟩ := h
  exact call_isi pins s σ H _ us Q I r ⟨x, .ty T, .type t, .type T, b, rfl, .ty T, ty, kit_ty hk, q⟩
def rIsQ2 (K : PySem.W.Frag) : List V → Hp → VK → Prop := fun vs H Q => ∃ (x : V) (tp : Addr) (T U t : String) (b c : Bool), vs = [x, .ref tp] ∧ H tp = some (.tup [.ty T, .ty U]) ∧ TyX K H x (.type t) ∧ kitB t T = some b ∧ kitB t U = some c ∧ Q (.bl (b || c)) H
theorem call_isQ2 : CallR X (.builtin "isinstance") (rIsQ2 X.K) := by
  intro pins s σ H xs us Q I r h
  obtain ⟨x, tp, T, U, t, b, c, rfl, hT, ty, hb, hc, q⟩ := h
  exact call_isiT pins s σ H _ us Q I r ⟨x, tp, _, .type t, [.type T, .type U], _, rfl, hT, .cons (.ty T) (.cons (.ty U) .nil), ty, kit2 hb hc, q⟩
theorem pe_isQ (hm : X.mg "isinstance" = none) (he : PA X (e :: es) te) (hg : Gl X "isinstance" := by rfl) (hs : starEach (e :: es) X.env = (false, eval e X.env) :: starEach es X.env := by rfl) (hpl : (backTo pos (starEach es X.env)).any (·.1) = false := by rfl) :
    PE X (.Call (.Name "isinstance" p) (e :: es) [] pos) (tCB (rIsQ X.K) te) := pe_callB (he := hs) (hpl := hpl) call_isQ hg hm (by decide +kernel) he
theorem pe_isQ2 (hm : X.mg "isinstance" = none) (he : PA X (e :: es) te) (hg : Gl X "isinstance" := by rfl) (hs : starEach (e :: es) X.env = (false, eval e X.env) :: starEach es X.env := by rfl) (hpl : (backTo pos (starEach es X.env)).any (·.1) = false := by rfl) :
    PE X (.Call (.Name "isinstance" p) (e :: es) [] pos) (tCB (rIsQ2 X.K) te) := pe_callB (he := hs) (hpl := hpl) call_isQ2 hg hm (by decide +kernel) he
end
/-- a comprehension over zip of two lists (or tuples) of one length -/
theorem lc_zipB {K : PySem.W.Frag} {b : Bool} {a c : Addr} {xs ys : List V} {g : TG} {tt : TT} {te : TE} {vs : List Nat} {σ : L2.St} {H1 : Hp} {D : Addr} {Qd : Hp → Prop} (hlen : xs.length = ys.length) (Pv : Nat → Hp → Prop) (h0 : Pv 0 (upd H1 D (.lst []))) (hl : ∀ i H, i ≤ xs.length → Pv i H → SqB K b H a xs ∧ SqB K b H c ys)
    (hs : ∀ i x y T H, xs[i]? = some x → ys[i]? = some y → Pv i H → H T = none → g (.ref T) (wipe σ vs) (upd H T (.tup [x, y])) fun σ2 H2 => wipe σ2 vs = wipe σ vs ∧ tt σ2 H2 fun b H3 =>
      if b = true then te σ2 H3 fun y H4 => ∃ acc, H4 D = some (.lst acc) ∧ acc.length < sizeLine ∧ Pv (i + 1) (upd H4 D (.lst (acc ++ [y]))) else Pv (i + 1) H3) (hd : ∀ H, Pv xs.length H → Qd H) :
    ∃ W : Nat → Nat → Hp → Prop, (∃ m, W 0 m (upd H1 D (.lst []))) ∧ ∀ i m H, W i m H →
      ((if b = true then Itz K a c else RZ.ItzT K a c).stop i H ∧ Qd H) ∨ ((if b = true then Itz K a c else RZ.ItzT K a c).go i H ∧ ∃ Nx : Hp → Prop, (∀ H', Nx H' → ∃ m', m' < m ∧ W (i + 1) m' H') ∧ ∀ x H', (if b = true then Itz K a c else RZ.ItzT K a c).yld i H x H' → g x (wipe σ vs) H' fun σ2 H2 => wipe σ2 vs = wipe σ vs ∧ tt σ2 H2 fun b H3 =>
        if b = true then te σ2 H3 fun y H4 => ∃ acc, H4 D = some (.lst acc) ∧ acc.length < sizeLine ∧ Nx (upd H4 D (.lst (acc ++ [y]))) else Nx H3) := by
  refine ⟨fun i m H => m = xs.length - i ∧ i ≤ xs.length ∧ Pv i H, ⟨xs.length, by simp, Nat.zero_le _, h0⟩, ?_⟩
  rintro i m H ⟨rfl, hi, p⟩
  obtain ⟨q1, q2⟩ := hl i H hi p
  by_cases hlt : i < xs.length
  · have hlt2 : i < ys.length := by omega
    refine .inr ⟨?_, Pv (i + 1), fun H' p' => ⟨xs.length - (i + 1), by omega, rfl, hlt, p'⟩, fun x H' y => ?_⟩
    · cases b with
      | true => exact ⟨xs, ys, xs[i], ys[i], q1, q2, by simp [hlt], by simp [hlt2]⟩
      | false => exact ⟨xs, ys, xs[i], ys[i], q1, q2, by simp [hlt], by simp [hlt2]⟩
    · cases b with
      | true =>
        obtain ⟨T, z, z2, rfl, nT, rfl, y1, y2⟩ := y
        exact hs i z z2 T H (y1 xs q1) (y2 ys q2) p nT
      | false =>
        obtain ⟨T, z, z2, rfl, nT, rfl, y1, y2⟩ := y
        exact hs i z z2 T H (y1 xs q1) (y2 ys q2) p nT
  · have e : i = xs.length := by omega
    subst e
    refine .inl ⟨?_, hd H p⟩
    cases b with
    | true => exact ⟨xs, ys, q1, q2, .inl (Nat.le_refl _)⟩
    | false => exact ⟨xs, ys, q1, q2, .inl (Nat.le_refl _)⟩
def iZipQ (K : PySem.W.Frag) (ta : TA) : TI := fun σ H R => ta σ H fun vs H1 => ∃ (t : Bool) (a b : Addr) (xs ys : List V), vs = [.ref a, .ref b] ∧ SqB K t H1 a xs ∧ SqB K t H1 b ys ∧ R (if t = true then Itz K a b else RZ.ItzT K a b) H1
theorem _root_.L2.PI.imp {X : Cx} {tg it : Expr} {t t' : TI} (h : PI X tg it t) (i : ∀ σ H R, t' σ H R → t σ H R) : PI X tg it t' := ⟨fun pins s σ H R I q => h.run pins s σ H R I (i σ H R q)⟩
theorem pi_zipQ {X : Cx} {e e2 : Expr} {ta : TA} {p pos tpos : Pos} {elts : List Expr} {kk : Nat} (hm : X.mg "zip" = none) (ha : PA X [e, e2] ta) (hg : Gl X "zip" := by rfl)
    (hs : starEach [e, e2] X.env = (false, eval e X.env) :: starEach [e2] X.env := by rfl) (hpl : (backTo pos (starEach [e2] X.env)).any (·.1) = false := by rfl) :
    PI X (.Tuple elts kk tpos) (.Call (.Name "zip" p) [e, e2] [] pos) (iZipQ X.K ta) := by
  have h := RZ.pi_zipA (X := X) (p := p) (pos := pos) (tpos := tpos) (elts := elts) (kk := kk) (hs := hs) (hpl := hpl) hg hm (ta := fun σ H Q => ∃ R : List V → Hp → Prop, ta σ H R ∧ ∀ vs H', R vs H' → Q vs H') ⟨fun q pins s σ H Q I h => ?_⟩
  · refine PI.imp h fun σ H R q => ?_
    refine ⟨_, q, fun vs H1 ⟨t, a, b, xs, ys, e, h1, h2, r⟩ => ?_⟩
    cases t with
    | true => exact ⟨a, b, xs, ys, e, .inl ⟨h1, h2, r⟩⟩
    | false => exact ⟨a, b, xs, ys, e, .inr ⟨h1, h2, r⟩⟩
  · obtain ⟨R, h1, h2⟩ := h
    exact thn (ha.run q pins s σ H R I h1) fun us s1 ⟨vs, H1, I1, r, z⟩ => ⟨vs, H1, I1, r, h2 _ _ z⟩
/-! ### letters and names -/
def one (c : Nat) : Str := ⟨#[c]⟩
def gv (c : Nat) : V := V.str (one c)
def ungv : V → Nat
  | .str z => z.cps.toList.headD 0
  | _ => 0
theorem ungv_gv (c : Nat) : ungv (gv c) = c := rfl
def Letter (c : Nat) : Prop := 97 ≤ c ∧ c ≤ 122
def NameOk (z : Str) : Prop := 1 ≤ (tl z).length ∧ (tl z).length ≤ 8 ∧ ∀ c ∈ tl z, Letter c
theorem tl_one (c : Nat) : tl (one c) = [c] := rfl
theorem signs_eq (z : Str) : signs z = (tl z).map gv := rfl
theorem flat_one : ∀ cs : List Nat, ((cs.map one).map tl).flatten = cs
  | [] => rfl
  | c :: cs => by
    show [c] ++ ((cs.map one).map tl).flatten = c :: cs
    rw [flat_one cs]
    rfl
theorem joinL_nil : ∀ ls : List (List Nat), joinL [] ls = ls.flatten
  | [] => rfl
  | [p] => by simp [joinL]
  | p :: q :: r => by
    show p ++ ([] ++ joinL [] (q :: r)) = _
    rw [joinL_nil (q :: r)]
    rfl
theorem tl_joined {sep : Str} (h : tl sep = []) (cs : List Nat) : tl (Txt.join sep (cs.map one)) = cs := by
  rw [join_eq, tl_join, h, joinL_nil, flat_one]
theorem len_ones (cs : List Nat) : ((cs.map one).map (·.length)).sum = cs.length := by
  induction cs with
  | nil => rfl
  | cons c cs ih =>
    show (one c).length + ((cs.map one).map (·.length)).sum = cs.length + 1
    rw [ih]
    show 1 + cs.length = _
    omega
theorem vals_ones (cs : List Nat) : (cs.map one).map V.str = cs.map gv := by
  rw [List.map_map]
  rfl
theorem mem_gv {cs : List Nat} {x : V} (h : x ∈ cs.map gv) : ∃ c, c ∈ cs ∧ x = gv c := by
  obtain ⟨c, hc, e⟩ := List.mem_map.mp h
  exact ⟨c, hc, e.symm⟩
theorem picked {ys rest : List V} {ls : List Nat} (h : (ys ++ rest).Perm (ls.map gv)) : ∃ cs rs : List Nat, ys = cs.map gv ∧ (cs ++ rs).Perm ls := by
  have hm : ∀ l : List V, (∀ x ∈ l, x ∈ ls.map gv) → l = (l.map ungv).map gv := by
    intro l
    induction l with
    | nil => intro _; rfl
    | cons x l ih =>
      intro hx
      obtain ⟨c, _, e⟩ := mem_gv (hx x List.mem_cons_self)
      rw [List.map_cons, List.map_cons, ← ih fun y hy => hx y (List.mem_cons_of_mem _ hy), e, ungv_gv]
  refine ⟨ys.map ungv, rest.map ungv, hm ys fun x hx => h.subset (List.mem_append_left _ hx), ?_⟩
  have h2 := h.map ungv
  rw [List.map_append, List.map_map] at h2
  have e : ungv ∘ gv = id := by
    funext c
    rfl
  rw [e, List.map_id] at h2
  exact h2
/-- names: each one good, no two alike -/
def NamesOk (ss : List Str) : Prop := (∀ z ∈ ss, NameOk z) ∧ ss.Nodup
theorem nodup_key {α β : Type} {f : α → β} {l : List α} (h : (l.map f).Nodup) : l.Nodup := by
  induction l with
  | nil => exact List.nodup_nil
  | cons x l ih =>
    rw [List.map_cons, List.nodup_cons] at h
    rw [List.nodup_cons]
    exact ⟨fun hx => h.1 (List.mem_map_of_mem hx), ih h.2⟩
theorem nodup_some {l : List Nat} (h : l.Nodup) : (l.map some).Nodup := by
  induction l with
  | nil => exact List.nodup_nil
  | cons x l ih =>
    rw [List.nodup_cons] at h
    rw [List.map_cons, List.nodup_cons]
    refine ⟨fun hx => ?_, ih h.2⟩
    obtain ⟨y, hy, e⟩ := List.mem_map.mp hx
    cases e
    exact h.1 hy
def spNames : Sp := fun vs H Q _ => ∃ (b : Addr) (n m : Nat), vs = [.ref b, .int m] ∧ Bx n H b ∧ n < 800000000 ∧ m ≤ 26 ∧
  ∀ H' p ss, Fr b H H' → Bx (n + 400) H' b → H p = none → H' p = some (.lst (ss.map V.str)) → NamesOk ss → ss.length = m → Q (.ref p) H'
end LwB
namespace LwB
open PySem PySem.Spec PyProof.Rows L2 IqX RvT EnS TL
/-! ### parts, rests, fronts -/
theorem isPart_iff : ∀ (es ws : List Str), isPart ws es = true ↔ ws.Sublist es
  | [], [] => ⟨fun _ => List.Sublist.refl _, fun _ => isPart_nil _⟩
  | [], w :: ws => ⟨fun h => by simp [isPart] at h, fun h => by cases h⟩
  | e :: es, [] => ⟨fun _ => List.nil_sublist _, fun _ => isPart_nil _⟩
  | e :: es, w :: ws => by
    have h1 := isPart_iff es ws
    have h2 := isPart_iff es (w :: ws)
    show (if e = w then isPart ws es else isPart (w :: ws) es) = true ↔ _
    by_cases h : e = w
    · rw [if_pos h, h1, h]
      exact List.cons_sublist_cons.symm
    · rw [if_neg h, h2]
      refine ⟨fun s => s.cons e, fun s => ?_⟩
      cases s with
      | cons _ s => exact s
      | cons_cons _ s => exact absurd rfl h
theorem isPart_rev (ws es : List Str) : isPart ws.reverse es.reverse = isPart ws es := by
  have h1 := isPart_iff es.reverse ws.reverse
  have h2 := isPart_iff es ws
  rw [List.reverse_sublist] at h1
  cases ha : isPart ws.reverse es.reverse <;> cases hb : isPart ws es
  · rfl
  · rw [h1.mpr (h2.mp hb)] at ha
    exact ha.symm
  · rw [h2.mpr (h1.mp ha)] at hb
    exact hb
  · rfl
/-- how much of word's beginning is a part of log -/
def mt (ws es : List Str) : Nat := (early ws es 0).length
theorem early_len_k : ∀ (es ws : List Str) (k : Nat), (early ws es k).length = mt ws es
  | [], ws, k => by unfold mt; rw [early_end, early_end]
  | e :: es, [], k => by unfold mt; rw [early_nil, early_nil]
  | e :: es, w :: ws, k => by
    unfold mt
    by_cases h : e = w
    · rw [early_hit h, early_hit h, List.length_cons, List.length_cons, early_len_k es ws (k + 1), early_len_k es ws (0 + 1)]
    · rw [early_miss h, early_miss h, early_len_k es (w :: ws) (k + 1), early_len_k es (w :: ws) (0 + 1)]
theorem mt_end (ws : List Str) : mt ws [] = 0 := by unfold mt; rw [early_end]; rfl
theorem mt_nil (es : List Str) : mt [] es = 0 := by unfold mt; rw [early_nil]; rfl
theorem mt_hit {w e : Str} {ws es : List Str} (h : e = w) : mt (w :: ws) (e :: es) = mt ws es + 1 := by
  unfold mt
  rw [early_hit h, List.length_cons, early_len_k]
  rfl
theorem mt_miss {w e : Str} {ws es : List Str} (h : e ≠ w) : mt (w :: ws) (e :: es) = mt (w :: ws) es := by
  unfold mt
  rw [early_miss h, early_len_k]
  rfl
theorem mt_le (ws es : List Str) : mt ws es ≤ ws.length := early_len es ws 0
theorem isPart_mt : ∀ (es ws : List Str), isPart ws es = decide (mt ws es = ws.length)
  | [], [] => by rw [isPart_nil, mt_nil]; rfl
  | [], w :: ws => by
    rw [mt_end]
    simp [isPart]
  | e :: es, [] => by rw [isPart_nil, mt_nil]; rfl
  | e :: es, w :: ws => by
    show (if e = w then isPart ws es else isPart (w :: ws) es) = _
    by_cases h : e = w
    · rw [if_pos h, isPart_mt es ws, mt_hit h, List.length_cons]
      simp
    · rw [if_neg h, isPart_mt es (w :: ws), mt_miss h]
theorem isPart_take : ∀ (es ws : List Str) (k : Nat), k ≤ ws.length → isPart (ws.take k) es = decide (k ≤ mt ws es)
  | [], [], k, h => by
    have : k = 0 := by simpa using h
    subst this
    rw [List.take_zero, isPart_nil]
    simp
  | [], w :: ws, 0, _ => by
    rw [List.take_zero, isPart_nil]
    simp
  | [], w :: ws, k + 1, _ => by
    rw [mt_end, List.take_succ_cons]
    simp [isPart]
  | e :: es, [], k, h => by
    have : k = 0 := by simpa using h
    subst this
    rw [List.take_zero, isPart_nil]
    simp
  | e :: es, w :: ws, 0, _ => by
    rw [List.take_zero, isPart_nil]
    simp
  | e :: es, w :: ws, k + 1, hk => by
    rw [List.take_succ_cons]
    show (if e = w then isPart (ws.take k) es else isPart (w :: ws.take k) es) = _
    by_cases h : e = w
    · rw [if_pos h, isPart_take es ws k (by simpa using hk), mt_hit h]
      simp
    · have := isPart_take es (w :: ws) (k + 1) hk
      rw [List.take_succ_cons] at this
      rw [if_neg h, this, mt_miss h]
theorem isPart_append : ∀ (es ws more : List Str), isPart ws (es ++ more) = isPart (ws.drop (mt ws es)) more
  | [], ws, more => by rw [mt_end, List.drop_zero]; rfl
  | e :: es, [], more => by rw [isPart_nil, List.drop_nil, isPart_nil]
  | e :: es, w :: ws, more => by
    show (if e = w then isPart ws (es ++ more) else isPart (w :: ws) (es ++ more)) = _
    by_cases h : e = w
    · rw [if_pos h, isPart_append es ws more, mt_hit h, List.drop_succ_cons]
    · rw [if_neg h, isPart_append es (w :: ws) more, mt_miss h]
theorem restOf_eq (ws es : List Str) : restOf ws es = ws.drop (mt ws es) := rfl
/-- word without its longest end that is a part of log -/
def frontOf (ws es : List Str) : List Str := (restOf ws.reverse es.reverse).reverse
theorem isPart_rest (ws es more : List Str) : isPart (restOf ws es) more = isPart ws (es ++ more) := (isPart_append es ws more).symm
theorem isPart_front (ws es more : List Str) : isPart (frontOf ws es) more = isPart ws (more ++ es) := by
  unfold frontOf
  have h := isPart_rest ws.reverse es.reverse more.reverse
  rw [← List.reverse_append, isPart_rev] at h
  rw [← h, ← isPart_rev (restOf ws.reverse es.reverse).reverse, List.reverse_reverse]
theorem frontOf_take (ws es : List Str) : frontOf ws es = ws.take (ws.length - mt ws.reverse es.reverse) := by
  unfold frontOf
  rw [restOf_eq, List.drop_reverse, List.reverse_reverse]
theorem Sq.ne_box {n : Nat} {H : Hp} {p b : Addr} {xs : List V} (h : Sq false H p xs) (x : Bx n H b) : p ≠ b := by
  obtain ⟨x0, x1, x2, e, _⟩ := x
  rintro rfl
  rcases h with h | ⟨o, h⟩
  · rw [h] at e
    cases e
  · rw [h] at e
    cases e
section
variable {X : Cx}
/-- t + u, two tuples -/
def rCatQ : R2 := fun x y H Q => ∃ (a b : Addr) (xs ys : List V), x = .ref a ∧ y = .ref b ∧ Sq false H a xs ∧ Sq false H b ys ∧ xs.length + ys.length ≤ 1000000 ∧ ∀ H' p, Same H H' → Sq false H' p (xs ++ ys) → Q (.ref p) H'
theorem op_catQ : OpR X (binaryOp .Add) rCatQ := by
  intro pins s σ H x y v u Q I rx ry h
  obtain ⟨a, b, xs, ys, rfl, rfl, ha, hb, hl, q⟩ := h
  refine op_catA pins s σ H _ _ v u Q I rx ry ⟨a, b, xs, ys, rfl, rfl, ha.T, hb.T, Nat.le_trans hl (by decide), fun e => ?_, fun _ e => ?_, fun _ _ p np => ?_⟩
  · subst e
    exact q H b (Same.refl H) hb
  · subst e
    exact q H a (Same.refl H) (by rw [List.append_nil]; exact ha)
  · exact q _ p (same_new np) (Sq.tup upd_same)
end
/-- a row of texts as a tree -/
def trs (t : Bool) (es : List Str) : Tr := .sq t (es.map Tr.str)
theorem Is.strs {H : Hp} {t : Bool} {n : Nat} {a : Addr} {es : List Str} (h : Sx t H a (es.map V.str)) (hl : es.length ≤ 1000000) : Is H (n + 1) (trs t es) (.ref a) := by
  refine Is.sq h (by rw [List.length_map]; exact hl) ?_
  clear h hl
  induction es with
  | nil => exact .nil
  | cons e es ih => exact .cons Is.str ih
/-! ### promises of this law's own defs -/
def spLies : Sp := fun vs H Q _ => ∃ (b1 b2 : Bool) (a c : Addr) (ws es : List Str), vs = [.ref a, .ref c] ∧ Sq b1 H a (ws.map V.str) ∧ Sq b2 H c (es.map V.str) ∧ ws.length ≤ 1000 ∧ Q (.bl (isPart ws es)) H
def spRow : Sp := fun vs H Q _ => ∃ (b l : Addr) (n m : Nat) (ss : List Str), vs = [.ref b, .ref l, .int m] ∧ Bx n H b ∧ n < 800000000 ∧ l ≠ b ∧ Sq true H l (ss.map V.str) ∧ ss.length ≤ 1000000 ∧ 0 < ss.length ∧ m ≤ 1000 ∧
  ∀ H' p (es : List Str), Fr b H H' → Bx (n + 1 + m) H' b → Sq false H' p (es.map V.str) → p ≠ b → es.length ≤ m → (∀ e ∈ es, e ∈ ss) → Q (.ref p) H'
def spLeft : Sp := fun vs H Q _ => ∃ (a c : Addr) (ws es : List Str), vs = [.ref a, .ref c] ∧ Sq false H a (ws.map V.str) ∧ Sq false H c (es.map V.str) ∧ ws.length ≤ 1000 ∧
  ∀ H' p, Same H H' → Sq false H' p ((restOf ws es).map V.str) → Q (.ref p) H'
def spFrontL : Sp := fun vs H Q _ => ∃ (a c : Addr) (ws es : List Str), vs = [.ref a, .ref c] ∧ Sq false H a (ws.map V.str) ∧ Sq false H c (es.map V.str) ∧ ws.length ≤ 1000 ∧
  ∀ H' p, Same H H' → Sq false H' p ((frontOf ws es).map V.str) → Q (.ref p) H'
def spTrue3 : Sp := fun vs H Q _ => ∃ (a c d : Addr) (ws es ms : List Str), vs = [.ref a, .ref c, .ref d] ∧ Sq false H a (ws.map V.str) ∧ Sq false H c (es.map V.str) ∧ Sq false H d (ms.map V.str) ∧ ws.length ≤ 100 ∧ es.length ≤ 100 ∧ ms.length ≤ 100 ∧
  ∀ H', Same H H' → Q (.bl true) H'
def spTrue0 : Sp := fun vs H Q _ => vs = [] ∧ ∀ H', Same H H' → Q (.bl true) H'
def spRight (n : Nat) : Sp := fun vs H Q _ => ∃ (b : Addr), vs = [.ref b] ∧ Bx 0 H b ∧ ∀ H', Fr b H H' → Q (.bl true) H'
/-! ### written values -/
section
variable {X : Cx}
/-- what a written value is: new things that nothing else looks at -/
def tLit (n : Nat) (T : Tr) : TE := fun _ H Q => ∀ H' v, Same H H' → Is H' n T v → Q v H'
def tLits (n : Nat) (Ts : List Tr) : TA := fun _ H Q => ∀ H' vs, Same H H' → Paired (Is H' n) Ts vs → Q vs H'
theorem _root_.L2.PA.imp {es : List Expr} {t t' : TA} (h : PA X es t) (i : ∀ σ H Q, t' σ H Q → t σ H Q) : PA X es t' := ⟨fun q pins s σ H Q I z => h.run q pins s σ H Q I (i σ H Q z)⟩
theorem pl_str {n : Nat} {x : Str} {j pos} : PE X (.Constant (.str x) j pos) (tLit n (.str x)) := PE.imp pe_str fun σ H Q q => q H _ (Same.refl H) .str
theorem pl_int {n : Nat} {i : Int} {j pos} : PE X (.Constant (.int i) j pos) (tLit n (.int i)) := PE.imp pe_int fun σ H Q q => q H _ (Same.refl H) .int
theorem pl_bl {n : Nat} {b : Bool} {j pos} : PE X (.Constant (.bool b) j pos) (tLit n (.bl b)) := PE.imp pe_bl fun σ H Q q => q H _ (Same.refl H) .bl
theorem pl_non {n : Nat} {j pos} : PE X (.Constant .none j pos) (tLit n .non) := PE.imp pe_non fun σ H Q q => q H _ (Same.refl H) .non
theorem pl_nil {n : Nat} : PA X [] (tLits n []) := PA.imp pa_nil fun σ H Q q => q H _ (Same.refl H) .nil
theorem pl_cons {n : Nat} {e : Expr} {es : List Expr} {T : Tr} {Ts : List Tr} (he : PE X e (tLit n T)) (hr : PA X es (tLits n Ts)) (hs : starEach (e :: es) X.env = (false, eval e X.env) :: starEach es X.env := by rfl) : PA X (e :: es) (tLits n (T :: Ts)) :=
  PA.imp (pa_cons (hs := hs) he hr) fun σ H Q q H1 v s1 i1 H2 vs s2 i2 => q H2 _ (s1.trans s2) (.cons (i1.same s2) i2)
theorem pl_tup {n : Nat} {es : List Expr} {Ts : List Tr} {x1 pos} (h : PA X es (tLits n Ts)) (hl : Ts.length ≤ 1000000 := by decide) : PE X (.Tuple es x1 pos) (tLit (n + 1) (.sq false Ts)) :=
  PE.imp (pe_tup h) fun σ H Q q H1 vs s1 i1 => by
    have hlen : vs.length ≤ 1000000 := by rw [← Paired.length i1]; exact hl
    exact ⟨Nat.le_trans hlen (by decide), fun p np => q _ _ (s1.trans (same_new np)) (Is.sq (.tup (.tup upd_same)) hlen (paired_imp i1 fun a b z => z.same (same_new np)))⟩
theorem pl_lst {n : Nat} {es : List Expr} {Ts : List Tr} {pos} (h : PA X es (tLits n Ts)) (hl : Ts.length ≤ 1000000 := by decide) : PE X (.List es pos) (tLit (n + 1) (.sq true Ts)) :=
  PE.imp (pe_lst h) fun σ H Q q H1 vs s1 i1 => by
    have hlen : vs.length ≤ 1000000 := by rw [← Paired.length i1]; exact hl
    exact ⟨Nat.le_trans hlen (by decide), fun p np => q _ _ (s1.trans (same_new np)) (Is.sq (.lst upd_same) hlen (paired_imp i1 fun a b z => z.same (same_new np)))⟩
/-- what a written value is, where it stands: in the place of a test of many steps -/
theorem Is.list {H : Hp} {n : Nat} {Ts : List Tr} {v : V} (h : Is H (n + 1) (.sq true Ts) v) : ∃ a xs, v = .ref a ∧ H a = some (.lst xs) ∧ xs.length ≤ 1000000 ∧ Paired (Is H n) Ts xs := by
  obtain ⟨m, a, xs, e, rfl, hs, hl, p⟩ := h.sq_eq
  cases e
  exact ⟨a, xs, rfl, hs.2 rfl, hl, p⟩
theorem Is.tuple {H : Hp} {n : Nat} {Ts : List Tr} {v : V} (h : Is H (n + 1) (.sq false Ts) v) : ∃ a xs, v = .ref a ∧ Sq false H a xs ∧ xs.length ≤ 1000000 ∧ Paired (Is H n) Ts xs := by
  obtain ⟨m, a, xs, e, rfl, hs, hl, p⟩ := h.sq_eq
  cases e
  exact ⟨a, xs, rfl, hs.1, hl, p⟩
theorem paired_str {H : Hp} {n : Nat} : ∀ {es : List Str} {xs : List V}, Paired (Is H n) (es.map Tr.str) xs → xs = es.map V.str
  | [], _, .nil => rfl
  | e :: es, _, .cons r t => by rw [r.str_eq, paired_str t]; rfl
theorem Is.row {H : Hp} {n : Nat} {es : List Str} {v : V} (h : Is H (n + 1) (trs false es) v) : ∃ a, v = .ref a ∧ Sq false H a (es.map V.str) := by
  obtain ⟨a, xs, e, hs, hl, p⟩ := Is.tuple (show Is H (n + 1) (.sq false (es.map Tr.str)) v from h)
  rw [paired_str p] at hs
  exact ⟨a, e, hs⟩
theorem paired_append {α β : Type} {F : α → β → Prop} : ∀ {a : List α} {b : List β} {c : List α} {d : List β}, Paired F a b → Paired F c d → Paired F (a ++ c) (b ++ d)
  | _, _, _, _, .nil, q => q
  | _, _, _, _, .cons r t, q => .cons r (paired_append t q)
/-- two lists, one behind the other -/
def rCatX : R2 := fun x y H Q => ∃ (n : Nat) (Ts Us : List Tr), Is H (n + 1) (.sq true Ts) x ∧ Is H (n + 1) (.sq true Us) y ∧ Ts.length + Us.length ≤ 1000000 ∧ ∀ H' v, Same H H' → Is H' (n + 1) (.sq true (Ts ++ Us)) v → Q v H'
theorem op_catX : OpR X (binaryOp .Add) rCatX := by
  intro pins s σ H x y v u Q I rx ry h
  obtain ⟨n, Ts, Us, hx, hy, hl, q⟩ := h
  obtain ⟨a, xs, rfl, ea, la, pa⟩ := hx.list
  obtain ⟨b, ys, rfl, eb, lb, pb⟩ := hy.list
  have h1 := Paired.length pa
  have h2 := Paired.length pb
  refine op_cat pins s σ H _ _ v u Q I rx ry ⟨a, b, xs, ys, rfl, rfl, ea, eb, Nat.le_trans (by omega : xs.length + ys.length ≤ 1000000) (by decide), fun p np => ?_⟩
  refine q _ _ (same_new np) (Is.sq (.lst upd_same) (by rw [List.length_append]; omega) ?_)
  exact paired_append (paired_imp pa fun a b z => z.same (same_new np)) (paired_imp pb fun a b z => z.same (same_new np))
end
/-! ### rows of texts in a list -/
def RowAt (H : Hp) (w : List Str) (v : V) : Prop := ∃ p, v = .ref p ∧ Sq false H p (w.map V.str) ∧ w.length ≤ 1000000
theorem RowAt.same {H H' : Hp} {w : List Str} {v : V} (s : Same H H') (h : RowAt H w v) : RowAt H' w v := by
  obtain ⟨p, e, hp, l⟩ := h
  exact ⟨p, e, s.sq hp, l⟩
theorem Sq.put_list {H : Hp} {p D : Addr} {xs ys : List V} {o : HO} (h : Sq false H p xs) (e : H D = some (.lst ys)) : Sq false (L2.upd H D o) p xs := by
  refine h.mv fun u hu => ?_
  rw [upd_ne]
  · exact hu
  · rintro rfl
    rcases h with h | ⟨o', h⟩
    · rw [h] at e
      cases e
    · rw [h] at e
      cases e
theorem RowAt.put {H : Hp} {D : Addr} {w : List Str} {v : V} {ys : List V} {o : HO} (h : RowAt H w v) (e : H D = some (.lst ys)) : RowAt (L2.upd H D o) w v := by
  obtain ⟨p, e', hp, l⟩ := h
  exact ⟨p, e', Sq.put_list hp e, l⟩
theorem RowAt.is {H : Hp} {n : Nat} {w : List Str} {v : V} (h : RowAt H w v) : Is H (n + 1) (trs false w) v := by
  obtain ⟨p, rfl, hp, l⟩ := h
  exact .strs (.tup hp) l
/-- rows as a tree -/
def trows (t : Bool) (Ws : List (List Str)) : Tr := .sq t (Ws.map (trs false))
theorem paired_map {α β γ : Type} {F : β → γ → Prop} {f : α → β} : ∀ {l : List α} {m : List γ}, Paired (fun a c => F (f a) c) l m → Paired F (l.map f) m
  | _, _, .nil => .nil
  | _, _, .cons r t => .cons r (paired_map t)
theorem paired_unmap {α β γ : Type} {F : β → γ → Prop} {f : α → β} : ∀ {l : List α} {m : List γ}, Paired F (l.map f) m → Paired (fun a c => F (f a) c) l m
  | [], _, .nil => .nil
  | _ :: _, _, .cons r t => .cons r (paired_unmap t)
theorem rows_is {H : Hp} {n : Nat} {D : Addr} {Ws : List (List Str)} {ys : List V} (e : H D = some (.lst ys)) (hl : ys.length ≤ 1000000) (p : Paired (RowAt H) Ws ys) : Is H (n + 2) (trows true Ws) (.ref D) :=
  Is.sq (.lst e) hl (paired_map (paired_imp p fun _ _ z => z.is))
theorem Is.row_at {H : Hp} {n : Nat} {es : List Str} {v : V} (h : Is H (n + 1) (trs false es) v) : RowAt H es v := by
  obtain ⟨a, xs, e, hs, hl, p⟩ := Is.tuple (show Is H (n + 1) (.sq false (es.map Tr.str)) v from h)
  have q := paired_str p
  rw [q] at hs
  refine ⟨a, e, hs, ?_⟩
  rw [q, List.length_map] at hl
  exact hl
theorem rows_of {H : Hp} {n : Nat} {t : Bool} {Ws : List (List Str)} {v : V} (h : Is H (n + 2) (trows t Ws) v) : ∃ a xs, v = .ref a ∧ Sq t H a xs ∧ xs.length ≤ 1000000 ∧ Paired (RowAt H) Ws xs := by
  obtain ⟨m, a, xs, e, rfl, hs, hl, p⟩ := Is.sq_eq (show Is H (n + 2) (.sq t (Ws.map (trs false))) v from h)
  cases e
  exact ⟨a, xs, rfl, hs.1, hl, paired_imp (paired_unmap p) fun _ _ z => z.row_at⟩
theorem paired_snoc {α β : Type} {F : α → β → Prop} {l : List α} {m : List β} {a : α} {b : β} (p : Paired F l m) (h : F a b) : Paired F (l ++ [a]) (m ++ [b]) := paired_append p (.cons h .nil)
end LwB
namespace NsT
open PySem PySem.Spec PyProof.Rows L2
/-! sets of tuples of whole numbers, texts and such tuples: of any shapes, nested -/
abbrev nhash (w : World) (k : NestedKey) : Int := k.hash w
/-- the tuple at a is the key k -/
def Nk (h : Heap) (k : NestedKey) (a : Addr) : Prop := NestedIs h k (.ref a) ∧ k.depth ≤ 7
section
variable {P : Program} {w : World} {A : Around} {E : Value → Shared → Prop} {s : Shared}
theorem Nk.inj {h : Heap} {x y : NestedKey} {a : Addr} (p : Nk h x a) (q : Nk h y a) : x = y := NestedIs.inj _ _ _ p.1 q.1
theorem nk_eq {x y : NestedKey} {a b : Addr} {Q : Bool → Shared → Prop} (hu : A.units + 8 < cLine) (p : Nk s.heap x a) (q : Nk s.heap y b) (h : Q (decide (x = y)) s) : wpAny (model P w) A (eqBool (.ref a) (.ref b)) Q E s :=
  (nestedKind P w).eqBool (x := x) (y := y) hu ⟨p.1, Nat.le_succ_of_le p.2⟩ ⟨q.1, Nat.le_succ_of_le q.2⟩ h
theorem nk_hash {x : NestedKey} {a : Addr} {Q : Int → Shared → Prop} (hu : A.units + 8 < cLine) (p : Nk s.heap x a) (h : Q (nhash w x) { s with toks := s.toks + x.draws }) : wpAny (model P w) A (pyHash (.ref a)) Q E s :=
  (nestedKind P w).pyHash hu ⟨p.1, Nat.le_succ_of_le p.2⟩ h
theorem nk_quiet {x : NestedKey} {a : Addr} {Q : Bool → Shared → Prop} (p : Nk s.heap x a) (h : Q true s) : wpAny (model P w) A (eqIsQuiet 8 (.ref a)) Q E s :=
  (nestedKind P w).quiet (k := x) ⟨p.1, Nat.le_succ_of_le p.2⟩ h
/-- it is no class statement's, n levels down -/
def PlainAt (P : Program) (w : World) (n : Nat) (s : Shared) (v : Value) : Prop := ∀ (A : Around) (E : Value → Shared → Prop) (Q : Bool → Shared → Prop), Q false s → wpAny (model P w) A (ofAClassStatement n v) Q E s
theorem PlainAt.flat {n : Nat} {v : Value} (h : ofAClassStatement n v = pure false) : PlainAt P w n s v := fun A E Q q => by
  rw [h]
  exact wpAny_pure q
theorem PlainAt.tup {n m : Nat} {a : Addr} {o : Obj} {vs : Array Value} (ho : s.heap.get? a = some o) (hc : o.cls = .type "tuple") (hd : o.data = .seq vs m) (all : ∀ v ∈ vs.toList, PlainAt P w n s v) : PlainAt P w (n + 1) s (.ref a) := fun A E Q q => by
  unfold ofAClassStatement
  refine wpAny_bind (wpAny_typeOf ⟨o, ho, hc⟩ ?_)
  dsimp only
  simp only [show (("tuple" : String) == "tuple") = true by decide, if_true, Bool.not_true, Bool.false_eq_true, if_false]
  try refine wpAny_bind (wpAny_pure ?_)
  try simp only [Bool.not_true, Bool.false_eq_true, if_false]
  show wpAny _ _ (seqItems? (.ref a) >>= _) _ _ s
  refine wpAny_bind (wpAny_seqItems ho hd ?_)
  dsimp only
  refine wpAny_bind ?_
  show wpAny _ _ (forIn vs _ _) _ _ s
  rw [← Array.forIn_toList]
  refine wpAny_forIn_list _ (fun rest r s' => r.1 = none ∧ s' = s ∧ ∀ v ∈ rest, PlainAt P w n s v) _ ?_ ?_ _ _ ⟨rfl, rfl, all⟩
  · rintro v rest r s' ⟨er, rfl, each⟩
    refine wpAny_bind (each v List.mem_cons_self _ _ _ ?_)
    simp only [Bool.false_eq_true, if_false]
    exact wpAny_pure ⟨rfl, rfl, fun u hu => each u (List.mem_cons_of_mem _ hu)⟩
  · rintro ⟨r1, r2⟩ s' ⟨er, rfl, _⟩
    simp only at er
    subst er
    exact wpAny_pure q
mutual
theorem plain_key : ∀ (k : NestedKey) (v : Value) (n : Nat) (s : Shared), NestedIs s.heap k v → k.depth ≤ n → PlainAt P w n s v
  | .none, _, n, s, x, _ => by cases x; exact .flat (by cases n <;> rfl)
  | .num i, _, n, s, x, _ => by cases x <;> exact .flat (by cases n <;> rfl)
  | .text y, _, n, s, x, _ => by cases x; exact .flat (by cases n <;> rfl)
  | .tup ks, _, n, s, x, hn => by
    cases x with
    | tup hg hc hd kk =>
      simp only [NestedKey.depth] at hn
      cases n with
      | zero => omega
      | succ n => exact .tup hg hc hd (plain_keys ks _ n s kk (by omega))
theorem plain_keys : ∀ (ks : List NestedKey) (vs : List Value) (n : Nat) (s : Shared), NestedAll s.heap ks vs → NestedKey.depthAll ks ≤ n → ∀ v ∈ vs, PlainAt P w n s v
  | [], _, n, s, x, _, v, hv => by cases x; cases hv
  | k :: ks, _, n, s, x, hn, v, hv => by
    cases x with
    | cons x1 x2 =>
      simp only [NestedKey.depthAll] at hn
      rcases List.mem_cons.mp hv with e | hv
      · rw [e]; exact plain_key k _ n s x1 (by omega)
      · exact plain_keys ks _ n s x2 (by omega) v hv
end
theorem nk_plain {x : NestedKey} {a : Addr} {Q : Bool → Shared → Prop} (p : Nk s.heap x a) (h : Q false s) : wpAny (model P w) A (ofAClassStatement 8 (.ref a)) Q E s := plain_key x _ 8 s p.1 (Nat.le_succ_of_le p.2) A E Q h
/-- whether it is hashed by its value: some answer -/
def AnyBv (P : Program) (w : World) (n : Nat) (s : Shared) (v : Value) : Prop := ∀ (A : Around) (E : Value → Shared → Prop) (Q : Bool → Shared → Prop), (∀ b, Q b s) → wpAny (model P w) A (hashByValue n v) Q E s
theorem AnyBv.flat {n : Nat} {v : Value} {b : Bool} (h : hashByValue n v = pure b) : AnyBv P w n s v := fun A E Q q => by
  rw [h]
  exact wpAny_pure (q b)
theorem AnyBv.tup {n m : Nat} {a : Addr} {o : Obj} {vs : Array Value} (ho : s.heap.get? a = some o) (hc : o.cls = .type "tuple") (hd : o.data = .seq vs m) (all : ∀ v ∈ vs.toList, AnyBv P w n s v) : AnyBv P w (n + 1) s (.ref a) := fun A E Q q => by
  unfold hashByValue
  refine wpAny_bind (wpAny_specialOf ⟨o, ho, hc⟩ F.slot_tuple_hash.lookup ?_)
  show wpAny _ _ (seqItems? (.ref a) >>= _) _ _ s
  refine wpAny_bind (wpAny_seqItems ho hd ?_)
  refine wpAny_bind ?_
  show wpAny _ _ (forIn vs _ _) _ _ s
  rw [← Array.forIn_toList]
  refine wpAny_forIn_list _ (fun rest r s' => s' = s ∧ ∀ v ∈ rest, AnyBv P w n s v) _ ?_ ?_ _ _ ⟨rfl, all⟩
  · rintro v rest r s' ⟨rfl, each⟩
    refine wpAny_bind (each v List.mem_cons_self _ _ _ fun b => ?_)
    have later : ∀ u ∈ rest, AnyBv P w n s' u := fun u hu => each u (List.mem_cons_of_mem _ hu)
    cases b
    · simp only [Bool.not_false, if_true]
      exact wpAny_pure (wpAny_pure (q false))
    · simp only [Bool.not_true, Bool.false_eq_true, if_false]
      exact wpAny_pure ⟨rfl, later⟩
  · rintro ⟨r1, r2⟩ s' ⟨rfl, _⟩
    cases r1 with
    | none => exact wpAny_pure (q _)
    | some b => exact wpAny_pure (q _)
mutual
theorem bv_key : ∀ (k : NestedKey) (v : Value) (n : Nat) (s : Shared), NestedIs s.heap k v → k.depth ≤ n → AnyBv P w n s v
  | .none, _, n, s, x, _ => by cases x; exact .flat (b := true) (by cases n <;> rfl)
  | .num i, _, n, s, x, _ => by cases x <;> exact .flat (b := true) (by cases n <;> rfl)
  | .text y, _, n, s, x, _ => by cases x; exact .flat (b := false) (by cases n <;> rfl)
  | .tup ks, _, n, s, x, hn => by
    cases x with
    | tup hg hc hd kk =>
      simp only [NestedKey.depth] at hn
      cases n with
      | zero => omega
      | succ n => exact .tup hg hc hd (bv_keys ks _ n s kk (by omega))
theorem bv_keys : ∀ (ks : List NestedKey) (vs : List Value) (n : Nat) (s : Shared), NestedAll s.heap ks vs → NestedKey.depthAll ks ≤ n → ∀ v ∈ vs, AnyBv P w n s v
  | [], _, n, s, x, _, v, hv => by cases x; cases hv
  | k :: ks, _, n, s, x, hn, v, hv => by
    cases x with
    | cons x1 x2 =>
      simp only [NestedKey.depthAll] at hn
      rcases List.mem_cons.mp hv with e | hv
      · rw [e]; exact bv_key k _ n s x1 (by omega)
      · exact bv_keys ks _ n s x2 (by omega) v hv
end
theorem bv_any {α : Type} {x : NestedKey} {a : Addr} {c : Bool} {f : Bool → Sem α} {Q : α → Shared → Prop} (p : Nk s.heap x a) (h : ∀ b, wpAny (model P w) A (f b) Q E s) : wpAny (model P w) A (if c = true then hashByValue 8 (.ref a) >>= f else pure true >>= f) Q E s := by
  cases c
  · exact wpAny_bind (wpAny_pure (h true))
  · exact wpAny_bind (bv_key x _ 8 s p.1 (Nat.le_succ_of_le p.2) A E _ h)
theorem plain_any (t : SetTable) (b : Bool) : ∃ t2 : SetTable, (if b = true then t else { t with plain := false }) = t2 ∧ t2.place = t.place ∧ t2.dummies = t.dummies ∧ t2.mask = t.mask ∧ t2.led = t.led ∧ t2.fill = t.fill := by
  cases b
  · exact ⟨_, rfl, rfl, rfl, rfl, rfl, rfl⟩
  · exact ⟨_, rfl, rfl, rfl, rfl, rfl, rfl⟩
theorem tab_any {t t2 : SetTable} {hs : List Int} (h1 : t2.place = t.place) (h2 : t2.dummies = t.dummies) (h3 : t2.mask = t.mask) (T : TabOk t hs) : TabOk t2 hs := by
  refine ⟨by rw [h1]; exact T.ris, by rw [h2]; exact T.dm, by rw [h1]; exact T.sz, by rw [h3]; exact T.mok, by rw [h1, h3]; exact T.bd, ?_⟩
  rw [h1, h3]
  exact T.reach
/-- a search among such tuples shows nothing -/
theorem seen_nk {k : NestedKey} {b : Addr} {Q : Bool → Shared → Prop} (kk : Nk s.heap k b) {ys : List Value} (hy : ∀ y ∈ ys, ∃ k' c, y = Value.ref c ∧ Nk s.heap k' c) (h : Q false s) :
    wpAny (model P w) A (searchCouldBeSeen (.ref b) ys) Q E s := by
  unfold searchCouldBeSeen
  refine wpAny_bind ?_
  refine wpAny_forIn_list _ (fun rest r s' => r.1 = none ∧ s' = s ∧ ∀ y ∈ rest, ∃ k' c, y = Value.ref c ∧ Nk s.heap k' c) _ ?_ ?_ _ _ ⟨rfl, rfl, hy⟩
  · rintro v rest r s' ⟨er, rfl, each⟩
    obtain ⟨k', c, rfl, kc⟩ := each v List.mem_cons_self
    have later : ∀ y ∈ rest, ∃ k' c, y = Value.ref c ∧ Nk s'.heap k' c := fun u hu => each u (List.mem_cons_of_mem _ hu)
    dsimp only
    by_cases hv : (b == c || (carriedByValue (.ref b) && carriedByValue (.ref c))) = true
    · refine wp_if_pos hv ?_
      exact wpAny_pure ⟨rfl, rfl, later⟩
    · refine wp_if_neg hv ?_
      refine wpAny_bind (nk_quiet kk ?_)
      simp only [Bool.not_true, Bool.false_eq_true, if_false]
      refine wpAny_bind (nk_quiet kc ?_)
      simp only [Bool.not_true, Bool.false_eq_true, if_false]
      refine wpAny_bind (nk_plain kk ?_)
      simp only [Bool.false_eq_true, if_false]
      refine wpAny_bind (nk_plain kc ?_)
      simp only [Bool.false_eq_true, if_false]
      exact wpAny_pure ⟨rfl, rfl, later⟩
  · rintro ⟨r1, r2⟩ s' ⟨er, rfl, _⟩
    simp only at er
    subst er
    exact wpAny_pure h
def rowsN (P : Program) (w : World) (L : List (Addr × NestedKey)) : List (Int × Value) := L.map fun p => (nhash w p.2, Value.ref p.1)
structure SetN (P : Program) (w : World) (h : Heap) (a : Addr) (L : List (Addr × NestedKey)) (es : Array (Int × Value)) (ep : Nat) (t : SetTable) : Prop where
  ob : ∃ o, h.get? a = some o ∧ o.ExactSet ∧ o.data = .set es ep t
  rows : es.toList = rowsN P w L
  tab : TabOk t (L.map fun p => nhash w p.2)
  nd : (L.map (·.2)).Nodup
  tup : ∀ p ∈ L, Nk h p.2 p.1
  led : w.params.followText "set-order" = true ∨ t.led = true
  room : L.length * 5 < t.mask * 3
  few : L.length < 64
variable {a : Addr} {L : List (Addr × NestedKey)} {es : Array (Int × Value)} {ep : Nat} {t : SetTable}
theorem SetN.size (R : SetN P w s.heap a L es ep t) : es.size = L.length := by
  have h := congrArg List.length R.rows
  unfold rowsN at h
  rw [Array.length_toList, List.length_map] at h
  exact h
theorem SetN.fits (R : SetN P w s.heap a L es ep t) : t.fits es.size = true := by
  have h1 := R.tab.sz
  rw [List.length_map] at h1
  have h2 := R.size
  have h3 := R.room
  unfold SetTable.fits SetTable.fill
  rw [R.tab.dm, Bool.and_eq_true, beq_iff_eq, decide_eq_true_eq]
  show t.place.size = es.size ∧ t.place.size + 0 ≤ t.mask
  omega
theorem SetN.entry (R : SetN P w s.heap a L es ep t) {i : Nat} {p : Addr × NestedKey} (h : L[i]? = some p) : es[i]? = some (nhash w p.2, Value.ref p.1) := by
  rw [← Array.getElem?_toList, R.rows]
  unfold rowsN
  rw [List.getElem?_map, h] <;> rfl
theorem SetN.gw (R : SetN P w s.heap a L es ep t) : ¬ t.gaveWay = true := by
  unfold SetTable.gaveWay
  rw [mask_odd R.tab.mok]
  decide
/-- THE SEARCH: from the c-th step of the way on -/
theorem srch_from (R : SetN P w s.heap a L es ep t) {x : Addr} {k : NestedKey} (hx : Nk s.heap k x) (hu : A.units + 8 < cLine) {K : Nat} (hKf : K < 10 * SetTable.turns t.mask)
    (hK : way t.mask (nhash w k) K ∉ t.place.toList) (hKb : ∀ c, c < K → way t.mask (nhash w k) c ∈ t.place.toList) {Q : SetFound → Shared → Prop}
    (hin : k ∈ L.map (·.2) → Q (.there none) s) (hout : k ∉ L.map (·.2) → Q (.free (way t.mask (nhash w k) K) false) s) :
    ∀ (f c : Nat) (stand : Option SetTable.Probe), stand.getD (t.probeStart (nhash w k)) = nth t.mask (runAt t.mask (SetTable.bits (nhash w k) % (t.mask + 1)) (SetTable.bits (nhash w k))) c → c ≤ K → K - c < f →
      (∀ (i : Nat) p, L[i]? = some p → p.2 = k → ∃ c', c ≤ c' ∧ c' < K ∧ t.place.toList[i]? = some (way t.mask (nhash w k) c')) →
      wpAny (model P w) A (setSearchFrom a (.ref x) (nhash w k) true f stand) Q E s
  | 0, c, stand, _, _, hf, _ => absurd hf (Nat.not_lt_zero _)
  | f + 1, c, stand, hst, hc, hf, hre => by
    obtain ⟨o, ho, hex, hd⟩ := R.ob
    rw [setSearchFrom_succ]
    refine wpAny_bind (wpAny_setState_of ho hd R.fits ?_)
    dsimp only
    refine wp_if_neg R.gw ?_
    try refine wpAny_bind (wpAny_pure ?_)
    have hnd : (nth t.mask (runAt t.mask (SetTable.bits (nhash w k) % (t.mask + 1)) (SetTable.bits (nhash w k))) c).dummy = none := by
      have key : ∀ (n : Nat) (p : SetTable.Probe), p.dummy = none → (nth t.mask p n).dummy = none := by
        intro n
        induction n with
        | zero => intro p h; exact h
        | succ n ih =>
          intro p h
          refine ih (adv t.mask p) ?_
          unfold adv
          split <;> exact h
      exact key c _ rfl
    have sh : ∀ q, nth t.mask (nth t.mask (runAt t.mask (SetTable.bits (nhash w k) % (t.mask + 1)) (SetTable.bits (nhash w k))) c) q = nth t.mask (runAt t.mask (SetTable.bits (nhash w k) % (t.mask + 1)) (SetTable.bits (nhash w k))) (c + q) := fun q => (nth_add t.mask c _ q).symm
    have e1 : ∀ q, (nth t.mask (nth t.mask (runAt t.mask (SetTable.bits (nhash w k) % (t.mask + 1)) (SetTable.bits (nhash w k))) c) q).j = way t.mask (nhash w k) (c + q) := fun q => congrArg SetTable.Probe.j (sh q)
    have spec := go_spec t R.tab.ris R.tab.dm (fun i => (es[i]?.map (·.1)).getD 0) (nhash w k) (10 * SetTable.turns t.mask) (K - c) _ hnd (by omega)
      (fun q hq => by rw [e1]; exact hKb (c + q) (by omega)) (by rw [e1, show c + (K - c) = K by omega]; exact hK)
    have hashAt : ∀ (i : Nat) p, L[i]? = some p → (fun i => (es[i]?.map (·.1)).getD 0) i = nhash w p.2 := fun i p hp => by
      show (es[i]?.map (·.1)).getD 0 = _
      rw [R.entry hp] <;> rfl
    rcases spec with ⟨q, i, hq, hi, hh, hno, hpr⟩ | ⟨hno, hpr⟩
    · -- a candidate
      have hpr' : t.probe (fun i => (es[i]?.map (·.1)).getD 0) (nhash w k) (stand.getD (t.probeStart (nhash w k))) = some (.candidate (way t.mask (nhash w k) (c + q)) i (nth t.mask (runAt t.mask (SetTable.bits (nhash w k) % (t.mask + 1)) (SetTable.bits (nhash w k))) (c + (q + 1)))) := by
        rw [hst, ← e1, ← sh]
        exact hpr
      rw [hpr']
      dsimp only
      rw [e1] at hi
      -- the entry
      have hil : i < L.length := by
        have h1 : i < t.place.toList.length := (List.getElem?_eq_some_iff.mp hi).1
        have h2 := R.tab.sz
        rw [List.length_map] at h2
        rw [Array.length_toList] at h1
        omega
      have hp : L[i]? = some L[i] := List.getElem?_eq_getElem hil
      generalize hpe : L[i] = p at hp
      have hmem : p ∈ L := List.mem_of_getElem? hp
      have hpt := R.tup p hmem
      have rest : wpAny (model P w) A (searchRest a (.ref x) (nhash w k) true f es t (way t.mask (nhash w k) (c + q)) i (nth t.mask (runAt t.mask (SetTable.bits (nhash w k) % (t.mask + 1)) (SetTable.bits (nhash w k))) (c + (q + 1)))) Q E s := by
        unfold searchRest
        rw [R.entry hp]
        dsimp only
        refine wpAny_bind (wpAny_holding (nk_eq hu hpt hx ?_))
        refine wpAny_bind (wpAny_setState_of ho hd R.fits ?_)
        dsimp only
        by_cases hkk : p.2 = k
        · refine wp_if_pos (by simp [hkk]) ?_
          refine wpAny_pure (hin ?_)
          exact List.mem_map.mpr ⟨p, hmem, hkk⟩
        · refine wp_if_neg (by simp [hkk]) ?_
          try refine wpAny_bind (wpAny_pure ?_)
          rw [sameMem]
          dsimp only
          have hsl : t.slot (way t.mask (nhash w k) (c + q)) = .live i := slot_live R.tab.ris hi
          simp only [if_true, hsl, R.entry hp]
          refine wpAny_bind (wpAny_isSame_ref_self (wpAny_bind (wpAny_pure ?_)))
          simp only [if_true]
          refine wp_if_neg (by simp [hkk]) ?_
          refine srch_from R hx hu hKf hK hKb hin hout f (c + (q + 1)) _ rfl (by omega) (by omega) fun i0 p0 h0 hk0 => ?_
          obtain ⟨c', a1, a2, a3⟩ := hre i0 p0 h0 hk0
          refine ⟨c', ?_, a2, a3⟩
          -- it isn't passed
          rcases Nat.lt_or_ge c' (c + q) with z | z
          · exfalso
            refine hno (c' - c) i0 (by omega) (by rw [e1, show c + (c' - c) = c' by omega]; exact a3) ?_
            exact (hashAt i0 p0 h0).trans (congrArg (nhash w) hk0)
          · rcases Nat.lt_or_ge (c + q) c' with y | y
            · omega
            · exfalso
              have ec : c' = c + q := Nat.le_antisymm y z
              rw [ec] at a3
              have s0 := slot_live R.tab.ris a3
              rw [hsl] at s0
              injection s0 with s0
              rw [← s0, hp] at h0
              exact hkk ((congrArg Prod.snd (Option.some.inj h0)).trans hk0)
      by_cases hl : t.led = true
      · refine wp_if_neg (by simp [hl]) ?_
        try refine wpAny_bind (wpAny_pure ?_)
        exact rest
      · refine wp_if_pos (by simp [hl]) ?_
        refine wpAny_bind (seen_nk hx (fun y hy => ?_) ?_)
        · obtain ⟨e, he, ee⟩ := List.mem_map.mp hy
          have he1 : e ∈ es ∧ e.1 = nhash w k := by simpa using he
          have he2 : e ∈ es.toList := by simpa using he1.1
          rw [R.rows] at he2
          obtain ⟨p2, hp2, e2⟩ := List.mem_map.mp he2
          refine ⟨p2.2, p2.1, ?_, R.tup p2 hp2⟩
          rw [← ee, ← e2]
        · refine wp_if_neg (by decide) ?_
          try refine wpAny_bind (wpAny_pure ?_)
          exact rest
    · -- the empty slot
      have hpr' : t.probe (fun i => (es[i]?.map (·.1)).getD 0) (nhash w k) (stand.getD (t.probeStart (nhash w k))) = some (.empty (way t.mask (nhash w k) K) none) := by
        have e2 : way t.mask (nhash w k) K = (nth t.mask (nth t.mask (runAt t.mask (SetTable.bits (nhash w k) % (t.mask + 1)) (SetTable.bits (nhash w k))) c) (K - c)).j := by
          rw [e1, show c + (K - c) = K by omega]
        rw [hst, e2]
        exact hpr
      rw [hpr']
      dsimp only
      refine wpAny_pure (hout fun hm => ?_)
      obtain ⟨p0, h0, hk0⟩ := List.mem_map.mp hm
      obtain ⟨i0, hi0, e0⟩ := List.getElem_of_mem h0
      have h00 : L[i0]? = some p0 := by rw [List.getElem?_eq_getElem hi0, e0]
      obtain ⟨c', a1, a2, a3⟩ := hre i0 p0 h00 hk0
      refine hno (c' - c) i0 (by omega) (by rw [e1, show c + (c' - c) = c' by omega]; exact a3) ?_
      exact (hashAt i0 p0 h00).trans (congrArg (nhash w) hk0)

/-- the search as adding asks for it -/
theorem srch_at (R : SetN P w s.heap a L es ep t) {x : Addr} {k : NestedKey} (hx : Nk s.heap k x) (hu : A.units + 8 < cLine) {Q : SetFound → Shared → Prop}
    (hin : k ∈ L.map (·.2) → Q (.there none) s)
    (hout : ∀ K, k ∉ L.map (·.2) → way t.mask (nhash w k) K ∉ t.place.toList → (∀ c, c < K → way t.mask (nhash w k) c ∈ t.place.toList) → Q (.free (way t.mask (nhash w k) K) false) s) :
    wpAny (model P w) A (setSearch a (.ref x) (nhash w k) true) Q E s := by
  have hroom := R.room
  obtain ⟨K, hKf, hK, hKb⟩ := R.tab.first (by rw [List.length_map]; omega) (nhash w k)
  have hbig : K < 100000 := by
    have : 10 * SetTable.turns t.mask ≤ 1420 := by
      unfold SetTable.turns
      rcases R.tab.mok with e | e | e <;> omega
    omega
  unfold setSearch
  refine srch_from R hx hu hKf hK hKb hin (fun hn => hout K hn hK hKb) 100000 0 none rfl (Nat.zero_le _) (by omega) fun i p hp hk => ?_
  have hi : (L.map fun p => nhash w p.2)[i]? = some (nhash w k) := by rw [List.getElem?_map, hp, ← hk] <;> rfl
  have hil : i < t.place.toList.length := by
    have h1 : i < L.length := (List.getElem?_eq_some_iff.mp hp).1
    have h2 := R.tab.sz
    rw [List.length_map] at h2
    rw [Array.length_toList]
    omega
  have hj := List.getElem?_eq_getElem hil
  obtain ⟨c, hc, e⟩ := R.tab.before hK hi hj
  exact ⟨c, Nat.zero_le _, hc, by rw [hj, e]⟩
end
end NsT

namespace NsT
open PySem PySem.Spec PyProof.Rows L2
section
variable {P : Program} {w : World} {A : Around} {E : Value → Shared → Prop} {s : Shared}
theorem nk_same {h h' : Heap} {k : NestedKey} {a b : Addr} {o : Obj} {es : Array (Int × Value)} {ep : Nat} {t : SetTable} (hb : Nk h k b) (ho : h.get? a = some o) (hd : o.data = .set es ep t) (hs : Heap.SameBut a h h') : Nk h' k b :=
  ⟨NestedIs.at (fun c u vs n hc he => (hs.2 c fun e => by
    subst e
    rw [ho] at hc
    cases hc
    rw [hd] at he
    cases he).trans hc) k _ hb.1, hb.2⟩
theorem rputN (L : List (Addr × NestedKey)) (p : Nat) (x : Addr) (k : NestedKey) : rowsN P w (L.take p ++ (x, k) :: L.drop p) = (rowsN P w L).take p ++ (nhash w k, Value.ref x) :: (rowsN P w L).drop p := by
  unfold rowsN
  rw [List.map_append, List.map_cons, List.map_take, List.map_drop]
theorem ordN (L : List (Addr × NestedKey)) (es : Array (Int × Value)) (order : Array Nat) (hr : es.toList = rowsN P w L) (hp : order.toList.Perm (List.range L.length)) :
    ∃ L2, (order.filterMap (es[·]?)).toList = rowsN P w L2 ∧ L2.Perm L ∧ (L2.map fun p => nhash w p.2) = order.toList.map fun i => (es.map (·.1)).getD i 0 := by
  have hsz : es.size = L.length := by
    have h := congrArg List.length hr
    unfold rowsN at h
    rw [Array.length_toList, List.length_map] at h
    exact h
  have ent : ∀ i (h : i < L.length), es[i]? = some (nhash w (L[i]).2, Value.ref (L[i]).1) := fun i h => by
    rw [← Array.getElem?_toList, hr]
    unfold rowsN
    rw [List.getElem?_map, List.getElem?_eq_getElem h] <;> rfl
  have key : ∀ l : List Nat, (∀ i ∈ l, i < L.length) → ∃ L2 : List (Addr × NestedKey), l.filterMap (fun i => es[i]?) = rowsN P w L2 ∧ L2 = l.filterMap (fun i => L[i]?) ∧ (L2.map fun p => nhash w p.2) = l.map fun i => (es.map (·.1)).getD i 0 := by
    intro l
    induction l with
    | nil => intro _; exact ⟨[], rfl, rfl, rfl⟩
    | cons i l ih =>
      intro hl
      have hi := hl i List.mem_cons_self
      obtain ⟨L2, e1, e2, e3⟩ := ih fun j hj => hl j (List.mem_cons_of_mem _ hj)
      refine ⟨L[i] :: L2, ?_, ?_, ?_⟩
      · rw [List.filterMap_cons_some (ent i hi), e1] <;> rfl
      · rw [List.filterMap_cons_some (List.getElem?_eq_getElem hi), e2]
      · rw [List.map_cons, List.map_cons, e3]
        have hi2 : i < (es.map (·.1)).size := by rw [Array.size_map, hsz]; exact hi
        have e4 : (es.map (·.1)).getD i 0 = nhash w (L[i]).2 := by
          have e5 : (es.map (·.1))[i]? = some (nhash w (L[i]).2) := by rw [Array.getElem?_map, ent i hi] <;> rfl
          simp [Array.getD_eq_getD_getElem?, e5]
        rw [e4]
  obtain ⟨L2, e1, e2, e3⟩ := key order.toList fun i hi => List.mem_range.mp (hp.mem_iff.mp hi)
  refine ⟨L2, by first | (rw [Array.toList_filterMap]; exact e1) | simpa using e1, ?_, e3⟩
  have h1 : L2.Perm ((List.range L.length).filterMap fun i => L[i]?) := by
    rw [e2]
    exact hp.filterMap _
  have h2 : (List.range L.length).filterMap (fun i => L[i]?) = L := by
    have key2 : ∀ n, n ≤ L.length → (List.range n).filterMap (fun i => L[i]?) = L.take n := by
      intro n
      induction n with
      | zero => intro _; rfl
      | succ n ih =>
        intro hn
        have hlt : n < L.length := hn
        rw [List.range_succ, List.filterMap_append, ih (Nat.le_of_lt hlt), List.take_succ, List.getElem?_eq_getElem hlt]
        rw [List.filterMap_cons_some (List.getElem?_eq_getElem hlt)] <;> rfl
    rw [key2 L.length (Nat.le_refl _), List.take_length]
  rw [h2] at h1
  exact h1

variable {a : Addr} {L : List (Addr × NestedKey)} {es : Array (Int × Value)} {ep : Nat} {t : SetTable}
/-- the table laid anew, larger -/
theorem rely_at {o : Obj} (ho : s.heap.get? a = some o) (hex : o.ExactSet) (hd : o.data = .set es ep t) (hrows : es.toList = rowsN P w L) (hsz : t.place.size = es.size) (hdm : t.dummies = #[]) (hfl : es.size ≤ t.mask)
    (nd : (L.map (·.2)).Nodup) (tup : ∀ p ∈ L, Nk s.heap p.2 p.1) (ld : w.params.followText "set-order" = true ∨ t.led = true) (few : L.length < 64) {wanted M : Nat}
    (hw : SetTable.sizeAbove wanted - 1 = M) (hM : MaskOk M) (hw2 : SetTable.sizeAbove wanted ≤ 128) (hn : L.length * 5 < M * 3) {Q : Unit → Shared → Prop}
    (hQ : ∀ h' L' es' ep' t', Heap.SameBut a s.heap h' → SetN P w h' a L' es' ep' t' → L'.Perm L → Q () { s with heap := h' }) : wpAny (model P w) A (setRelay a wanted) Q E s := by
  have hsl : es.size = L.length := by
    have h := congrArg List.length hrows
    unfold rowsN at h
    rw [Array.length_toList, List.length_map] at h
    exact h
  have hfits : t.fits es.size = true := by
    unfold SetTable.fits SetTable.fill
    rw [hdm, Bool.and_eq_true, beq_iff_eq, decide_eq_true_eq]
    show t.place.size = es.size ∧ t.place.size + 0 ≤ t.mask
    omega
  obtain ⟨t', order, e, hp, T, em, el, ep', ed⟩ := relaid_ok t (hs := es.map (·.1)) (wanted := wanted) hw hM (by rw [Array.size_map, hsl]; omega)
  rw [Array.size_map, hsl] at hp
  obtain ⟨L2, r1, r2, r3⟩ := ordN L es order hrows hp
  rw [← r3] at T
  have hs2 : (order.filterMap (es[·]?)).size = es.size := by
    have h := congrArg List.length r1
    unfold rowsN at h
    rw [Array.length_toList, List.length_map, r2.length_eq] at h
    rw [h, hsl]
  rw [setRelay_eq]
  refine wpAny_bind (wpAny_setState_of ho hd hfits ?_)
  dsimp only
  refine wp_if_neg (by rw [sizeLine_eq]; omega) ?_
  try refine wpAny_bind (wpAny_pure ?_)
  rw [e]
  dsimp only
  refine wpAny_bind ?_
  refine wp_if_neg (by rw [hs2]; simp) ?_
  try refine wpAny_bind (wpAny_pure ?_)
  refine wpAny_pure ?_
  dsimp only
  refine wpAny_storeSet_of ho hd ?_ (by rw [hs2, hsl, sizeLine_eq]; omega)
  have sb : Heap.SameBut a s.heap (s.heap.update a (Obj.putSet (order.filterMap (es[·]?)) t')) := Heap.SameBut.update ..
  refine hQ _ L2 (order.filterMap (es[·]?)) (ep + 1) t' sb ?_ r2
  refine ⟨⟨_, store_at ho hd, ⟨hex.1, hex.2.1, hex.2.2⟩, rfl⟩, r1, T, ?_, fun p hpm => nk_same (tup p (r2.mem_iff.mp hpm)) ho hd sb, by rw [el]; exact ld, ?_, by rw [r2.length_eq]; exact few⟩
  · exact (r2.map (·.2)).nodup_iff.mpr nd
  · rw [r2.length_eq, em]
    exact hn

/-- ADDING -/
theorem addN (R : SetN P w s.heap a L es ep t) {x : Addr} {k : NestedKey} (hx : Nk s.heap k x) (hu : A.units + 8 < cLine) (hfew : L.length + 1 < 64) {Q : Bool → Shared → Prop}
    (hQ : ∀ b h' L' es' ep' t', Heap.SameBut a s.heap h' → SetN P w h' a L' es' ep' t' → (k ∈ L.map (·.2) → L' = L) → (k ∉ L.map (·.2) → L'.Perm ((x, k) :: L)) → Q b { s with heap := h' }) :
    wpAny (model P w) A (setAddHashed a (.ref x) (nhash w k)) Q E s := by
  obtain ⟨o, ho, hex, hd⟩ := R.ob
  have hsl := R.size
  have hroom := R.room
  unfold setAddHashed
  refine wpAny_holding ?_
  rw [show (100000 : Nat) = 99999 + 1 from rfl, setAddHashedIn_succ]
  refine wpAny_bind (wpAny_setState_of ho hd R.fits ?_)
  dsimp only
  refine wp_if_neg (by simp [byScan, Value.scannable]) ?_
  try refine wpAny_bind (wpAny_pure ?_)
  refine wpAny_bind (srch_at R hx hu (fun hm => ?_) fun K hm hK hb => ?_)
  · dsimp only
    exact wpAny_pure (hQ false s.heap L es ep t (Heap.SameBut.refl a s.heap) R (fun _ => rfl) fun z => absurd hm z)
  · dsimp only
    refine wpAny_bind (wpAny_setState_of ho hd R.fits ?_)
    dsimp only
    obtain ⟨q1, q2, q3, q4, q5, q6, q7, q8, q9⟩ := R.tab.put hK hb
    generalize hpt : t.put (way t.mask (nhash w k) K) = pt at q1 q3 q4 q5 q6 q7 q8 q9 ⊢
    obtain ⟨t1, p⟩ := pt
    dsimp only at q1 q3 q4 q5 q6 q7 q8 q9 ⊢
    subst q1
    refine bv_any hx fun bv => ?_
    obtain ⟨t2, et2, c1, c2, c3, c4, c5⟩ := plain_any t1 bv
    rw [et2]
    replace q3 := tab_any c1 c2 c3 q3
    replace q4 : t2.mask = t.mask := c3.trans q4
    replace q5 : t2.led = t.led := c4.trans q5
    replace q9 := c5.trans q9
    clear et2 c1 c2 c3 c4 c5 q6 q7 q8
    generalize t2 = t1 at q3 q4 q5 q9 ⊢
    have hin : (SetTable.insertAt es (SetTable.below t.place (way t.mask (nhash w k) K)) (nhash w k, Value.ref x)).toList = rowsN P w (L.take (SetTable.below t.place (way t.mask (nhash w k) K)) ++ (x, k) :: L.drop (SetTable.below t.place (way t.mask (nhash w k) K))) := by
      rw [SetTable.toList_insertAt, rputN, R.rows]
    generalize hpp : SetTable.below t.place (way t.mask (nhash w k) K) = p at q2 q3 hin ⊢
    have pm := put_perm L p (x, k)
    have hlen : (L.take p ++ (x, k) :: L.drop p).length = L.length + 1 := pm.length_eq
    have hhs : (L.take p ++ (x, k) :: L.drop p).map (fun p => nhash w p.2) = (L.map fun p => nhash w p.2).take p ++ nhash w k :: (L.map fun p => nhash w p.2).drop p := by
      rw [List.map_append, List.map_cons, List.map_take, List.map_drop]
    rw [← hhs] at q3
    have nd1 : ((L.take p ++ (x, k) :: L.drop p).map (·.2)).Nodup := by
      refine (pm.map (·.2)).nodup_iff.mpr ?_
      rw [List.map_cons]
      exact List.nodup_cons.mpr ⟨hm, R.nd⟩
    have hes : (SetTable.insertAt es p (nhash w k, Value.ref x)).size = L.length + 1 := by
      have h := congrArg List.length hin
      unfold rowsN at h
      rw [Array.length_toList, List.length_map, hlen] at h
      exact h
    generalize SetTable.insertAt es p (nhash w k, Value.ref x) = es1 at hin hes ⊢
    generalize L.take p ++ (x, k) :: L.drop p = L1 at pm hlen q3 nd1 hin
    refine wpAny_bind (wpAny_storeSet_of ho hd ?_ (by rw [hes, sizeLine_eq]; omega))
    have sb : Heap.SameBut a s.heap (s.heap.update a (Obj.putSet es1 t1)) := Heap.SameBut.update ..
    have ho1 := store_at (es' := es1) (t' := t1) ho hd
    generalize s.heap.update a (Obj.putSet es1 t1) = h1 at sb ho1 ⊢
    have tup1 : ∀ p ∈ L1, Nk h1 p.2 p.1 := fun p hp => by
      rcases List.mem_cons.mp (pm.mem_iff.mp hp) with e | hp
      · rw [e]; exact nk_same hx ho hd sb
      · exact nk_same (R.tup p hp) ho hd sb
    have ld1 : w.params.followText "set-order" = true ∨ t1.led = true := by rw [q5]; exact R.led
    by_cases hf : t1.tooFull = true
    · first
        | (refine wpAny_bind ?_; refine wp_if_pos (by simp [hf]) ?_)
        | (refine wp_if_pos (by simp [hf]) ?_; refine wpAny_bind ?_)
      have hfull : (L.length + 1) * 5 ≥ t1.mask * 3 := by
        have h := hf
        unfold SetTable.tooFull at h
        rw [decide_eq_true_eq, q9, List.length_map] at h
        exact h
      rw [hsl]
      have hsz1 : t1.place.size = es1.size := by
        have h := q3.sz
        rw [List.length_map, hlen] at h
        rw [h, hes]
      have cases2 : (t.mask = 7 ∧ L.length = 4) ∨ (t.mask = 31 ∧ L.length = 18) := by
        rcases R.tab.mok with e | e | e
        · left; rw [q4, e] at hfull; rw [e] at hroom; exact ⟨e, by omega⟩
        · right; rw [q4, e] at hfull; rw [e] at hroom; exact ⟨e, by omega⟩
        · exfalso; rw [q4, e] at hfull; omega
      have go : ∀ M, SetTable.sizeAbove (SetTable.grown (L.length + 1)) - 1 = M → MaskOk M → SetTable.sizeAbove (SetTable.grown (L.length + 1)) ≤ 128 → (L.length + 1) * 5 < M * 3 →
          wpAny (model P w) A (setRelay a (SetTable.grown (L.length + 1))) (fun _ s' => wpAny (model P w) A (pure true) Q E s') E { s with heap := h1 } := fun M h1' h2' h3' h4' => by
        refine rely_at (s := { s with heap := h1 }) ho1 ⟨hex.1, hex.2.1, hex.2.2⟩ rfl hin hsz1 q3.dm (by rw [hes, q4]; rcases cases2 with ⟨e, e2⟩ | ⟨e, e2⟩ <;> omega) nd1 tup1 ld1 (by rw [hlen]; exact hfew) h1' h2' h3' (by rw [hlen]; exact h4') ?_
        intro h2 L2 es2 ep2 t2 sb2 R2 pm2
        refine wpAny_pure (hQ true h2 L2 es2 ep2 t2 (sb.trans sb2) R2 (fun z => absurd z hm) fun _ => pm2.trans pm)
      rcases cases2 with ⟨_, e2⟩ | ⟨_, e2⟩
      · refine go 31 (by rw [e2, size_20]) (.inr (.inl rfl)) (by rw [e2, size_20]; decide) (by omega)
      · refine go 127 (by rw [e2, size_76]) (.inr (.inr rfl)) (by rw [e2, size_76]; decide) (by omega)
    · first
        | refine wp_if_neg (by simp [hf]) ?_
        | (refine wpAny_bind ?_; refine wp_if_neg (by simp [hf]) ?_; refine wpAny_pure ?_)
      refine wpAny_pure (hQ true h1 L1 es1 (ep + 1) t1 sb ⟨⟨_, ho1, ⟨hex.1, hex.2.1, hex.2.2⟩, rfl⟩, hin, q3, nd1, tup1, ld1, ?_, by rw [hlen]; exact hfew⟩ (fun z => absurd z hm) fun _ => pm)
      have h := hf
      unfold SetTable.tooFull at h
      rw [decide_eq_true_eq, q9, List.length_map] at h
      rw [hlen]
      omega
end
end NsT

namespace NsT
open PySem PySem.Spec PyProof.Rows L2

/-- what the set has got from the first i items -/
structure GotN (ks : List (Addr × NestedKey)) (i : Nat) (L : List (Addr × NestedKey)) : Prop where
  sub : ∀ p ∈ L, p ∈ ks.take i
  all : ∀ p ∈ ks.take i, p.2 ∈ L.map (·.2)
  len : L.length ≤ i
theorem GotN.zero (ks : List (Addr × NestedKey)) : GotN ks 0 [] := ⟨fun p h => (by cases h), fun p h => (by simp at h), Nat.le_refl _⟩
theorem GotN.same {ks L : List (Addr × NestedKey)} {i : Nat} {x : Addr × NestedKey} (g : GotN ks i L) (h : ks[i]? = some x) (hm : x.2 ∈ L.map (·.2)) : GotN ks (i + 1) L := by
  refine ⟨fun p hp => ?_, fun p hp => ?_, Nat.le_succ_of_le g.len⟩
  · rw [take_next h]
    exact List.mem_append_left _ (g.sub p hp)
  · rw [take_next h] at hp
    rcases List.mem_append.mp hp with z | z
    · exact g.all p z
    · rw [List.mem_singleton.mp z]; exact hm
theorem GotN.more {ks L L' : List (Addr × NestedKey)} {i : Nat} {x : Addr × NestedKey} (g : GotN ks i L) (h : ks[i]? = some x) (pm : L'.Perm (x :: L)) : GotN ks (i + 1) L' := by
  refine ⟨fun p hp => ?_, fun p hp => ?_, ?_⟩
  · rw [take_next h]
    rcases List.mem_cons.mp (pm.mem_iff.mp hp) with e | z
    · rw [e]; exact List.mem_append_right _ (List.mem_singleton.mpr rfl)
    · exact List.mem_append_left _ (g.sub p z)
  · rw [(pm.map (·.2)).mem_iff, List.map_cons]
    rw [take_next h] at hp
    rcases List.mem_append.mp hp with z | z
    · exact List.mem_cons_of_mem _ (g.all p z)
    · rw [List.mem_singleton.mp z]; exact List.mem_cons_self
  · rw [pm.length_eq, List.length_cons]
    exact Nat.succ_le_succ g.len

section
variable {P : Program} {w : World} {A : Around} {E : Value → Shared → Prop} {s : Shared}
theorem nk_keep {h h' : Heap} {k : NestedKey} {b : Addr} (x : Nk h k b) (kp : ∀ c o, h.get? c = some o → h'.get? c = some o) : Nk h' k b := ⟨NestedIs.at (fun c u _ _ hc _ => kp c u hc) k _ x.1, x.2⟩
theorem SetN.keep {h h' : Heap} {a : Addr} {L : List (Addr × NestedKey)} {es : Array (Int × Value)} {ep : Nat} {t : SetTable} (R : SetN P w h a L es ep t) (ha : ∀ o, h.get? a = some o → h'.get? a = some o) (ht : ∀ p ∈ L, Nk h' p.2 p.1) : SetN P w h' a L es ep t := by
  obtain ⟨o, ho, r⟩ := R.ob
  exact ⟨⟨o, ha o ho, r⟩, R.rows, R.tab, R.nd, ht, R.led, R.room, R.few⟩
/-- a new set -/
theorem setN_fresh {h : Heap} {a : Addr} (ho : h.get? a = some { cls := .type "set", dict := none, data := .set #[] 0 (.fresh 0 0 (!w.params.followText "set-order")) }) : SetN P w h a [] #[] 0 (.fresh 0 0 (!w.params.followText "set-order")) where
  ob := ⟨_, ho, ⟨rfl, rfl, rfl⟩, rfl⟩
  rows := rfl
  tab := ⟨List.Pairwise.nil, rfl, rfl, .inl rfl, fun x hx => (by cases hx), fun i h j hi => (by simp at hi)⟩
  nd := List.nodup_nil
  tup := fun p hp => (by cases hp)
  led := by
    show _ ∨ (!w.params.followText "set-order") = true
    cases w.params.followText "set-order"
    · exact .inr rfl
    · exact .inl rfl
  room := by
    show 0 * 5 < 7 * 3
    decide
  few := by
    show 0 < 64
    decide

/-- set.update's loop -/
theorem updN {I : Addr} {fp wr : List Addr} {G : Array GenState → Array GenState → Prop} {n : Nat} {Pv : Nat → Value → Prop} {St : Nat → Shared → Prop} {R : Result → Shared → Prop}
    (W : WalksS P w A.in1 I fp wr G n Pv St) (S : Addr) (hSf : S ∉ fp) (ks : List (Addr × NestedKey)) (hn : n = ks.length) (hfew : ks.length < 64) (hval : ∀ i v, Pv i v → ∃ p, ks[i]? = some p ∧ v = .ref p.1)
    (h0 : Heap) (hk : ∀ p ∈ ks, Nk h0 p.2 p.1) (hS0 : h0.get? S = none) (hw0 : ∀ b ∈ wr, h0.get? b = none) (hu : A.in1.units + 8 < cLine) :
    ∀ (k i : Nat) (s : Shared), n - i = k → i ≤ n → St i s → (∀ b o, h0.get? b = some o → s.heap.get? b = some o) → (∃ L es ep t, SetN P w s.heap S L es ep t ∧ GotN ks i L) →
      (∀ s' L es ep t, Moved (S :: wr) G s s' → SetN P w s'.heap S L es ep t → GotN ks n L → (∀ b o, h0.get? b = some o → s'.heap.get? b = some o) → R (.ok (.ret .none)) s') →
      codeAny (model P w) A (.builtin "set.update.loop" ⟨[.ref S, .ref I], []⟩) R s := by
  have hSw : S ∉ wr := fun h => hSf (W.sub _ h)
  have hsub : ∀ b ∈ wr, b ∈ S :: wr := fun b hb => List.mem_cons_of_mem _ hb
  have keepM : ∀ {s s' : Shared}, Moved wr G s s' → (∀ b o, h0.get? b = some o → s.heap.get? b = some o) → ∀ b o, h0.get? b = some o → s'.heap.get? b = some o := fun hm hkp b o e =>
    hm.heap b o (fun hb => by rw [hw0 b hb] at e; cases e) (hkp b o e)
  intro k
  induction k with
  | zero =>
    intro i s hk' hi hst hkp ⟨L, es, ep, t, hS, g⟩ hR
    have hin : i = n := by omega
    subst hin
    refine codeAny_builtin F.entry_set_update_loop ?_
    rw [Around.under_plainId F.plain_set_update_loop _]
    show wpAny _ A.in1 (pyNext (.ref I) >>= _) _ _ s
    refine wpAny_bind (W.done s _ _ hst fun s' hm => ?_)
    show wpAny _ A.in1 (ret Value.none) _ _ s'
    have hkp' := keepM hm hkp
    have sub : ∀ p ∈ L, p ∈ ks := fun p hp => List.mem_of_mem_take (g.sub p hp)
    exact wpAny_pure (hR s' L es ep t (hm.mono hsub) (hS.keep (fun o e => hm.heap S o hSw e) fun p hp => nk_keep (hk p (sub p hp)) hkp') g hkp')
  | succ k ih =>
    intro i s hk' hi hst hkp ⟨L, es, ep, t, hS, g⟩ hR
    have hlt : i < n := by omega
    refine codeAny_builtin F.entry_set_update_loop ?_
    rw [Around.under_plainId F.plain_set_update_loop _]
    show wpAny _ A.in1 (pyNext (.ref I) >>= _) _ _ s
    refine wpAny_bind (W.item i s _ _ hlt hst fun v s' hP hst' hm => ?_)
    obtain ⟨p, hp, rfl⟩ := hval i v hP
    have hkp' := keepM hm hkp
    have sub : ∀ p ∈ L, p ∈ ks := fun p hp => List.mem_of_mem_take (g.sub p hp)
    have hS' : SetN P w s'.heap S L es ep t := hS.keep (fun o e => hm.heap S o hSw e) fun q hq => nk_keep (hk q (sub q hq)) hkp'
    have hx : Nk s'.heap p.2 p.1 := nk_keep (hk p (List.mem_of_getElem? hp)) hkp'
    show wpAny _ A.in1 (holding [Value.ref p.1] (setAdd S (.ref p.1)) >>= _) _ _ s'
    refine wpAny_bind (wpAny_holding ?_)
    unfold setAdd
    refine wpAny_holding ?_
    refine wpAny_bind (nk_hash hu hx ?_)
    refine addN (s := { s' with toks := s'.toks + p.2.draws }) hS' hx hu (by have := g.len; omega) fun b h' L' es' ep' t' hsb hS2 c1 c2 => ?_
    have g' : GotN ks (i + 1) L' := by
      rcases Classical.em (p.2 ∈ L.map (·.2)) with c | c
      · rw [c1 c]; exact g.same hp c
      · exact g.more hp (c2 c)
    have hkp2 : ∀ b o, h0.get? b = some o → h'.get? b = some o := fun b o e => (hsb.2 b (fun z => by rw [z, hS0] at e; cases e)).trans (hkp' b o e)
    refine wpAny_pure ⟨plainId_quiet F.plain_set_update_loop _, ih (i + 1) _ (by omega) hlt (W.frame _ s' _ _ hst' (Nat.le_add_right _ _) fun b hb o e => ?_) hkp2 ⟨L', es', ep', t', hS2, g'⟩ fun s'' L2 es2 ep2 t2 hm'' hS'' g'' hkp'' => ?_⟩
    · rw [hsb.2 b (fun h : b = S => hSf (by rw [← h]; exact hb))]; exact e
    · refine hR s'' L2 es2 ep2 t2 (Moved.trans W.gtrans ((hm.mono hsub).then_heap (Nat.le_add_right _ _) fun b o hb e => ?_) hm'') hS'' g'' hkp''
      rw [hsb.2 b (fun h : b = S => hb (by rw [h]; exact List.mem_cons_self))]; exact e

set_option maxRecDepth 100000 in
set_option maxHeartbeats 3200000 in
/-- set(xs) -/
theorem call_setN {l : Addr} {items : Array Value} (ks : List (Addr × NestedKey)) {Q : Value → Shared → Prop} (hh : A.handled = none) (hl : s.heap.IsList l items) (hit : items.toList = ks.map fun p => Value.ref p.1)
    (hk : ∀ p ∈ ks, Nk s.heap p.2 p.1) (hfew : ks.length < 64) (hu : A.units + 12 < cLine)
    (h : ∀ (h' : Heap) (tk : Nat) L es ep t, SetN P w h' s.heap.objs.size L es ep t → GotN ks ks.length L → (∀ b o, s.heap.get? b = some o → h'.get? b = some o) → Q (.ref s.heap.objs.size) { s with heap := h', toks := tk }) :
    wpAny (model P w) A (call (.type "set") [.ref l]) Q E s := by
  have hisz : items.size = ks.length := by
    have q := congrArg List.length hit
    rw [Array.length_toList, List.length_map] at q
    exact q
  obtain ⟨c, tl, hmro⟩ := F.called_set.mro
  have hmade := F.called_set.made
  have hsub := F.called_set.sub
  refine wpAny_call (codeAny_of_tree ?_)
  show wpAny _ _ (callAny (.type "set") _) _ _ _
  refine wpAny_pure ⟨Code.quiet_builtin _ (by decide +kernel), codeAny_builtin F.entry_type_call ?_⟩
  rw [Around.under_plain (weight_type_call_type "set" [.ref l] []) rfl]
  have h1 := F.called_set.notType
  have h2 := F.called_set.canCreate
  have hct := F.typeCall_set_1 (.ref l)
  repeat (any_goals (first | assumption | wp_step))

  refine codeAny_mono (code_set_led1 (.ref l) (E := E) (Q₁ := fun obj s₁ => obj = .ref s.heap.objs.size ∧ s₁ = { s with heap := s.heap.push { cls := .type "set", dict := none, data := .set #[] 0 (.fresh 0 0 (!w.params.followText "set-order")) } }) ⟨rfl, rfl⟩) fun r s₁ hr => ?_
  cases r with
  | error e => exact hr
  | ok fl =>
    cases fl with
    | ret obj =>
      obtain ⟨rfl, rfl⟩ := hr
      have hS : (s.heap.push { cls := .type "set", dict := none, data := .set #[] 0 (.fresh 0 0 (!w.params.followText "set-order")) }).get? s.heap.objs.size = some { cls := .type "set", dict := none, data := .set #[] 0 (.fresh 0 0 (!w.params.followText "set-order")) } := Heap.get?_push_size _ rfl
      have hT : Shared.TypeIs { s with heap := s.heap.push { cls := .type "set", dict := none, data := .set #[] 0 (.fresh 0 0 (!w.params.followText "set-order")) } } (.ref s.heap.objs.size) "set" := ⟨_, hS, rfl⟩
      have hli := F.called_set.init.lookup
      have hbi := F.called_set.init.bind (.ref s.heap.objs.size)
      repeat (any_goals (first | assumption | wp_step))

      refine codeAny_mono (codeAny_call_builtin (R := wants (fun r s₂ => r = .none ∧ ∃ h' tk L es ep t, s₂ = { s with heap := h', toks := tk } ∧ SetN P w h' s.heap.objs.size L es ep t ∧ GotN ks ks.length L ∧
          (∀ b o, s.heap.get? b = some o → h'.get? b = some o)) E) F.called_set.init.plain F.entry_set_init (check_set_init_1 hT ?_)) fun r₂ s₂ hr₂ => ?_
      · obtain ⟨ol, hol, hcl, nl, hdl⟩ := hl
        obtain ⟨ocls, odict, odata, oslots⟩ := ol
        simp only at hcl hdl
        subst hcl; subst hdl
        have hol' : (s.heap.push { cls := .type "set", dict := none, data := .set #[] 0 (.fresh 0 0 (!w.params.followText "set-order")) }).get? l = some { cls := .type "list", dict := odict, data := .seq items nl, slots := oslots } := Heap.get?_push_of_some _ hol
        have hsls := F.sub_list_set
        have hslf := F.sub_list_frozenset
        have hne : (Value.type "list" == Value.type "dict") = false := by decide
        have hl1 : (s.heap.push { cls := .type "set", dict := none, data := .set #[] 0 (.fresh 0 0 (!w.params.followText "set-order")) }).IsList l items := ⟨_, hol', rfl, nl, rfl⟩
        unfold Builtin.«set.__init__» noKeywords Builtin.Frozenset.updateFrom
        generalize hPI : pyIter = PI
        wp_walk
        subst hPI

        refine wpAny_pyIter_list hl1 ?_
        refine wpAny_bind (wpAny_runValue ?_)
        have hlS : l < s.heap.objs.size := Heap.lt_size hol
        have hh3 : A.in1.in1.in1.handled = none := by simp [hh]
        have hz1 : (s.heap.push { cls := .type "set", dict := none, data := .set #[] 0 (.fresh 0 0 (!w.params.followText "set-order")) }).objs.size = s.heap.objs.size + 1 := Heap.size_push ..
        have hneI : l ≠ (s.heap.push { cls := .type "set", dict := none, data := .set #[] 0 (.fresh 0 0 (!w.params.followText "set-order")) }).objs.size := by
          rw [Heap.size_push]; exact Nat.ne_of_lt (Nat.lt_succ_of_lt hlS)
        have hSf : s.heap.objs.size ∉ [(s.heap.push { cls := .type "set", dict := none, data := .set #[] 0 (.fresh 0 0 (!w.params.followText "set-order")) }).objs.size, l] := by
          rw [Heap.size_push]; simp only [List.mem_cons, List.mem_singleton, List.not_mem_nil, or_false, not_or]
          exact ⟨Nat.ne_of_lt (Nat.lt_succ_self _), Nat.ne_of_gt hlS⟩
        have hval : ∀ (i : Nat) (v : Value), items[i]? = some v → ∃ p, ks[i]? = some p ∧ v = .ref p.1 := fun i v hv => by
          have q : items.toList[i]? = some v := by rw [Array.getElem?_toList]; exact hv
          rw [hit, List.getElem?_map] at q
          cases hq : ks[i]? with
          | none => rw [hq] at q; cases q
          | some p =>
            rw [hq] at q
            exact ⟨p, rfl, (Option.some.inj q).symm⟩
        have none_of : ∀ b, s.heap.objs.size ≤ b → s.heap.get? b = none := fun b hb => by
          cases q : s.heap.get? b with
          | none => rfl
          | some o => exact absurd (Nat.lt_of_lt_of_le (Heap.lt_size q) hb) (Nat.lt_irrefl _)
        refine updN ((Walks.list hh3 _ l hneI items).toS) s.heap.objs.size
          hSf ks hisz hfew hval s.heap hk (none_of _ (Nat.le_refl _)) (fun b hb => none_of b (by
            rw [List.mem_singleton.mp hb, Heap.size_push]
            exact Nat.le_succ _)) (by show A.units + 1 + 1 + 1 + 8 < cLine; omega) (items.size - 0) 0 _ (by omega) (Nat.zero_le _)
          ⟨⟨_, Heap.get?_push_size _ rfl, rfl, rfl⟩, (hl1.push _)⟩ (fun b o e => Heap.get?_push_of_some _ (Heap.get?_push_of_some _ e)) ?hS0 ?hR
        case hS0 =>
          have hget : ((s.heap.push { cls := .type "set", dict := none, data := .set #[] 0 (.fresh 0 0 (!w.params.followText "set-order")) }).push { cls := .type "list_iterator", data := .fields #[.ref l, .int 0 0] }).get? s.heap.objs.size
              = some { cls := .type "set", dict := none, data := .set #[] 0 (.fresh 0 0 (!w.params.followText "set-order")) } := Heap.get?_push_of_some _ hS
          exact ⟨[], #[], 0, _, setN_fresh hget, GotN.zero ks⟩
        case hR =>
          intro s' L es ep t hm hS' g' hkp
          obtain ⟨h', g2, d', tk', os'⟩ := s'
          have eg : g2 = s.gens := hm.gens
          have ed : d' = s.drawn := hm.drawn
          have eo : os' = s.os := hm.os
          subst eg; subst ed; subst eo
          show wpAny _ _ _ _ _ _
          refine wpAny_pure ?_
          show wpAny _ _ (ret Value.none) _ _ _
          rw [hisz] at g'
          exact wpAny_pure ⟨rfl, h', tk', L, es, ep, t, rfl, hS', g', hkp⟩

      · cases r₂ with
        | error e => exact hr₂
        | ok fl₂ =>
          cases fl₂ with
          | ret r =>
            obtain ⟨rfl, h', tk, L, es, ep, t, rfl, hS', g', hk'⟩ := hr₂
            repeat (any_goals (first | assumption | wp_step))
            exact h _ _ _ _ _ _ hS' g' hk'
          | _ => exact hr₂.elim
    | _ => exact hr.elim
end
end NsT
namespace NsT
open PySem PySem.Spec PyProof.Rows L2 PySem.W
section
variable {P : Program} {w : World} {A : Around} {E : Value → Shared → Prop} {s : Shared}
mutual
theorem depth_data : ∀ k : NestedKey, k.data.depth ≤ k.depth
  | .none => by simp [NestedKey.data, PyData.depth, NestedKey.depth]
  | .num _ => by simp [NestedKey.data, PyData.depth, NestedKey.depth]
  | .text _ => by simp [NestedKey.data, PyData.depth, NestedKey.depth]
  | .tup ks => by
    simp only [NestedKey.data, PyData.depth, NestedKey.depth]
    exact Nat.succ_le_succ (depth_datas ks)
theorem depth_datas : ∀ ks : List NestedKey, PyData.depthAll (NestedKey.datas ks) ≤ NestedKey.depthAll ks
  | [] => by simp [NestedKey.datas, PyData.depthAll, NestedKey.depthAll]
  | k :: ks => by
    have h1 := depth_data k
    have h2 := depth_datas ks
    simp only [NestedKey.datas, PyData.depthAll, NestedKey.depthAll]
    omega
end
theorem dataLe_tot {β : Type} (k : β → PyData) : TotalLe (dataLe false k) := sortLe_total (listOrd itemOrd) false fun b => keyToks (k b)
theorem each_refs : ∀ {out : List Value} {M : List (Addr × NestedKey)}, EachIs (fun v q => v = Value.ref q.1) out M → out = M.map fun q => Value.ref q.1
  | _, _, .nil => rfl
  | _, _, .cons e t => by rw [e, each_refs t] <;> rfl
theorem refs_each : ∀ M : List (Addr × NestedKey), EachIs (fun v q => v = Value.ref q.1) (M.map fun q => Value.ref q.1) M
  | [] => .nil
  | _ :: M => .cons rfl (refs_each M)
theorem each_reads {h : Heap} {a : Addr} : ∀ M : List (Addr × NestedKey), (∀ q ∈ M, Reads h (.ref q.1) q.2.data []) → EachIs (fun v q => ∃ as, Reads h v q.2.data as ∧ a ∉ as) (M.map fun q => Value.ref q.1) M
  | [], _ => .nil
  | q :: M, r => .cons ⟨[], r q List.mem_cons_self, fun z => nomatch z⟩ (each_reads M fun x hx => r x (List.mem_cons_of_mem _ hx))
/-- sorted(S), S such a set -/
theorem sorted_setN {a : Addr} {L : List (Addr × NestedKey)} {es : Array (Int × Value)} {ep : Nat} {t : SetTable} {Q : Value → Shared → Prop} (R : SetN P w s.heap a L es ep t) (hh : A.handled = none) (hu : A.units + 12 < cLine)
    (rd : ∀ q ∈ L, Reads s.heap (.ref q.1) q.2.data []) (hal : ∀ M : List (Addr × NestedKey), (∀ q ∈ M, q ∈ L) → AllAlike (M.map fun q => q.2.data)) (hso : ∀ M : List (Addr × NestedKey), M.Perm L → Sortable (M.map fun q => q.2.data))
    (hQ : ∀ s' p (out : Array Value) (c : Nat) (L' : List (Addr × NestedKey)), (∀ b o, s.heap.get? b = some o → s'.heap.get? b = some o) → s'.gens = s.gens → s'.os = s.os → s.heap.objs.size ≤ p →
      s'.heap.get? p = some (seqObj "list" out c) → out.toList = L'.map (fun q => Value.ref q.1) → L'.Perm L → L'.Pairwise (fun q r => dataLe false (fun q : Addr × NestedKey => q.2.data) q r = true) → Q (.ref p) s') :
    wpAny (model P w) A (call (.builtin "sorted") [.ref a]) Q E s := by
  obtain ⟨o, ho, hex, hd⟩ := R.ob
  have hsz := R.size
  have hfew := R.few
  refine Calls.call_function_entry kind_sorted plain_sorted entry_sorted (args_sorted1 _) ?_
  unfold Builtin.«sorted»
  refine wpAny_bind (m := checkCount "sorted" 1 1 _) (wpAny_pure ?_)
  refine wpAny_bind (collect_set (A := A.in1) hh ⟨o, ho, hex.1, hd⟩ R.fits (by unfold scanBound; omega) R.tab.ris R.led fun s1 vs k1 hz g1 o1 pm => ?_)
  have hes : es.toList.map (·.2) = L.map fun q => Value.ref q.1 := by
    rw [R.rows]
    unfold rowsN
    rw [List.map_map] <;> rfl
  rw [hes] at pm
  have one : ∀ q ∈ L, ∀ r ∈ L, q.1 = r.1 → q = r := fun q hq r hr e => by
    have a1 := R.tup q hq
    have a2 := R.tup r hr
    rw [e] at a1
    exact Prod.ext e (a1.inj a2)
  have nref : (L.map fun q => Value.ref q.1).Nodup := by
    have nL : L.Nodup := nodup_of_map R.nd
    refine List.pairwise_map.mpr (List.Pairwise.imp_of_mem (fun {q r} hq hr hne e => ?_) nL)
    injection e with e
    exact hne (one q hq r hr e)
  obtain ⟨M, eM, pM⟩ : ∃ M : List (Addr × NestedKey), vs = M.map (fun q => Value.ref q.1) ∧ M.Perm L := by
    have ord : ∀ vs : List Value, (∀ v ∈ vs, ∃ q ∈ L, v = Value.ref q.1) → ∃ M : List (Addr × NestedKey), vs = M.map (fun q => Value.ref q.1) ∧ ∀ q ∈ M, q ∈ L := by
      intro vs
      induction vs with
      | nil => intro _; exact ⟨[], rfl, fun q hq => (by cases hq)⟩
      | cons v vs ih =>
        intro hv
        obtain ⟨q, hq, e⟩ := hv v List.mem_cons_self
        obtain ⟨M, e1, hs⟩ := ih fun u hu => hv u (List.mem_cons_of_mem _ hu)
        exact ⟨q :: M, by rw [List.map_cons, e, e1], fun r hr => (List.mem_cons.mp hr).elim (fun z => z ▸ hq) (hs r)⟩
    obtain ⟨M, eM, sM⟩ := ord vs fun v hv => by
      obtain ⟨q, hq, e⟩ := List.mem_map.mp (pm.mem_iff.mp hv)
      exact ⟨q, hq, e.symm⟩
    refine ⟨M, eM, ?_⟩
    rw [eM] at pm
    have n1 : M.Nodup := nodup_of_map (pm.nodup_iff.mpr nref)
    refine (List.perm_ext_iff_of_nodup n1 (nodup_of_map R.nd)).mpr fun q => ⟨sM q, fun hq => ?_⟩
    obtain ⟨r, hr, e⟩ := List.mem_map.mp (pm.mem_iff.mpr (List.mem_map.mpr ⟨q, hq, rfl⟩))
    injection e with e
    rw [← one r (sM r hr) q hq e]
    exact hr
  subst eM
  have hvl : (M.map fun q => Value.ref q.1).length < 64 := by rw [List.length_map, pM.length_eq]; exact hfew
  refine wpAny_bind (wpAny_newList ?_ (by rw [sizeLine_eq]; omega))
  have hoL : (s1.heap.push (seqObj "list" (M.map fun q => Value.ref q.1).toArray 0)).get? s1.heap.objs.size = some (seqObj "list" (M.map fun q => Value.ref q.1).toArray 0) := Heap.get?_push_size _ rfl
  have rM : ∀ q ∈ M, Reads (s1.heap.push (seqObj "list" (M.map fun q => Value.ref q.1).toArray 0)) (.ref q.1) q.2.data [] := fun q hq => PyProof.Rows.Reads.keeps (fun b u e => Heap.get?_push_of_some _ (k1 b u e)) (rd q (pM.mem_iff.mp hq))
  refine wpAny_bind (wpAny_holding (list_sort_data (s := { s1 with heap := s1.heap.push (seqObj "list" (M.map fun q => Value.ref q.1).toArray 0) }) (R := fun v (q : Addr × NestedKey) => v = Value.ref q.1) (enc := fun q : Addr × NestedKey => q.2.data) hoL (refs_each M) (each_reads M rM) (hal M fun q hq => pM.mem_iff.mp hq) (hso M pM) ?_ ?_ fun out hlen hout => ?_))
  · rw [List.length_map] at hvl
    rw [sizeLine_eq]
    omega
  · intro q hq
    have h1 := (R.tup q (pM.mem_iff.mp hq)).2
    have h2 := depth_data q.2
    show A.units + 1 + 1 + q.2.data.depth < cLine
    omega
  have eo := each_refs hout
  obtain ⟨c, hc⟩ := sortedHeap_at (vs := M.map fun q => Value.ref q.1) (out := out.toArray) hoL
  refine wpAny_pure ⟨_, rfl, hQ _ s1.heap.objs.size out.toArray c (M.mergeSort (dataLe false fun q => q.2.data)) (fun b u e => ?_) g1 o1 hz hc (by simpa using eo) ((List.mergeSort_perm M _).trans pM) (sort_pairwise (dataLe_tot _) M)⟩
  have q := k1 b u e
  have hlt := Heap.lt_size q
  show (sortedHeap (s1.heap.push (seqObj "list" (M.map fun q => Value.ref q.1).toArray 0)) s1.heap.objs.size (M.map fun q => Value.ref q.1) out.toArray).get? b = some u
  rw [sortedHeap_old (Nat.ne_of_lt hlt) (by rw [size_push']; exact Nat.lt_succ_of_lt hlt)]
  exact Heap.get?_push_of_some _ q
end
/-! ### keys where the walk sees them -/
mutual
inductive KIs (H : Hp) : NestedKey → V → Prop
  | num (i) : KIs H (.num i) (.int i)
  | text (x) : KIs H (.text x) (.str x)
  | tup {a ks xs} : LwB.Sq false H a xs → KAll H ks xs → KIs H (.tup ks) (.ref a)
inductive KAll (H : Hp) : List NestedKey → List V → Prop
  | nil : KAll H [] []
  | cons {k v ks vs} : KIs H k v → KAll H ks vs → KAll H (k :: ks) (v :: vs)
end
section
variable {X : Cx} {pins : List (Addr × Obj)} {σ : L2.St} {H : Hp} {s : Shared}
mutual
theorem KIs.raw (I : Inv X pins σ H s) : ∀ {k : NestedKey} {v : V} {u : Value}, KIs H k v → RelV v u → NestedIs s.heap k u ∧ Reads s.heap u k.data []
  | .num i, _, _, x, r => by
    cases x
    obtain ⟨tk, rfl⟩ := r
    exact ⟨.int _ _, .int _ _⟩
  | .text z, _, _, x, r => by
    cases x
    obtain ⟨tk, rfl⟩ := r
    exact ⟨.text _ _, .str _ _⟩
  | .none, _, _, x, _ => by cases x
  | .tup ks, _, _, x, r => by
    cases x with
    | tup hs hk =>
      cases r
      obtain ⟨its, rv, ⟨o, ho, hc, n, hd⟩, _⟩ := I.tuple hs.T
      obtain ⟨h1, h2⟩ := KAll.raw I hk rv
      exact ⟨.tup ho hc hd (by simpa using h1), .tuple ho hc hd (by simpa [NestedKey.data] using h2)⟩
theorem KAll.raw (I : Inv X pins σ H s) : ∀ {ks : List NestedKey} {vs : List V} {us : List Value}, KAll H ks vs → Vals vs us → NestedAll s.heap ks us ∧ ReadsAll s.heap us (NestedKey.datas ks) []
  | [], _, _, x, r => by
    cases x
    cases r
    exact ⟨.nil, .nil⟩
  | k :: ks, _, _, x, r => by
    cases x with
    | cons x1 x2 =>
      cases r with
      | cons r1 r2 =>
        obtain ⟨a1, a2⟩ := KIs.raw I x1 r1
        obtain ⟨b1, b2⟩ := KAll.raw I x2 r2
        exact ⟨.cons a1 b1, by simpa [NestedKey.datas] using ReadsAll.cons a2 b2⟩
end
end
/-! ### the set as a thing of the walk -/
structure SetN0 (P : Program) (w : World) (h : Heap) (a : Addr) (L : List (Addr × NestedKey)) : Prop where
  ex : ∃ (es : Array (Int × Value)) (ep : Nat) (t : SetTable), (∃ o, h.get? a = some o ∧ o.ExactSet ∧ o.data = .set es ep t) ∧ es.toList = rowsN P w L ∧ TabOk t (L.map fun p => nhash w p.2) ∧ (L.map (·.2)).Nodup ∧
    (w.params.followText "set-order" = true ∨ t.led = true) ∧ L.length * 5 < t.mask * 3 ∧ L.length < 64
def SetNO (P : Program) (w : World) (a : Addr) (L : List (Addr × NestedKey)) : HO := .ext fun h => SetN0 P w h a L
theorem SetN.n0 {P : Program} {w : World} {h : Heap} {a : Addr} {L : List (Addr × NestedKey)} {es : Array (Int × Value)} {ep : Nat} {t : SetTable} (R : SetN P w h a L es ep t) : SetN0 P w h a L :=
  ⟨es, ep, t, R.ob, R.rows, R.tab, R.nd, R.led, R.room, R.few⟩
theorem SetN0.full {P : Program} {w : World} {h : Heap} {a : Addr} {L : List (Addr × NestedKey)} (R : SetN0 P w h a L) (ht : ∀ p ∈ L, Nk h p.2 p.1) : ∃ es ep t, SetN P w h a L es ep t := by
  obtain ⟨es, ep, t, h1, h2, h3, h4, h6, h7, h8⟩ := R.ex
  exact ⟨es, ep, t, h1, h2, h3, h4, ht, h6, h7, h8⟩
theorem setNO_new {P : Program} {w : World} {H : Hp} {h : Heap} {a : Addr} {L : List (Addr × NestedKey)} (R : SetN0 P w h a L) : ObjOk P w H h a (SetNO P w a L) := by
  have ⟨es, ep, t, ⟨o, ho, r⟩, q⟩ := R.ex
  refine ⟨R, ⟨o, ho⟩, fun h1 h2 p k => ?_⟩
  have ⟨es', ep', t', ⟨o', ho', r'⟩, q'⟩ := SetN0.ex p
  exact ⟨es', ep', t', ⟨o', k o' ho', r'⟩, q'⟩
theorem refsN_of : ∀ {ks : List (Addr × NestedKey)} {us : List Value}, Vals (ks.map fun p => V.ref p.1) us → us = ks.map fun p => Value.ref p.1
  | [], _, .nil => rfl
  | p :: ks, _, .cons r t => by
    cases r
    rw [refsN_of t] <;> rfl
theorem of_refsN : ∀ ks : List (Addr × NestedKey), Vals (ks.map fun p => V.ref p.1) (ks.map fun p => Value.ref p.1)
  | [] => .nil
  | p :: ks => .cons rfl (of_refsN ks)
section
variable {X : Cx}
/-- set(xs): a list of such tuples, fewer than 64 -/
def rSetN (P : Program) (w : World) : List V → Hp → VK → Prop := fun xs H Q => ∃ (l : Addr) (ks : List (Addr × NestedKey)), xs = [V.ref l] ∧ LwB.Sq true H l (ks.map fun p => V.ref p.1) ∧ (∀ p ∈ ks, KIs H p.2 (.ref p.1) ∧ p.2.depth ≤ 7) ∧ ks.length < 64 ∧
  ∀ a L, H a = none → (∀ p ∈ L, p ∈ ks) → (∀ p ∈ ks, p.2 ∈ L.map (·.2)) → (L.map (·.2)).Nodup → Q (.ref a) (upd H a (SetNO P w a L))
theorem cr_setN (hc : X.calm = true) (hu : X.A.units + 64 < cLine) : CallR X (.type "set") (rSetN X.prog X.w) := by
  intro pins s σ H xs us Q I r h
  obtain ⟨l, ks, rfl, hl, kk, hf, q⟩ := h
  rw [Vals.ref1 r]
  obtain ⟨its, rv, pl, hz⟩ := I.list hl.L
  have hn : H s.heap.objs.size = none := I.hok.fresh (Nat.le_refl _)
  refine call_setN (P := X.prog) (w := X.w) ks (I.ok.hd hc) pl.isList (by simpa using refsN_of rv) (fun p hp => ⟨((kk p hp).1.raw I rfl).1, (kk p hp).2⟩) hf (by omega) fun h' tk L es ep t R g k => ?_
  refine ⟨.ref s.heap.objs.size, upd H s.heap.objs.size (SetNO X.prog X.w s.heap.objs.size L), I.laid (t' := tk) k (Nat.le_refl _) (setNO_new R.n0), rfl, q _ L hn (fun p hp => ?_) (fun p hp => ?_) R.nd⟩
  · exact List.mem_of_mem_take (g.sub p hp)
  · exact g.all p (by rw [List.take_length]; exact hp)
/-- sorted(S) -/
def rSortN (P : Program) (w : World) : List V → Hp → VK → Prop := fun vs H Q => ∃ (a : Addr) (L : List (Addr × NestedKey)), vs = [V.ref a] ∧ H a = some (SetNO P w a L) ∧ (∀ p ∈ L, KIs H p.2 (.ref p.1) ∧ p.2.depth ≤ 7) ∧
  (∀ M : List (Addr × NestedKey), (∀ q ∈ M, q ∈ L) → AllAlike (M.map fun q => q.2.data)) ∧ (∀ M : List (Addr × NestedKey), M.Perm L → Sortable (M.map fun q => q.2.data)) ∧
  ∀ (L' : List (Addr × NestedKey)) (p : Addr), L'.Perm L → (L'.map (·.2)).Nodup → L'.length < 64 → L'.Pairwise (fun q r => dataLe false (fun q : Addr × NestedKey => q.2.data) q r = true) → H p = none → Q (.ref p) (upd H p (.lst (L'.map fun q => V.ref q.1)))
theorem cr_sortN (hc : X.calm = true) (hu : X.A.units + 64 < cLine) : CallR X (.builtin "sorted") (rSortN X.prog X.w) := by
  intro pins s σ H vs us Q I r h
  obtain ⟨a, L, rfl, ha, kk, hal, hso, q⟩ := h
  have R0 : SetN0 X.prog X.w s.heap a L := (I.hok a _ ha).1
  obtain ⟨es, ep, t, R⟩ := R0.full fun p hp => ⟨((kk p hp).1.raw I rfl).1, (kk p hp).2⟩
  rw [Vals.ref1 r]
  refine sorted_setN R (I.ok.hd hc) (by omega) (fun p hp => ((kk p hp).1.raw I rfl).2) hal hso fun s' p out c L' k g o hp hg hout pm pw => ?_
  have hfew : L'.length < 64 := by rw [pm.length_eq]; exact R.few
  have hlen : (L'.map fun q => V.ref q.1).length ≤ sizeLine := by rw [List.length_map, sizeLine_eq]; omega
  have hn : H p = none := I.hok.fresh hp
  have hv : Vals (L'.map fun q => V.ref q.1) out.toList := by rw [hout]; exact of_refsN L'
  have J : Inv X pins σ (upd H p (.lst (L'.map fun q => V.ref q.1))) { s with heap := s'.heap, gens := s'.gens, drawn := s'.drawn, toks := s'.toks } :=
    I.call (ch := []) (Un.laid k hp hn) (I.hok.laid k hp ⟨hlen, out.toList, c, hv, hg⟩) (by rw [g]; exact I.bare) (fun _ z => nomatch z)
  have e : s' = { s with heap := s'.heap, gens := s'.gens, drawn := s'.drawn, toks := s'.toks } := by
    cases s'
    cases s
    cases o
    rfl
  rw [e]
  exact ⟨.ref p, _, J, rfl, q L' p pm ((pm.map (·.2)).nodup_iff.mpr R.nd) hfew pw hn⟩
end
end NsT
namespace LwB
open PySem PySem.Spec PyProof.Rows L2 IqX RvT EnS TL NsT
section
variable {X : Cx}
/-! ### against the empty one -/
def rEqE (K : PySem.W.Frag) : R2 := fun x y H Q => ∃ (b : Bool) (a c : Addr) (xs : List V), x = .ref a ∧ y = .ref c ∧ SqB K b H a xs ∧ SqB K b H c [] ∧ Q (.bl xs.isEmpty) H
def rNeE (K : PySem.W.Frag) : R2 := fun x y H Q => ∃ (b : Bool) (a c : Addr) (xs : List V), x = .ref a ∧ y = .ref c ∧ SqB K b H a xs ∧ SqB K b H c [] ∧ Q (.bl (!xs.isEmpty)) H
theorem vals_nil {us : List Value} (r : Vals [] us) : us = [] := by cases r; rfl
theorem empty_len {xs : List V} {us : List Value} (r : Vals xs us) : xs.isEmpty = us.isEmpty := by cases r <;> rfl
theorem op_eqE (hu : X.A.units + 64 < cLine) : OpR X (compareOp .Eq) (rEqE X.K) := by
  intro pins s σ H x y v u Q I rx ry h
  obtain ⟨b, a, c, xs, rfl, rfl, ha, hc, q⟩ := h
  cases (show v = Value.ref a from rx)
  cases (show u = Value.ref c from ry)
  cases b with
  | true =>
    obtain ⟨us, r1, p1, _⟩ := I.list ha.list
    obtain ⟨ws, r2, p2, _⟩ := I.list hc.list
    have e := vals_nil r2
    subst e
    cases r1 with
    | nil => exact SeqAt.RcAt.lists (e := fun _ => true) p1.isList p2.isList rfl (by omega) (fun j h1 _ => absurd h1 (Nat.not_lt_zero _)) _ _ _ _ ⟨.bl _, H, I, rfl, q⟩
    | cons r t => exact SeqAt.RcAt.lists_lengths p1.isList p2.isList rfl (by omega) _ _ _ _ ⟨.bl _, H, I, rfl, q⟩
  | false =>
    obtain ⟨us, r1, p1, _⟩ := I.tuple ha.tup
    obtain ⟨ws, r2, p2, _⟩ := I.tuple hc.tup
    have e := vals_nil r2
    subst e
    have key := SeqAt.RcAt.tuples (A := X.A) (e := fun _ => true) (show s.heap.IsTuple a us.toArray from p1) (show s.heap.IsTuple c ([] : List Value).toArray from p2) (by omega) (fun j _ h2 => absurd h2 (Nat.not_lt_zero _))
    cases r1 with
    | nil => exact key _ _ _ _ ⟨.bl _, H, I, rfl, q⟩
    | cons r t => exact key _ _ _ _ ⟨.bl _, H, I, rfl, q⟩
theorem op_neE (hu : X.A.units + 64 < cLine) : OpR X (compareOp .NotEq) (rNeE X.K) := by
  intro pins s σ H x y v u Q I rx ry h
  obtain ⟨b, a, c, xs, rfl, rfl, ha, hc, q⟩ := h
  cases (show v = Value.ref a from rx)
  cases (show u = Value.ref c from ry)
  cases b with
  | true =>
    obtain ⟨us, r1, p1, _⟩ := I.list ha.list
    obtain ⟨ws, r2, p2, _⟩ := I.list hc.list
    have e := vals_nil r2
    subst e
    cases r1 with
    | nil => exact SeqAt.RcNeAt.lists (e := fun _ => true) p1.isList p2.isList rfl (by omega) (fun j h1 _ => absurd h1 (Nat.not_lt_zero _)) _ _ _ _ ⟨.bl _, H, I, rfl, q⟩
    | cons r t => exact SeqAt.RcNeAt.lists_lengths p1.isList p2.isList rfl (by omega) _ _ _ _ ⟨.bl _, H, I, rfl, q⟩
  | false =>
    obtain ⟨us, r1, p1, _⟩ := I.tuple ha.tup
    obtain ⟨ws, r2, p2, _⟩ := I.tuple hc.tup
    have e := vals_nil r2
    subst e
    have key := SeqAt.RcNeAt.tuples (A := X.A) (e := fun _ => true) (show s.heap.IsTuple a us.toArray from p1) (show s.heap.IsTuple c ([] : List Value).toArray from p2) (by omega) (fun j _ h2 => absurd h2 (Nat.not_lt_zero _))
    cases r1 with
    | nil => exact key _ _ _ _ ⟨.bl _, H, I, rfl, q⟩
    | cons r t => exact key _ _ _ _ ⟨.bl _, H, I, rfl, q⟩
/-! ### two tuples of texts, numbers and such tuples -/
def rEqK : R2 := fun x y H Q => ∃ (ks ls : List NestedKey) (a c : Addr), x = .ref a ∧ y = .ref c ∧ KIs H (.tup ks) (.ref a) ∧ KIs H (.tup ls) (.ref c) ∧ NestedKey.depthAll ks ≤ 60 ∧ Q (.bl (NestedKey.beqAll ks ls)) H
def rNeK : R2 := fun x y H Q => ∃ (ks ls : List NestedKey) (a c : Addr), x = .ref a ∧ y = .ref c ∧ KIs H (.tup ks) (.ref a) ∧ KIs H (.tup ls) (.ref c) ∧ NestedKey.depthAll ks ≤ 60 ∧ Q (.bl (!NestedKey.beqAll ks ls)) H
theorem op_eqK (hu : X.A.units + 64 < cLine) : OpR X (compareOp .Eq) rEqK := by
  intro pins s σ H x y v u Q I rx ry h
  obtain ⟨ks, ls, a, c, rfl, rfl, ha, hc, hd, q⟩ := h
  cases (show v = Value.ref a from rx)
  cases (show u = Value.ref c from ry)
  obtain ⟨n1, _⟩ := ha.raw I rfl
  obtain ⟨n2, _⟩ := hc.raw I rfl
  cases n1 with
  | @tup _ o vs n _ h1 h2 h3 h4 =>
    cases n2 with
    | @tup _ o' vs' n' _ k1 k2 k3 k4 =>
      have l1 : vs.size = ks.length := by simpa using NestedAll.length _ _ h4
      have l2 : vs'.size = ls.length := by simpa using NestedAll.length _ _ k4
      have key := SeqAt.RcAt.tuples (A := X.A) (e := keyEqAt ks ls) (show s.heap.IsTuple a vs from ⟨_, h1, h2, _, h3⟩) (show s.heap.IsTuple c vs' from ⟨_, k1, k2, _, k3⟩) (by omega) fun j j1 j2 => by
        have := eqAt_keys ks ls X.A.in1 s vs.toList vs'.toList h4 k4 (by show X.A.units + 1 + _ < cLine; omega) j (by simpa using j1) (by simpa using j2)
        simpa using this
      rw [l1, l2, beqAll_eq] at key
      exact key _ _ _ _ ⟨.bl _, H, I, rfl, q⟩
theorem op_neK (hu : X.A.units + 64 < cLine) : OpR X (compareOp .NotEq) rNeK := by
  intro pins s σ H x y v u Q I rx ry h
  obtain ⟨ks, ls, a, c, rfl, rfl, ha, hc, hd, q⟩ := h
  cases (show v = Value.ref a from rx)
  cases (show u = Value.ref c from ry)
  obtain ⟨n1, _⟩ := ha.raw I rfl
  obtain ⟨n2, _⟩ := hc.raw I rfl
  cases n1 with
  | @tup _ o vs n _ h1 h2 h3 h4 =>
    cases n2 with
    | @tup _ o' vs' n' _ k1 k2 k3 k4 =>
      have l1 : vs.size = ks.length := by simpa using NestedAll.length _ _ h4
      have l2 : vs'.size = ls.length := by simpa using NestedAll.length _ _ k4
      have key := SeqAt.RcNeAt.tuples (A := X.A) (e := keyEqAt ks ls) (show s.heap.IsTuple a vs from ⟨_, h1, h2, _, h3⟩) (show s.heap.IsTuple c vs' from ⟨_, k1, k2, _, k3⟩) (by omega) fun j j1 j2 => by
        have := eqAt_keys ks ls X.A.in1 s vs.toList vs'.toList h4 k4 (by show X.A.units + 1 + _ < cLine; omega) j (by simpa using j1) (by simpa using j2)
        simpa using this
      rw [l1, l2, beqAll_eq] at key
      exact key _ _ _ _ ⟨.bl _, H, I, rfl, q⟩
end
/-! ### rows of texts as keys -/
def rowK (w : List Str) : NestedKey := .tup (w.map NestedKey.text)
def pairK (w : List Str) : NestedKey := .tup [.num (w.length : Nat), rowK w]
theorem kall_texts {H : Hp} : ∀ w : List Str, KAll H (w.map NestedKey.text) (w.map V.str)
  | [] => .nil
  | z :: w => .cons (.text z) (kall_texts w)
theorem RowAt.key {H : Hp} {w : List Str} {v : V} (h : RowAt H w v) : KIs H (rowK w) v := by
  obtain ⟨p, rfl, hp, _⟩ := h
  exact .tup hp (kall_texts w)
theorem depth_texts : ∀ w : List Str, NestedKey.depthAll (w.map NestedKey.text) = 0
  | [] => rfl
  | z :: w => by
    show max 0 (NestedKey.depthAll (w.map NestedKey.text)) = 0
    rw [depth_texts w]
    rfl
theorem rowK_depth (w : List Str) : (rowK w).depth = 1 := by
  show NestedKey.depthAll (w.map NestedKey.text) + 1 = 1
  rw [depth_texts]
theorem pairK_depth (w : List Str) : (pairK w).depth = 2 := by
  show max 0 (max (rowK w).depth 0) + 1 = 2
  rw [rowK_depth]
  rfl
theorem beq_texts : ∀ u w : List Str, NestedKey.beqAll (u.map NestedKey.text) (w.map NestedKey.text) = decide (u = w)
  | [], [] => rfl
  | [], _ :: _ => rfl
  | _ :: _, [] => rfl
  | a :: u, b :: w => by
    show (decide (a = b) && NestedKey.beqAll (u.map NestedKey.text) (w.map NestedKey.text)) = _
    rw [beq_texts u w]
    simp
theorem text_inj : ∀ {u w : List Str}, u.map NestedKey.text = w.map NestedKey.text → u = w
  | [], [], _ => rfl
  | [], _ :: _, h => by cases h
  | _ :: _, [], h => by cases h
  | a :: u, b :: w, h => by
    injection h with h1 h2
    injection h1 with h1
    rw [h1, text_inj h2]
theorem rowK_inj {u w : List Str} (h : rowK u = rowK w) : u = w := by
  injection h with h
  exact text_inj h
theorem pairK_inj {u w : List Str} (h : pairK u = pairK w) : u = w := by
  injection h with h
  injection h with h1 h2
  injection h2 with h2 h3
  exact rowK_inj h2
/-! ### a comprehension that keeps what it finds -/
theorem paired_len {α β : Type} {F : α → β → Prop} {l : List α} {m : List β} (p : Paired F l m) : l.length = m.length := Paired.length p
theorem take_snoc {α : Type} {l : List α} {i : Nat} {z : α} (h : l[i]? = some z) : l.take (i + 1) = l.take i ++ [z] := by
  rw [List.take_succ, h]
  rfl
theorem fm_len {α β : Type} (f : α → Option β) (l : List α) : (l.filterMap f).length ≤ l.length := List.length_filterMap_le f l
theorem lc_mf {α β : Type} {K : PySem.W.Frag} {b : Bool} {a : Addr} {xs : List V} {g : TG} {tt : TT} {te : TE} {vs : List Nat} {σ : L2.St} {H1 : Hp} {D : Addr} {Qd : Hp → Prop} (as : List α) (out : α → Option β) (R : Hp → β → V → Prop)
    (nD : H1 D = none) (hx : Sq b H1 a xs) (hl : xs.length ≤ 1000000) (hlen : as.length = xs.length)
    (mono : ∀ H H' z v, Same H H' → R H z v → R H' z v) (put : ∀ H z v ys o, Same H1 H → H D = some (.lst ys) → R H z v → R (upd H D o) z v)
    (step : ∀ (i : Nat) z x H (C : V → Hp → Prop) (C0 : Hp → Prop), as[i]? = some z → xs[i]? = some x → Same H1 H → (∃ ys, H D = some (.lst ys)) → (∀ y H4 z', Same H H4 → out z = some z' → R H4 z' y → C y H4) → (∀ H3, Same H H3 → out z = none → C0 H3) →
      g x (wipe σ vs) H fun σ2 H2 => wipe σ2 vs = wipe σ vs ∧ tt σ2 H2 fun b H3 => if b = true then te σ2 H3 C else C0 H3)
    (hd : ∀ H ys, Same H1 H → H D = some (.lst ys) → Paired (R H) (as.filterMap out) ys → ys.length ≤ xs.length → Qd H) :
    ∃ W : Nat → Nat → Hp → Prop, (∃ m, W 0 m (upd H1 D (.lst []))) ∧ ∀ i m H, W i m H →
      ((if b = true then Itl K a else Itt K a).stop i H ∧ Qd H) ∨ ((if b = true then Itl K a else Itt K a).go i H ∧ ∃ Nx : Hp → Prop, (∀ H', Nx H' → ∃ m', m' < m ∧ W (i + 1) m' H') ∧ ∀ x H', (if b = true then Itl K a else Itt K a).yld i H x H' → g x (wipe σ vs) H' fun σ2 H2 => wipe σ2 vs = wipe σ vs ∧ tt σ2 H2 fun b H3 =>
        if b = true then te σ2 H3 fun y H4 => ∃ acc, H4 D = some (.lst acc) ∧ acc.length < sizeLine ∧ Nx (upd H4 D (.lst (acc ++ [y]))) else Nx H3) := by
  refine lc_seq (K := K) (b := b) (a := a) (xs := xs) (fun i H => Same H1 H ∧ ∃ ys, H D = some (.lst ys) ∧ Paired (R H) ((as.take i).filterMap out) ys) ⟨same_new nD, [], upd_same, .nil⟩ (fun i H _ hp => (hp.1.sq hx).B) ?_ ?_
  · rintro i x H hi ⟨sm, ys, eD, pr⟩
    have hix := (List.getElem?_eq_some_iff.mp hi).1
    obtain ⟨z, hz⟩ : ∃ z, as[i]? = some z := ⟨as[i]'(by omega), List.getElem?_eq_getElem (by omega)⟩
    refine step i z x H _ _ hz hi sm ⟨ys, eD⟩ (fun y H4 z' s4 ez r => ?_) (fun H3 s3 ez => ?_)
    · have e4 : H4 D = some (.lst ys) := s4 _ _ eD
      have sm4 := sm.trans s4
      have hyl : ys.length ≤ i := by
        have h1 := paired_len pr
        have h2 := fm_len out (as.take i)
        rw [List.length_take] at h2
        omega
      refine ⟨ys, e4, Nat.lt_of_le_of_lt hyl (Nat.lt_of_lt_of_le hix (Nat.le_trans hl (by decide))), Same.young sm4 nD, ys ++ [y], upd_same, ?_⟩
      rw [take_snoc hz, List.filterMap_append, List.filterMap_cons_some ez]
      exact paired_snoc (paired_imp pr fun b' v h => put H4 b' v ys _ sm4 e4 (mono H H4 b' v s4 h)) (put H4 z' y ys _ sm4 e4 r)
    · refine ⟨sm.trans s3, ys, s3 _ _ eD, ?_⟩
      rw [take_snoc hz, List.filterMap_append, List.filterMap_cons_none ez]
      show Paired (R H3) ((as.take i).filterMap out ++ []) ys
      rw [List.append_nil]
      exact paired_imp pr fun b' v h => mono H H3 b' v s3 h
  · rintro H ⟨sm, ys, eD, pr⟩
    rw [← hlen, List.take_length] at pr
    refine hd H ys sm eD pr ?_
    have h1 := paired_len pr
    have h2 := fm_len out as
    omega
end LwB
namespace LwB
open PySem PySem.Spec PyProof.Rows L2 IqX RvT EnS TL NsT
/-- a word, a tuple or a list of texts -/
def RowX (H : Hp) (w : List Str) (v : V) : Prop := ∃ t p, v = .ref p ∧ Sq t H p (w.map V.str) ∧ w.length ≤ 1000000
theorem RowAt.x {H : Hp} {w : List Str} {v : V} (h : RowAt H w v) : RowX H w v := by
  obtain ⟨p, e, hp, l⟩ := h
  exact ⟨false, p, e, hp, l⟩
theorem RowX.same {H H' : Hp} {w : List Str} {v : V} (s : Same H H') (h : RowX H w v) : RowX H' w v := by
  obtain ⟨t, p, e, hp, l⟩ := h
  exact ⟨t, p, e, s.sq hp, l⟩
/-- words in a tuple or a list -/
def BasX (t : Bool) (H : Hp) (a : Addr) (Ws : List (List Str)) : Prop := ∃ xs, Sq t H a xs ∧ xs.length ≤ 1000000 ∧ Paired (RowX H) Ws xs
def Bas (t : Bool) (H : Hp) (a : Addr) (Ws : List (List Str)) : Prop := ∃ xs, Sq t H a xs ∧ xs.length ≤ 1000000 ∧ Paired (RowAt H) Ws xs
theorem Bas.x {t : Bool} {H : Hp} {a : Addr} {Ws : List (List Str)} (h : Bas t H a Ws) : BasX t H a Ws := by
  obtain ⟨xs, hs, hl, p⟩ := h
  exact ⟨xs, hs, hl, paired_imp p fun _ _ z => z.x⟩
theorem BasX.same {t : Bool} {H H' : Hp} {a : Addr} {Ws : List (List Str)} (s : Same H H') (h : BasX t H a Ws) : BasX t H' a Ws := by
  obtain ⟨xs, hs, hl, p⟩ := h
  exact ⟨xs, s.sq hs, hl, paired_imp p fun _ _ z => z.same s⟩
theorem Bas.same {t : Bool} {H H' : Hp} {a : Addr} {Ws : List (List Str)} (s : Same H H') (h : Bas t H a Ws) : Bas t H' a Ws := by
  obtain ⟨xs, hs, hl, p⟩ := h
  exact ⟨xs, s.sq hs, hl, paired_imp p fun _ _ z => z.same s⟩
theorem Bas.len {t : Bool} {H : Hp} {a : Addr} {Ws : List (List Str)} (h : Bas t H a Ws) : Ws.length ≤ 1000000 := by
  obtain ⟨xs, hs, hl, p⟩ := h
  have := paired_len p
  omega
theorem paired_at {α β : Type} {F : α → β → Prop} : ∀ {l : List α} {m : List β} {i : Nat} {x : α}, Paired F l m → l[i]? = some x → ∃ y, m[i]? = some y ∧ F x y
  | _, _, _, _, .nil, h => by simp at h
  | _, _, 0, _, .cons r _, h => by
    simp at h
    subst h
    exact ⟨_, rfl, r⟩
  | _, _, i + 1, x, .cons _ t, h => by
    obtain ⟨y, e, r⟩ := paired_at (i := i) (x := x) t (by simpa using h)
    exact ⟨y, by simpa using e, r⟩
theorem paired_both {α β : Type} {F : α → β → Prop} {l : List α} {m : List β} {i : Nat} {x : α} {y : β} (p : Paired F l m) (h : l[i]? = some x) (h' : m[i]? = some y) : F x y := by
  obtain ⟨y', e, r⟩ := paired_at p h
  rw [h'] at e
  cases e
  exact r
/-! ### what the words' functions promise -/
/-- whether some word is a part of the log -/
def dn (Ws : List (List Str)) (es : List Str) : Bool := Ws.any fun w => isPart w es
theorem dn_nil (es : List Str) : dn [] es = false := rfl
theorem dn_cons (w : List Str) (Ws : List (List Str)) (es : List Str) : dn (w :: Ws) es = (isPart w es || dn Ws es) := rfl
def headT : List (List Str) → Tr
  | [] => .non
  | z :: _ => trs false z
theorem headT_none {p : List Str → Bool} {Ws : List (List Str)} (h : Ws.find? p = none) : headT (Ws.filter p) = .non := by
  rw [← List.head?_filter] at h
  cases e : Ws.filter p with
  | nil => rfl
  | cons z r =>
    rw [e] at h
    cases h
theorem headT_some {p : List Str → Bool} {Ws : List (List Str)} {z : List Str} (h : Ws.find? p = some z) : headT (Ws.filter p) = trs false z := by
  rw [← List.head?_filter] at h
  cases e : Ws.filter p with
  | nil =>
    rw [e] at h
    cases h
  | cons y r =>
    rw [e] at h
    cases h
    rfl
def spCopied : Sp := fun vs H Q _ => ∃ (t : Bool) (a : Addr) (Ws : List (List Str)), vs = [.ref a] ∧ BasX t H a Ws ∧ ∀ H' p, Same H H' → Bas false H' p Ws → Q (.ref p) H'
def spDoes : Sp := fun vs H Q _ => ∃ (t b : Bool) (a c : Addr) (Ws : List (List Str)) (es : List Str), vs = [.ref a, .ref c] ∧ BasX t H a Ws ∧ Sq b H c (es.map V.str) ∧ ∀ H', Same H H' → Q (.bl (dn Ws es)) H'
def spOutside : Sp := fun vs H Q _ => ∃ (t b : Bool) (a c : Addr) (Ws Us : List (List Str)), vs = [.ref a, .ref c] ∧ BasX t H a Ws ∧ BasX b H c Us ∧ ∀ H' v, Same H H' → Is H' 1 (headT (Ws.filter fun w => !dn Us w)) v → Q v H'
def spInside : Sp := fun vs H Q _ => ∃ (t b : Bool) (a c : Addr) (Ws Us : List (List Str)), vs = [.ref a, .ref c] ∧ BasX t H a Ws ∧ BasX b H c Us ∧ ∀ H', Same H H' → Q (.bl (Ws.filter fun w => !dn Us w).isEmpty) H'
def spMissing : Sp := fun vs H Q _ => ∃ (t b : Bool) (a c : Addr) (Ws Us : List (List Str)), vs = [.ref a, .ref c] ∧ BasX t H a Ws ∧ BasX b H c Us ∧ ∀ H' p, Same H H' → Bas false H' p (Us.filter fun w => !dn Ws w) → Q (.ref p) H'
/-! ### what the law's own promise -/
mutual
/-- a list for each tuple -/
def Tr.lists : Tr → Tr
  | .sq _ ts => .sq true (Tr.listsAll ts)
  | .non => .non
  | .bl b => .bl b
  | .int i => .int i
  | .str z => .str z
def Tr.listsAll : List Tr → List Tr
  | [] => []
  | t :: ts => t.lists :: Tr.listsAll ts
end
theorem Tr.listsAll_map : ∀ ts : List Tr, Tr.listsAll ts = ts.map Tr.lists
  | [] => rfl
  | t :: ts => by
    show t.lists :: Tr.listsAll ts = t.lists :: ts.map Tr.lists
    rw [Tr.listsAll_map ts]
/-- what is new in H' -/
def off (H H' : Hp) : Hp := fun a => if (H a).isSome = true then none else H' a
theorem off_le {H H' : Hp} {a : Addr} {o : HO} (h : off H H' a = some o) : H' a = some o := by
  unfold off at h
  split at h
  · cases h
  · exact h
theorem off_of {H H' : Hp} {a : Addr} {o : HO} (n : H a = none) (h : H' a = some o) : off H H' a = some o := by
  unfold off
  rw [n]
  exact h
theorem off_none {H H' : Hp} {a : Addr} {o : HO} (h : off H H' a = some o) : H a = none := by
  unfold off at h
  split at h
  · cases h
  · rename_i e
    cases q : H a with
    | none => rfl
    | some u =>
      rw [q] at e
      exact absurd rfl e
def spLists : Nat → Sp
  | 0 => fun _ _ _ _ => False
  | n + 1 => fun vs H Q _ => ∃ (v : V) (t : Tr), vs = [v] ∧ Is H n t v ∧ ∀ H' v', Same H H' → Is (off H H') n t.lists v' → Q v' H'
theorem spLists_len : ∀ {n : Nat} {vs : List V} {H : Hp} {Q : VK} {E : XK}, spLists n vs H Q E → vs.length = 1
  | 0, _, _, _, _, h => h.elim
  | n + 1, _, _, _, _, ⟨_, _, e, _⟩ => by rw [e]; rfl
/-- the order of words: by length, then as they stand -/
def wLe (u w : List Str) : Bool := PySem.W.dataLe false (fun w : List Str => (pairK w).data) u w
def SortedOf (Ws Us : List (List Str)) : Prop := (∀ w, w ∈ Us ↔ w ∈ Ws) ∧ Us.Nodup ∧ Us.Pairwise fun u w => wLe u w = true
def spSorted : Sp := fun vs H Q _ => ∃ (t : Bool) (a : Addr) (Ws : List (List Str)), vs = [.ref a] ∧ Bas t H a Ws ∧ Ws.length < 64 ∧ ∀ H' p Us, Same H H' → Bas false H' p Us → SortedOf Ws Us → Q (.ref p) H'
/-- those that have no other one as a part -/
def lst (Us : List (List Str)) : List (List Str) := Us.filter fun w => (Us.filter fun u => decide (u ≠ w) && isPart u w).isEmpty
def spLeast : Sp := fun vs H Q _ => ∃ (t : Bool) (a : Addr) (Ws : List (List Str)), vs = [.ref a] ∧ Bas t H a Ws ∧ Ws.length < 64 ∧ (∀ w ∈ Ws, w.length ≤ 1000) ∧ ∀ H' p Us, Same H H' → Bas false H' p (lst Us) → SortedOf Ws Us → Q (.ref p) H'
def spDone : Sp := fun vs H Q _ => ∃ (t b : Bool) (a c : Addr) (Ws : List (List Str)) (es : List Str), vs = [.ref a, .ref c] ∧ Bas t H a Ws ∧ Sq b H c (es.map V.str) ∧ (∀ w ∈ Ws, w.length ≤ 1000) ∧ ∀ H', Same H H' → Q (.bl (dn Ws es)) H'
structure Bs (mg : Str → Option Value) : Prop where
  set : mg "set" = none
  any : mg "any" = none
def PairAt (H : Hp) (w : List Str) (v : V) : Prop := ∃ p r, v = .ref p ∧ Sq false H p [.int (w.length : Nat), r] ∧ RowAt H w r
theorem PairAt.same {H H' : Hp} {w : List Str} {v : V} (s : Same H H') (h : PairAt H w v) : PairAt H' w v := by
  obtain ⟨p, r, e, hp, hr⟩ := h
  exact ⟨p, r, e, s.sq hp, hr.same s⟩
theorem PairAt.put {H : Hp} {D : Addr} {w : List Str} {v : V} {ys : List V} {o : HO} (h : PairAt H w v) (e : H D = some (.lst ys)) : PairAt (L2.upd H D o) w v := by
  obtain ⟨p, r, e', hp, hr⟩ := h
  exact ⟨p, r, e', Sq.put_list hp e, hr.put e⟩
theorem PairAt.key {H : Hp} {w : List Str} {v : V} (h : PairAt H w v) : KIs H (pairK w) v := by
  obtain ⟨p, r, rfl, hp, hr⟩ := h
  exact .tup hp (.cons (.num _) (.cons hr.key .nil))
theorem PairAt.ref {H : Hp} {w : List Str} {v : V} (h : PairAt H w v) : ∃ p, v = .ref p := by
  obtain ⟨p, r, e, _⟩ := h
  exact ⟨p, e⟩
theorem RowAt.ref {H : Hp} {w : List Str} {v : V} (h : RowAt H w v) : ∃ p, v = .ref p := by
  obtain ⟨p, e, _⟩ := h
  exact ⟨p, e⟩
/-- the addresses with their keys -/
theorem keyed {R : List Str → V → Prop} {key : List Str → NestedKey} (hr : ∀ w v, R w v → ∃ p, v = .ref p) : ∀ {Ws : List (List Str)} {ys : List V}, Paired R Ws ys →
    ∃ ks : List (Addr × NestedKey), ys = ks.map (fun p => V.ref p.1) ∧ ks.map (·.2) = Ws.map key ∧ ∀ q ∈ ks, ∃ w ∈ Ws, q.2 = key w ∧ R w (.ref q.1)
  | _, _, .nil => ⟨[], rfl, rfl, fun _ h => nomatch h⟩
  | w :: Ws, y :: ys, .cons r t => by
    obtain ⟨p, rfl⟩ := hr _ _ r
    obtain ⟨ks, e1, e2, e3⟩ := keyed hr t
    refine ⟨(p, key w) :: ks, by rw [e1]; rfl, by rw [List.map_cons, e2]; rfl, fun q hq => ?_⟩
    rcases List.mem_cons.mp hq with rfl | hq
    · exact ⟨w, List.mem_cons_self, rfl, r⟩
    · obtain ⟨u, hu, e⟩ := e3 q hq
      exact ⟨u, List.mem_cons_of_mem _ hu, e⟩
theorem unkeyed {R : List Str → V → Prop} {key : List Str → NestedKey} : ∀ {ks : List (Addr × NestedKey)}, (∀ q ∈ ks, ∃ w, q.2 = key w ∧ R w (.ref q.1)) →
    ∃ Us : List (List Str), ks.map (·.2) = Us.map key ∧ Paired R Us (ks.map fun p => V.ref p.1)
  | [], _ => ⟨[], rfl, .nil⟩
  | q :: ks, h => by
    obtain ⟨w, e, r⟩ := h q List.mem_cons_self
    obtain ⟨Us, e1, e2⟩ := unkeyed (ks := ks) fun x hx => h x (List.mem_cons_of_mem _ hx)
    exact ⟨w :: Us, by rw [List.map_cons, List.map_cons, e, e1], .cons r e2⟩
theorem alike_texts : ∀ u w : List Str, PySem.W.alikeAll (NestedKey.datas (u.map NestedKey.text)) (NestedKey.datas (w.map NestedKey.text)) = true
  | [], w => by cases w <;> simp [NestedKey.datas, PySem.W.alikeAll]
  | _ :: _, [] => by simp [NestedKey.datas, PySem.W.alikeAll]
  | a :: u, b :: w => by simp [NestedKey.datas, NestedKey.data, PySem.W.alikeAll, PySem.W.alike, alike_texts u w]
theorem alike_row (u w : List Str) : PySem.W.alike (rowK u).data (rowK w).data = true := by
  simp [rowK, NestedKey.data, PySem.W.alike, alike_texts u w]
theorem alike_pair (u w : List Str) : PySem.W.alike (pairK u).data (pairK w).data = true := by
  simp [pairK, NestedKey.data, NestedKey.datas, PySem.W.alike, PySem.W.alikeAll, alike_row u w]
theorem pair_data (w : List Str) : ∃ x r, (pairK w).data = .tuple (x :: r) := ⟨_, _, by simp [pairK, NestedKey.data, NestedKey.datas]; exact ⟨rfl, rfl⟩⟩
/-! ### the same where the walk is inside a comprehension: K by its name -/
theorem pi_seqK {X : Cx} (K : PySem.W.Frag) {tg l : Expr} {tl : TE} (hl : PE X l tl) (hK : X.K = K := by rfl) : PI X tg l (iSeq K tl) := hK ▸ pi_seq hl
theorem op_eqEK {X : Cx} (K : PySem.W.Frag) (hu : X.A.units + 64 < cLine) (hK : X.K = K := by rfl) : OpR X (compareOp .Eq) (rEqE K) := hK ▸ op_eqE hu
theorem op_neEK {X : Cx} (K : PySem.W.Frag) (hu : X.A.units + 64 < cLine) (hK : X.K = K := by rfl) : OpR X (compareOp .NotEq) (rNeE K) := hK ▸ op_neE hu
theorem fm_if {α : Type} (p : α → Bool) : ∀ l : List α, l.filterMap (fun x => if p x = true then some x else none) = l.filter p
  | [] => rfl
  | x :: l => by
    have ih := fm_if p l
    simp only [List.filterMap_cons, List.filter_cons]
    cases h : p x <;> simp [ih]
theorem paired_empty {α β : Type} {F : α → β → Prop} {l : List α} {m : List β} (p : Paired F l m) : m.isEmpty = l.isEmpty := by cases p <;> rfl
theorem RowAt.fr {b : Addr} {n : Nat} {H H' : Hp} {w : List Str} {v : V} (f : Fr b H H') (x : Bx n H b) (h : RowAt H w v) : RowAt H' w v := by
  obtain ⟨p, e, hp, l⟩ := h
  exact ⟨p, e, f.sq (hp.ne_box x) hp, l⟩
/-- words of up to so many of these names -/
def Gd (ss : List Str) (m : Nat) (w : List Str) : Prop := w.length ≤ m ∧ ∀ e ∈ w, e ∈ ss
def spSomeRows : Sp := fun vs H Q _ => ∃ (b l : Addr) (n k m : Nat) (ss : List Str), vs = [.ref b, .ref l, .int k, .int m] ∧ Bx n H b ∧ n < 700000000 ∧ l ≠ b ∧ Sq true H l (ss.map V.str) ∧ ss.length ≤ 1000000 ∧ 0 < ss.length ∧ m ≤ 1000 ∧ k ≤ 1000 ∧
  ∀ H' p ys Ws, Fr b H H' → Bx (n + 1 + k * (1 + m)) H' b → H p = none → H' p = some (.lst ys) → Paired (RowAt H') Ws ys → Ws.length ≤ k → (∀ w ∈ Ws, Gd ss m w) → Q (.ref p) H'
def spDrawn : Sp := fun vs H Q _ => ∃ (b l : Addr) (n k m : Nat) (ss : List Str), vs = [.ref b, .ref l, .int k, .int m] ∧ Bx n H b ∧ n < 600000000 ∧ l ≠ b ∧ Sq true H l (ss.map V.str) ∧ ss.length ≤ 1000000 ∧ 0 < ss.length ∧ m ≤ 1000 ∧ k ≤ 60 ∧
  ∀ H' p Ws Us, Fr b H H' → Bx (n + 1 + k * (1 + m) + k) H' b → Bas false H' p (lst Us) → p ≠ b → SortedOf Ws Us → Ws.length ≤ k → (∀ w ∈ Ws, Gd ss m w) → Q (.ref p) H'
theorem lst_sub {Ws Us : List (List Str)} (so : SortedOf Ws Us) {w : List Str} (h : w ∈ lst Us) : w ∈ Ws := (so.1 w).mp (List.mem_filter.mp h).1
theorem Bas.ne_box {n : Nat} {H : Hp} {p b : Addr} {Ws : List (List Str)} (h : Bas false H p Ws) (x : Bx n H b) : p ≠ b := by
  obtain ⟨xs, hs, _⟩ := h
  exact hs.ne_box x
theorem Bas.fr {b : Addr} {n : Nat} {t : Bool} {H H' : Hp} {a : Addr} {Ws : List (List Str)} (f : Fr b H H') (x : Bx n H b) (ne : a ≠ b) (h : Bas t H a Ws) : Bas t H' a Ws := by
  obtain ⟨xs, hs, hl, p⟩ := h
  exact ⟨xs, f.sq ne hs, hl, paired_imp p fun _ _ r => r.fr f x⟩
theorem nodup_sub_len {α : Type} [DecidableEq α] : ∀ {l m : List α}, l.Nodup → (∀ x ∈ l, x ∈ m) → l.length ≤ m.length
  | [], _, _, _ => Nat.zero_le _
  | x :: l, m, h, hs => by
    obtain ⟨h1, h2⟩ := List.nodup_cons.mp h
    have hx := hs x List.mem_cons_self
    have ih := nodup_sub_len (l := l) (m := m.erase x) h2 fun y hy => (List.mem_erase_of_ne (fun e : y = x => by rw [e] at hy; exact h1 hy)).mpr (hs y (List.mem_cons_of_mem _ hy))
    rw [List.length_erase_of_mem hx] at ih
    have : 0 < m.length := List.length_pos_of_mem hx
    rw [List.length_cons]
    omega
theorem sorted_len {Ws Us : List (List Str)} (so : SortedOf Ws Us) : Us.length ≤ Ws.length := nodup_sub_len so.2.1 fun w h => (so.1 w).mp h
theorem lst_len (Us : List (List Str)) : (lst Us).length ≤ Us.length := List.length_filter_le _ _
/-- words as lists of lists -/
def ltrows (Ws : List (List Str)) : Tr := .sq true (Ws.map (trs true))
theorem listsAll_strs : ∀ w : List Str, Tr.listsAll (w.map Tr.str) = w.map Tr.str
  | [] => rfl
  | z :: w => by
    show Tr.str z :: Tr.listsAll (w.map Tr.str) = _
    rw [listsAll_strs w]
    rfl
theorem trs_lists (t : Bool) (w : List Str) : (trs t w).lists = trs true w := by
  show Tr.sq true (Tr.listsAll (w.map Tr.str)) = _
  rw [listsAll_strs]
  rfl
theorem trows_lists (t : Bool) (Ws : List (List Str)) : (trows t Ws).lists = ltrows Ws := by
  show Tr.sq true (Tr.listsAll (Ws.map (trs false))) = _
  rw [Tr.listsAll_map, List.map_map]
  unfold ltrows
  congr 1
  refine List.map_congr_left fun w _ => ?_
  exact trs_lists false w
theorem Bas.is {H : Hp} {n : Nat} {a : Addr} {Ws : List (List Str)} (h : Bas false H a Ws) : Is H (n + 2) (trows false Ws) (.ref a) := by
  obtain ⟨xs, hs, hl, p⟩ := h
  exact Is.sq (.tup hs) hl (paired_map (paired_imp p fun _ _ z => z.is))
theorem rowx_of {H : Hp} {n : Nat} {w : List Str} {v : V} (h : Is H (n + 1) (trs true w) v) : RowX H w v := by
  obtain ⟨a, xs, e, hs, hl, p⟩ := Is.list (show Is H (n + 1) (.sq true (w.map Tr.str)) v from h)
  have q := paired_str p
  subst q
  rw [List.length_map] at hl
  exact ⟨true, a, e, .lst hs, hl⟩
theorem basx_of {H : Hp} {n : Nat} {Ws : List (List Str)} {v : V} (h : Is H (n + 2) (ltrows Ws) v) : ∃ a, v = .ref a ∧ BasX true H a Ws := by
  obtain ⟨a, xs, e, hs, hl, p⟩ := Is.list (show Is H (n + 2) (.sq true (Ws.map (trs true))) v from h)
  exact ⟨a, e, xs, .lst hs, hl, paired_imp (paired_unmap p) fun _ _ r => rowx_of r⟩
theorem paired_two {α β γ : Type} {F : α → β → Prop} {G : α → γ → Prop} {E : β → γ → Prop} : ∀ {l : List α} {m : List β} {n : List γ}, Paired F l m → Paired G l n → (∀ a b c, a ∈ l → F a b → G a c → E b c) → Paired E m n
  | _, _, _, .nil, .nil, _ => .nil
  | _, _, _, .cons r t, .cons r' t', h => .cons (h _ _ _ List.mem_cons_self r r') (paired_two t t' fun a b c m x y => h a b c (List.mem_cons_of_mem _ m) x y)
/-- two fresh lists of the same are equal -/
theorem eqV_lists {K : PySem.W.Frag} {H : Hp} : ∀ {n : Nat} {t : Tr} {v1 v2 : V}, Is H n t.lists v1 → Is H n t.lists v2 → EqV K H (n + 1) v1 v2 := by
  intro n
  induction n with
  | zero =>
    intro t v1 v2 h1 h2
    cases t with
    | non => exact .inl ⟨by rw [h1.non_eq, h2.non_eq], by rw [h1.non_eq]; rfl⟩
    | bl b => exact .inl ⟨by rw [h1.bl_eq, h2.bl_eq], by rw [h1.bl_eq]; rfl⟩
    | int i => exact .inl ⟨by rw [h1.int_eq, h2.int_eq], by rw [h1.int_eq]; rfl⟩
    | str z => exact .inl ⟨by rw [h1.str_eq, h2.str_eq], by rw [h1.str_eq]; rfl⟩
    | sq t ts => exact absurd h1 id
  | succ n ih =>
    intro t v1 v2 h1 h2
    cases t with
    | non => exact .inl ⟨by rw [h1.non_eq, h2.non_eq], by rw [h1.non_eq]; rfl⟩
    | bl b => exact .inl ⟨by rw [h1.bl_eq, h2.bl_eq], by rw [h1.bl_eq]; rfl⟩
    | int i => exact .inl ⟨by rw [h1.int_eq, h2.int_eq], by rw [h1.int_eq]; rfl⟩
    | str z => exact .inl ⟨by rw [h1.str_eq, h2.str_eq], by rw [h1.str_eq]; rfl⟩
    | sq t ts =>
      obtain ⟨a, xs, rfl, hs, hl, p⟩ := Is.list (show Is H (n + 1) (.sq true (Tr.listsAll ts)) v1 from h1)
      obtain ⟨b, ys, rfl, hs', hl', p'⟩ := Is.list (show Is H (n + 1) (.sq true (Tr.listsAll ts)) v2 from h2)
      rw [Tr.listsAll_map] at p p'
      exact .inr (.inr (.inl ⟨a, b, xs, ys, rfl, rfl, SqL.of hs, SqL.of hs', paired_two (paired_unmap p) (paired_unmap p') fun z x y _ hx hy => ih hx hy⟩))
theorem find_head {α : Type} (p : α → Bool) (l : List α) : l.find? p = (l.filter p).head? := (List.head?_filter (p := p) (l := l)).symm
theorem isNone_empty {α : Type} (l : List α) : l.head?.isNone = l.isEmpty := by cases l <;> rfl
def spPairR : Sp := fun vs H Q _ => ∃ (a c : Addr) (Ws Us : List (List Str)), vs = [.ref a, .ref c] ∧ Bas false H a Ws ∧ Bas false H c Us ∧ (∀ w ∈ Ws, w.length ≤ 1000) ∧ (∀ w ∈ Us, w.length ≤ 1000) ∧ ∀ H', Same H H' → Q (.bl true) H'
/-- G[0] if G != () else None -/
def tHead (k : Nat) : TE := fun σ H Q => ∃ (p : Addr) (G : List (List Str)), σ[k]? = some (some (.ref p)) ∧ Bas false H p G ∧ ∀ H' v, Same H H' → Is H' 1 (headT G) v → Q v H'
theorem isnil_empty (G : List (List Str)) : (decide (G = [])) = G.isEmpty := by cases G <;> simp
end LwB
namespace LwB
open PySem PySem.Spec PyProof.Rows L2 IqX RvT EnS TL NsT
/-! ### trees of any depth -/
mutual
def Tr.dep : Tr → Nat
  | .sq _ ts => Tr.depAll ts + 1
  | .non => 0
  | .bl _ => 0
  | .int _ => 0
  | .str _ => 0
def Tr.depAll : List Tr → Nat
  | [] => 0
  | t :: ts => max t.dep (Tr.depAll ts)
end
mutual
/-- no list in it -/
def Tr.nol : Tr → Bool
  | .sq t ts => !t && Tr.nolAll ts
  | .non => true
  | .bl _ => true
  | .int _ => true
  | .str _ => true
def Tr.nolAll : List Tr → Bool
  | [] => true
  | t :: ts => t.nol && Tr.nolAll ts
end
mutual
def Tr.beq : Tr → Tr → Bool
  | .non, .non => true
  | .bl a, .bl b => a == b
  | .int a, .int b => decide (a = b)
  | .str a, .str b => decide (a = b)
  | .sq a xs, .sq b ys => a == b && Tr.beqAll xs ys
  | _, _ => false
def Tr.beqAll : List Tr → List Tr → Bool
  | [], [] => true
  | x :: xs, y :: ys => Tr.beq x y && Tr.beqAll xs ys
  | _, _ => false
end
mutual
theorem Tr.eq_of : ∀ a b : Tr, Tr.beq a b = true → a = b
  | .non, b, h => by cases b <;> simp [Tr.beq] at h ⊢
  | .bl a, b, h => by cases b <;> simp [Tr.beq] at h ⊢; exact h
  | .int a, b, h => by cases b <;> simp [Tr.beq] at h ⊢; exact h
  | .str a, b, h => by cases b <;> simp [Tr.beq] at h ⊢; exact h
  | .sq a xs, b, h => by
    cases b with
    | sq b ys =>
      simp [Tr.beq] at h
      rw [h.1, Tr.eq_ofAll xs ys h.2]
    | _ => simp [Tr.beq] at h
theorem Tr.eq_ofAll : ∀ a b : List Tr, Tr.beqAll a b = true → a = b
  | [], b, h => by cases b <;> simp [Tr.beqAll] at h ⊢
  | x :: xs, b, h => by
    cases b with
    | nil => simp [Tr.beqAll] at h
    | cons y ys =>
      simp [Tr.beqAll] at h
      rw [Tr.eq_of x y h.1, Tr.eq_ofAll xs ys h.2]
end
def It (H : Hp) (t : Tr) (v : V) : Prop := ∃ n, Is H n t v
theorem paired_mem {α β : Type} {F G : α → β → Prop} : ∀ {l : List α} {m : List β}, Paired F l m → (∀ a b, a ∈ l → F a b → G a b) → Paired G l m
  | _, _, .nil, _ => .nil
  | _, _, .cons r t, f => .cons (f _ _ List.mem_cons_self r) (paired_mem t fun a b h => f a b (List.mem_cons_of_mem _ h))
theorem dep_mem : ∀ {ts : List Tr} {t : Tr}, t ∈ ts → t.dep ≤ Tr.depAll ts
  | x :: ts, t, h => by
    show t.dep ≤ max x.dep (Tr.depAll ts)
    rcases List.mem_cons.mp h with rfl | h
    · omega
    · have := dep_mem h
      omega
theorem nol_mem : ∀ {ts : List Tr} {t : Tr}, Tr.nolAll ts = true → t ∈ ts → t.nol = true
  | x :: ts, t, hn, h => by
    have hn' : (x.nol && Tr.nolAll ts) = true := hn
    rw [Bool.and_eq_true] at hn'
    rcases List.mem_cons.mp h with rfl | h
    · exact hn'.1
    · exact nol_mem hn'.2 h
theorem is_least {H : Hp} : ∀ {m : Nat} {t : Tr} {v : V} {n : Nat}, Is H m t v → t.dep ≤ n → Is H n t v := by
  intro m
  induction m with
  | zero =>
    intro t v n h hn
    cases t with
    | sq t ts => exact absurd h id
    | _ => exact h.mono (Nat.zero_le n)
  | succ m ih =>
    intro t v n h hn
    cases t with
    | sq t ts =>
      obtain ⟨a, xs, e, hs, hl, p⟩ := h
      have hd : Tr.depAll ts + 1 ≤ n := hn
      obtain ⟨k, rfl⟩ : ∃ k, n = k + 1 := ⟨n - 1, by omega⟩
      exact ⟨a, xs, e, hs, hl, paired_mem p fun x y hx r => ih r (Nat.le_trans (dep_mem hx) (by omega))⟩
    | non => rw [h.non_eq]; exact .non
    | bl b => rw [h.bl_eq]; exact .bl
    | int i => rw [h.int_eq]; exact .int
    | str z => rw [h.str_eq]; exact .str
theorem It.to {H : Hp} {t : Tr} {v : V} {n : Nat} (h : It H t v) (hn : t.dep ≤ n) : Is H n t v := by
  obtain ⟨m, h⟩ := h
  exact is_least h hn
theorem It.mv {H H' : Hp} {t : Tr} {v : V} (e : ∀ a o, H a = some o → H' a = some o) (h : It H t v) : It H' t v := by
  obtain ⟨n, h⟩ := h
  exact ⟨n, h.mv e⟩
theorem It.same {H H' : Hp} {t : Tr} {v : V} (s : Same H H') (h : It H t v) : It H' t v := h.mv s
theorem It.of {H : Hp} {n : Nat} {t : Tr} {v : V} (h : Is H n t v) : It H t v := ⟨n, h⟩
theorem It.sq {H : Hp} {t : Bool} {a : Addr} {ts : List Tr} {xs : List V} (h : Sx t H a xs) (hl : xs.length ≤ 1000000) (p : Paired (It H) ts xs) : It H (.sq t ts) (.ref a) :=
  ⟨Tr.depAll ts + 1, Is.sq h hl (paired_mem p fun x y hx r => r.to (dep_mem hx))⟩
theorem It.sq_inv {H : Hp} {t : Bool} {ts : List Tr} {v : V} (h : It H (.sq t ts) v) : ∃ a xs, v = .ref a ∧ Sx t H a xs ∧ xs.length ≤ 1000000 ∧ Paired (It H) ts xs := by
  obtain ⟨n, h⟩ := h
  obtain ⟨m, a, xs, _, e, hs, hl, p⟩ := h.sq_eq
  exact ⟨a, xs, e, hs, hl, paired_imp p fun _ _ r => ⟨m, r⟩⟩
/-! ### a view: the heap without some of its lists -/
structure Vw (W H : Hp) : Prop where
  sub : ∀ a o, W a = some o → H a = some o
  all : ∀ a o, H a = some o → W a = some o ∨ ∃ xs, o = .lst xs
theorem Vw.refl (H : Hp) : Vw H H := ⟨fun _ _ h => h, fun _ _ h => .inl h⟩
theorem Vw.off {W H : Hp} (x : Vw W H) {a : Addr} (h : H a = none) : W a = none := by
  cases e : W a with
  | none => rfl
  | some o =>
    rw [x.sub a o e] at h
    cases h
/-- what the view is where H has grown to H' -/
def vw (W H H' : Hp) : Hp := fun a => if (H a).isSome = true then W a else H' a
theorem vw_old {W H H' : Hp} {a : Addr} {o : HO} (h : H a = some o) : vw W H H' a = W a := by
  unfold vw
  rw [h]
  rfl
theorem vw_new {W H H' : Hp} {a : Addr} (h : H a = none) : vw W H H' a = H' a := by
  unfold vw
  rw [h]
  rfl
theorem dom_cases (H : Hp) (a : Addr) : H a = none ∨ ∃ o, H a = some o := by
  cases H a with
  | none => exact .inl rfl
  | some o => exact .inr ⟨o, rfl⟩
theorem vw_self {W H : Hp} (x : Vw W H) : vw W H H = W := funext fun a => by
  rcases dom_cases H a with h | ⟨o, h⟩
  · rw [vw_new h, h, x.off h]
  · rw [vw_old h]
theorem vw_two {W B H H' : Hp} (hd : ∀ a, H a = none → B a = none) (s : Same H H') : vw (vw W B H) H H' = vw W B H' := funext fun a => by
  rcases dom_cases H a with h | ⟨o, h⟩
  · rw [vw_new h, vw_new (hd a h)]
  · rw [vw_old h]
    rcases dom_cases B a with b | ⟨o', b⟩
    · rw [vw_new b, vw_new b, h, s a o h]
    · rw [vw_old b, vw_old b]
theorem vw_trans {W H H1 H2 : Hp} (s1 : Same H H1) (s2 : Same H1 H2) : vw (vw W H H1) H1 H2 = vw W H H2 := vw_two (fun a h => by
  rcases dom_cases H a with b | ⟨o, b⟩
  · exact b
  · rw [s1 a o b] at h
    cases h) s2
theorem vw_mono {W B H H' : Hp} (s : Same H H') : ∀ a o, vw W B H a = some o → vw W B H' a = some o := fun a o h => by
  rcases dom_cases B a with b | ⟨u, b⟩
  · rw [vw_new b] at h ⊢
    exact s a o h
  · rw [vw_old b] at h ⊢
    exact h
theorem vw_keep {W H H' : Hp} (x : Vw W H) : ∀ a o, W a = some o → vw W H H' a = some o := fun a o h => by
  rw [vw_old (x.sub a o h)]
  exact h
theorem Vw.next {W H H' : Hp} (x : Vw W H) (s : Same H H') : Vw (vw W H H') H' := by
  refine ⟨fun a o h => ?_, fun a o h => ?_⟩
  · rcases dom_cases H a with b | ⟨u, b⟩
    · rw [vw_new b] at h
      exact h
    · rw [vw_old b] at h
      exact s a o (x.sub a o h)
  · rcases dom_cases H a with b | ⟨u, b⟩
    · rw [vw_new b]
      exact .inl h
    · rw [vw_old b]
      have e := s a u b
      rw [h] at e
      cases e
      exact x.all a o b
/-- without one list more -/
def rm (W : Hp) (g : Addr) : Hp := fun a => if a = g then none else W a
theorem rm_sub {W : Hp} {g a : Addr} {o : HO} (h : rm W g a = some o) : W a = some o := by
  unfold rm at h
  split at h
  · cases h
  · exact h
theorem rm_ne {W : Hp} {g a : Addr} (h : a ≠ g) : rm W g a = W a := by
  unfold rm
  rw [if_neg h]
theorem Vw.rm {W H : Hp} (x : Vw W H) {g : Addr} {xs : List V} (h : H g = some (.lst xs)) : Vw (rm W g) H := by
  refine ⟨fun a o e => x.sub a o (rm_sub e), fun a o e => ?_⟩
  by_cases hg : a = g
  · subst hg
    rw [h] at e
    cases e
    exact .inr ⟨xs, rfl⟩
  · rw [rm_ne hg]
    exact x.all a o e
theorem is_nol {W H : Hp} (x : Vw W H) : ∀ {n : Nat} {t : Tr} {v : V}, t.nol = true → Is H n t v → Is W n t v := by
  intro n
  induction n with
  | zero =>
    intro t v ht h
    cases t <;> exact h
  | succ n ih =>
    intro t v ht h
    cases t with
    | sq t ts =>
      obtain ⟨a, xs, e, hs, hl, p⟩ := h
      have ht' : (!t && Tr.nolAll ts) = true := ht
      rw [Bool.and_eq_true] at ht'
      cases t with
      | true => exact absurd ht'.1 (by decide)
      | false =>
        refine ⟨a, xs, e, ⟨?_, fun e => nomatch e⟩, hl, paired_mem p fun y z hy r => ih (nol_mem ht'.2 hy) r⟩
        rcases hs.1 with h1 | ⟨o, h1⟩
        · rcases x.all a _ h1 with h2 | ⟨ys, h2⟩
          · exact .inl h2
          · cases h2
        · rcases x.all a _ h1 with h2 | ⟨ys, h2⟩
          · exact .inr ⟨o, h2⟩
          · cases h2
    | _ => exact h
theorem It.nol {W H : Hp} (x : Vw W H) {t : Tr} {v : V} (ht : t.nol = true) (h : It H t v) : It W t v := by
  obtain ⟨n, h⟩ := h
  exact ⟨n, is_nol x ht h⟩
/-! ### what the names stand for -/
def Ev (N : Nat) (env : List (Nat × Tr)) (σ : L2.St) (W : Hp) : Prop := σ.length = N ∧ ∀ p ∈ env, ∃ v, σ[p.1]? = some (some v) ∧ It W p.2 v
theorem Ev.mv {N : Nat} {env : List (Nat × Tr)} {σ : L2.St} {W W' : Hp} (e : ∀ a o, W a = some o → W' a = some o) (h : Ev N env σ W) : Ev N env σ W' :=
  ⟨h.1, fun p hp => by
    obtain ⟨v, e1, i⟩ := h.2 p hp
    exact ⟨v, e1, i.mv e⟩⟩
theorem Ev.sub {N : Nat} {env env' : List (Nat × Tr)} {σ : L2.St} {W : Hp} (h : Ev N env σ W) (hs : ∀ p ∈ env', p ∈ env) : Ev N env' σ W := ⟨h.1, fun p hp => h.2 p (hs p hp)⟩
theorem Ev.set {N : Nat} {env : List (Nat × Tr)} {σ : L2.St} {W : Hp} {i : Nat} {T : Tr} {v : V} (h : Ev N env σ W) (hi : i < N) (hne : ∀ p ∈ env, p.1 ≠ i) (x : It W T v) : Ev N ((i, T) :: env) (σ.set i (some v)) W := by
  refine ⟨by rw [List.length_set]; exact h.1, fun p hp => ?_⟩
  rcases List.mem_cons.mp hp with rfl | hp
  · exact ⟨v, by rw [List.getElem?_set_self (by rw [h.1]; exact hi)], x⟩
  · obtain ⟨u, e1, iu⟩ := h.2 p hp
    exact ⟨u, by rw [List.getElem?_set_ne fun e => hne p hp e.symm]; exact e1, iu⟩
/-- a name is set to what is not looked at as a tree -/
theorem Ev.put {N : Nat} {env : List (Nat × Tr)} {σ : L2.St} {W : Hp} {i : Nat} {v : Option V} (h : Ev N env σ W) (hne : ∀ p ∈ env, p.1 ≠ i) : Ev N env (σ.set i v) W := by
  refine ⟨by rw [List.length_set]; exact h.1, fun p hp => ?_⟩
  obtain ⟨u, e1, iu⟩ := h.2 p hp
  exact ⟨u, by rw [List.getElem?_set_ne fun e => hne p hp e.symm]; exact e1, iu⟩
/-! ### expressions that are trees -/
def tLe (N : Nat) (env : List (Nat × Tr)) (T : Tr) : TE := fun σ H Q => ∃ W, Vw W H ∧ Ev N env σ W ∧ ∀ H' v, Same H H' → It (vw W H H') T v → Q v H'
def tLes (N : Nat) (env : List (Nat × Tr)) (Ts : List Tr) : TA := fun σ H Q => ∃ W, Vw W H ∧ Ev N env σ W ∧ ∀ H' vs, Same H H' → Paired (It (vw W H H')) Ts vs → Q vs H'
/-- a new list -/
def tLf (N : Nat) (env : List (Nat × Tr)) (ts : List Tr) : TE := fun σ H Q => ∃ W, Vw W H ∧ Ev N env σ W ∧ ∀ H' g vs, Same H H' → H g = none → H' g = some (.lst vs) → vs.length ≤ 1000000 → Paired (It (rm (vw W H H') g)) ts vs → Q (.ref g) H'
/-- over one of many trees -/
def tFam (N : Nat) (k : Nat) (env : List (Nat × Tr)) (Pr : Tr → Prop) (F : Tr → Tr) : TE := fun σ H Q => ∃ W T, Pr T ∧ Vw W H ∧ Ev N ((k, T) :: env) σ W ∧ ∀ H' v, Same H H' → It (vw W H H') (F T) v → Q v H'
section
variable {X : Cx} {N : Nat} {env : List (Nat × Tr)}
theorem le_lit {e : Expr} {v : V} {T : Tr} (h : PE X e (tC v)) (i : ∀ H, It H T v) : PE X e (tLe N env T) := PE.imp h fun σ H Q ⟨W, x, ev, q⟩ => q H v (Same.refl H) (i _)
theorem le_str {x : Str} {j pos} : PE X (.Constant (.str x) j pos) (tLe N env (.str x)) := le_lit pe_str fun _ => ⟨0, .str⟩
theorem le_int {i : Int} {j pos} : PE X (.Constant (.int i) j pos) (tLe N env (.int i)) := le_lit pe_int fun _ => ⟨0, .int⟩
theorem le_bl {b : Bool} {j pos} : PE X (.Constant (.bool b) j pos) (tLe N env (.bl b)) := le_lit pe_bl fun _ => ⟨0, .bl⟩
theorem le_non {j pos} : PE X (.Constant .none j pos) (tLe N env .non) := le_lit pe_non fun _ => ⟨0, .non⟩
theorem le_var {e : Expr} {i : Nat} {T : Tr} (h : PE X e (tVar i)) (hm : (i, T) ∈ env) : PE X e (tLe N env T) := PE.imp h fun σ H Q ⟨W, x, ev, q⟩ => by
  obtain ⟨v, e1, it⟩ := ev.2 _ hm
  exact ⟨v, e1, q H v (Same.refl H) (by rw [vw_self x]; exact it)⟩
theorem le_eq {e : Expr} {T T' : Tr} (h : PE X e (tLe N env T)) (hT : T = T') : PE X e (tLe N env T') := hT ▸ h
theorem les_nil : PA X [] (tLes N env []) := PA.imp pa_nil fun σ H Q ⟨W, x, ev, q⟩ => q H _ (Same.refl H) .nil
theorem les_cons {e : Expr} {es : List Expr} {T : Tr} {Ts : List Tr} (he : PE X e (tLe N env T)) (hr : PA X es (tLes N env Ts)) (hs : starEach (e :: es) X.env = (false, eval e X.env) :: starEach es X.env := by rfl) : PA X (e :: es) (tLes N env (T :: Ts)) :=
  PA.imp (pa_cons (hs := hs) he hr) fun σ H Q ⟨W, x, ev, q⟩ => ⟨W, x, ev, fun H1 v s1 i1 => ⟨vw W H H1, x.next s1, ev.mv (vw_keep x), fun H2 vs s2 i2 => by
    rw [vw_trans s1 s2] at i2
    exact q H2 _ (s1.trans s2) (.cons (i1.mv (vw_mono s2)) i2)⟩⟩
theorem lek_nil : PK X [] (tLes N env []) := ⟨fun pos pins s σ H Q I ⟨W, x, ev, q⟩ => pk_nil.run pos pins s σ H Q I (q H _ (Same.refl H) .nil)⟩
theorem lek_cons {e : Expr} {kpos : Pos} {kws : List Keyword} {T : Tr} {Ts : List Tr} (he : PE X e (tLe N env T)) (hr : PK X kws (tLes N env Ts)) {nm : Str} : PK X (⟨nm, e, kpos⟩ :: kws) (tLes N env (T :: Ts)) := by
  refine ⟨fun pos pins s σ H Q I ⟨W, x, ev, q⟩ => (pk_cons he hr).run pos pins s σ H Q I ?_⟩
  exact ⟨W, x, ev, fun H1 v s1 i1 => ⟨vw W H H1, x.next s1, ev.mv (vw_keep x), fun H2 vs s2 i2 => by
    rw [vw_trans s1 s2] at i2
    exact q H2 _ (s1.trans s2) (.cons (i1.mv (vw_mono s2)) i2)⟩⟩
theorem le_of {e : Expr} {ts : List Tr} (h : PE X e (tLf N env ts)) : PE X e (tLe N env (.sq true ts)) := PE.imp h fun σ H Q ⟨W, x, ev, q⟩ => ⟨W, x, ev, fun H' g vs s ng eg hl p => by
  have e1 : vw W H H' g = some (.lst vs) := by rw [vw_new ng]; exact eg
  exact q H' _ s (It.sq (.lst e1) hl (paired_imp p fun _ _ r => r.mv fun a o e => rm_sub e))⟩
theorem lf_lst {es : List Expr} {Ts : List Tr} {pos} (h : PA X es (tLes N env Ts)) (hl : Ts.length ≤ 1000000 := by first | decide | exact Nat.le_of_ble_eq_true rfl) : PE X (.List es pos) (tLf N env Ts) :=
  PE.imp (pe_lst h) fun σ H Q ⟨W, x, ev, q⟩ => ⟨W, x, ev, fun H1 vs s1 i1 => by
    have hlen : vs.length ≤ 1000000 := by rw [← Paired.length i1]; exact hl
    refine ⟨Nat.le_trans hlen (by decide), fun p np => ?_⟩
    refine q _ p vs (s1.trans (same_new np)) (s1.free np) upd_same hlen (paired_imp i1 fun _ _ r => r.mv fun a o e => ?_)
    have hap : a ≠ p := by
      rintro rfl
      rw [(x.next s1).sub _ _ e] at np
      cases np
    rw [rm_ne hap]
    exact vw_mono (same_new np) a o e⟩
theorem le_lst {es : List Expr} {Ts : List Tr} {pos} (h : PA X es (tLes N env Ts)) (hl : Ts.length ≤ 1000000 := by first | decide | exact Nat.le_of_ble_eq_true rfl) : PE X (.List es pos) (tLe N env (.sq true Ts)) := le_of (lf_lst h hl)
theorem le_tup {es : List Expr} {Ts : List Tr} {x1 pos} (h : PA X es (tLes N env Ts)) (hl : Ts.length ≤ 1000000 := by first | decide | exact Nat.le_of_ble_eq_true rfl) : PE X (.Tuple es x1 pos) (tLe N env (.sq false Ts)) :=
  PE.imp (pe_tup h) fun σ H Q ⟨W, x, ev, q⟩ => ⟨W, x, ev, fun H1 vs s1 i1 => by
    have hlen : vs.length ≤ 1000000 := by rw [← Paired.length i1]; exact hl
    refine ⟨Nat.le_trans hlen (by decide), fun p np => q _ _ (s1.trans (same_new np)) (It.sq (.tup (.tup ?_)) hlen (paired_imp i1 fun _ _ r => r.mv (vw_mono (same_new np))))⟩
    rw [vw_new (s1.free np)]
    exact upd_same⟩
/-- xs + ys, two lists -/
theorem lf_cat {e1 e2 : Expr} {Ts Us : List Tr} {pos : Pos} (h1 : PE X e1 (tLe N env (.sq true Ts))) (h2 : PE X e2 (tLe N env (.sq true Us))) (hl : Ts.length + Us.length ≤ 1000000 := by first | decide | exact Nat.le_of_ble_eq_true rfl) : PE X (.BinOp e1 .Add e2 pos) (tLf N env (Ts ++ Us)) :=
  PE.imp (pe_op op_cat h1 h2) fun σ H Q ⟨W, x, ev, q⟩ => ⟨W, x, ev, fun H1 v s1 i1 => ⟨vw W H H1, x.next s1, ev.mv (vw_keep x), fun H2 u s2 i2 => by
    rw [vw_trans s1 s2] at i2
    have i1' := i1.mv (vw_mono s2)
    have xn := x.next (s1.trans s2)
    obtain ⟨a, xs, rfl, ha, la, pa⟩ := i1'.sq_inv
    obtain ⟨b, ys, rfl, hb, lb, pb⟩ := i2.sq_inv
    have n1 := paired_len pa
    have n2 := paired_len pb
    refine ⟨a, b, xs, ys, rfl, rfl, xn.sub _ _ (ha.2 rfl), xn.sub _ _ (hb.2 rfl), Nat.le_trans (by omega : xs.length + ys.length ≤ 1000000) (by decide), fun p np => ?_⟩
    refine q _ p (xs ++ ys) ((s1.trans s2).trans (same_new np)) ((s1.trans s2).free np) upd_same (by rw [List.length_append]; omega) (paired_imp (paired_append pa pb) fun _ _ r => r.mv fun c o e => ?_)
    have hap : c ≠ p := by
      rintro rfl
      rw [xn.sub _ _ e] at np
      cases np
    rw [rm_ne hap]
    exact vw_mono (same_new np) c o e⟩⟩
theorem le_cat {e1 e2 : Expr} {Ts Us : List Tr} {pos : Pos} (h1 : PE X e1 (tLe N env (.sq true Ts))) (h2 : PE X e2 (tLe N env (.sq true Us))) (hl : Ts.length + Us.length ≤ 1000000 := by first | decide | exact Nat.le_of_ble_eq_true rfl) : PE X (.BinOp e1 .Add e2 pos) (tLe N env (.sq true (Ts ++ Us))) := le_of (lf_cat h1 h2 hl)
/-- xs * k, a list -/
theorem lf_rep {e1 : Expr} {Ts : List Tr} {k : Int} {j pos pos'} (h1 : PE X e1 (tLe N env (.sq true Ts))) (hk : 0 ≤ k ∧ k ≤ 1000 := by decide) (hl : Ts.length ≤ 1000 := by first | decide | exact Nat.le_of_ble_eq_true rfl) : PE X (.BinOp e1 .Mult (.Constant (.int k) j pos') pos) (tLf N env (List.replicate k.toNat Ts).flatten) :=
  PE.imp (pe_op op_rep h1 pe_int) fun σ H Q ⟨W, x, ev, q⟩ => ⟨W, x, ev, fun H1 v s1 i1 => by
    obtain ⟨a, xs, rfl, ha, la, pa⟩ := i1.sq_inv
    have n1 := paired_len pa
    have hmul : xs.length * k.toNat ≤ 1000000 := Nat.le_trans (Nat.mul_le_mul (by omega : xs.length ≤ 1000) (by omega : k.toNat ≤ 1000)) (by decide)
    refine ⟨a, k, xs, rfl, rfl, (x.next s1).sub _ _ (ha.2 rfl), by omega, by omega, Nat.le_trans hmul (by decide), fun p np => ?_⟩
    have pr : ∀ n : Nat, Paired (It (vw W H H1)) (List.replicate n Ts).flatten (List.replicate n xs).flatten := fun n => by
      induction n with
      | zero => exact .nil
      | succ n ih =>
        rw [List.replicate_succ, List.replicate_succ, List.flatten_cons, List.flatten_cons]
        exact paired_append pa ih
    refine q _ p _ (s1.trans (same_new np)) (s1.free np) upd_same ?_ (paired_imp (pr k.toNat) fun _ _ r => r.mv fun c o e => ?_)
    · rw [List.length_flatten, List.map_replicate, List.sum_replicate_nat, Nat.mul_comm]
      exact hmul
    · have hap : c ≠ p := by
        rintro rfl
        rw [(x.next s1).sub _ _ e] at np
        cases np
      rw [rm_ne hap]
      exact vw_mono (same_new np) c o e⟩
theorem le_rep {e1 : Expr} {Ts : List Tr} {k : Int} {j pos pos'} (h1 : PE X e1 (tLe N env (.sq true Ts))) (hk : 0 ≤ k ∧ k ≤ 1000 := by decide) (hl : Ts.length ≤ 1000 := by first | decide | exact Nat.le_of_ble_eq_true rfl) : PE X (.BinOp e1 .Mult (.Constant (.int k) j pos') pos) (tLe N env (.sq true (List.replicate k.toNat Ts).flatten)) := le_of (lf_rep h1 hk hl)
/-- xs[k] -/
theorem le_ix {e : Expr} {t : Bool} {ts : List Tr} {T : Tr} {k : Nat} {j p pos} (he : PE X e (tLe N env (.sq t ts))) (hk : ts[k]? = some T) (hp : PlainIx (.Constant (.int (k : Nat)) j p)) : PE X (.Subscript e (.Constant (.int (k : Nat)) j p) pos) (tLe N env T) :=
  PE.imp (pe_ix ix_sq he pe_int hp) fun σ H Q ⟨W, x, ev, q⟩ => ⟨W, x, ev, fun H1 v s1 i1 => by
    obtain ⟨a, xs, rfl, ha, la, pa⟩ := i1.sq_inv
    obtain ⟨y, ey, r⟩ := paired_at pa hk
    have hq : Sq t H1 a xs := ha.1.mv fun o e => (x.next s1).sub a o e
    exact ⟨t, a, xs, k, y, rfl, rfl, hq, atI_nat ey, q H1 y s1 r⟩⟩
theorem le_fam {e : Expr} {k : Nat} {Pr : Tr → Prop} {F : Tr → Tr} (h : ∀ T, Pr T → PE X e (tLe N ((k, T) :: env) (F T))) : PE X e (tFam N k env Pr F) :=
  ⟨fun pins s σ H Q I ⟨W, T, p, x, ev, q⟩ => (h T p).run pins s σ H Q I ⟨W, x, ev, q⟩⟩
/-- f(..): what comes is a tree without lists -/
theorem le_c {x : Str} {ps : List Str} {k : Nat} {sp : Sp} {e : Expr} {es : List Expr} {Ts : List Tr} {R : Tr} {p pos : Pos} (O : Ok X.prog X.w X.K X.mg X.base k x ps sp) (hr : Room k X.A) (ha : PA X (e :: es) (tLes N env Ts)) (hR : R.nol = true)
    (hsp : ∀ H vs (Q : VK), Paired (It H) Ts vs → (∀ H' v, Same H H' → It H' R v → Q v H') → sp vs H Q E0) (hg : Gl X x := by rfl)
    (hdb : (x == ("__debug__" : Str)) = false := by decide) (he : starEach (e :: es) X.env = (false, eval e X.env) :: starEach es X.env := by rfl) (hpl : (backTo pos (starEach es X.env)).any (·.1) = false := by rfl) :
    PE X (.Call (.Name x p) (e :: es) [] pos) (tLe N env R) :=
  PE.imp (pe_c O hr ha hg hdb he hpl) fun σ H Q ⟨W, x, ev, q⟩ => ⟨W, x, ev, fun H1 vs s1 i1 => by
    show sp (vs ++ []) H1 Q E0
    rw [List.append_nil]
    have xn := x.next s1
    refine hsp H1 vs Q (paired_imp i1 fun _ _ r => r.mv xn.sub) fun H' v s i => q H' v (s1.trans s) ?_
    rw [← vw_trans s1 s]
    exact i.nol (xn.next s) hR⟩
/-- [.. for x in xs] -/
theorem lf_core {K : PySem.W.Frag} {k : Nat} {t : Bool} {ts : List Tr} {Pr : Tr → Prop} {F : Tr → Tr} (hk : k < N) (hne : ∀ p ∈ env, p.1 ≠ k) (hP : ∀ T ∈ ts, Pr T) {σ : L2.St} {H : Hp} {Q : VK} (h : tLf N env (ts.map F) σ H Q) :
    tLc (iSeq K (tLe N env (.sq t ts))) (gName k) tYes (tFam N k env Pr F) [k] σ H Q := by
  obtain ⟨W, x, ev, q⟩ := h
  refine ⟨W, x, ev, fun H1 v s1 i1 => ?_⟩
  obtain ⟨a, xs, rfl, ha, la, pa⟩ := i1.sq_inv
  have xn := x.next s1
  have evn : Ev N env σ (vw W H H1) := ev.mv (vw_keep x)
  have hq : Sq t H1 a xs := ha.1.mv fun o e => xn.sub a o e
  refine ⟨t, a, rfl, ⟨xs, hq.B⟩, fun D nD => ?_⟩
  have domB : ∀ {H2 : Hp}, Same H1 H2 → (∃ ys, H2 D = some (.lst ys)) → ∀ b, H2 b = none → upd H1 D (.lst []) b = none := fun {H2} sm ⟨ys, eD⟩ b hb => by
    by_cases hbD : b = D
    · subst hbD
      rw [eD] at hb
      cases hb
    · rw [upd_ne hbD]
      exact sm.free hb
  have WD : vw W H H1 D = none := xn.off nD
  refine lc_mf (K := K) ts (fun T => some (F T)) (fun H' z v => It (vw (vw W H H1) (upd H1 D (.lst [])) H') z v) nD hq la (paired_len pa) ?_ ?_ ?_ ?_
  · exact fun Ha Hb z v' s r => r.mv (vw_mono s)
  · intro Ha z v' ys o sm e r
    refine r.mv fun b o' e' => ?_
    rcases dom_cases (upd H1 D (.lst [])) b with hb | ⟨u, hb⟩
    · rw [vw_new hb] at e' ⊢
      rw [upd_ne]
      · exact e'
      · rintro rfl
        rw [upd_same] at hb
        cases hb
    · rw [vw_old hb] at e' ⊢
      exact e'
  · intro i T z H2 C C0 hT hz sm eD yes no
    have iz := paired_both pa hT hz
    refine ⟨?_, ?_⟩
    · show ((wipe σ [k]).set k (some z)).set k none = wipe σ [k]
      show ((σ.set k none).set k (some z)).set k none = σ.set k none
      rw [List.set_set, List.set_set]
    · have hmono : ∀ b o, vw W H H1 b = some o → vw (vw W H H1) (upd H1 D (.lst [])) H2 b = some o := fun b o e => by
        have h1 := xn.sub b o e
        have hbD : b ≠ D := by
          rintro rfl
          rw [nD] at h1
          cases h1
        rw [vw_old (o := o) (by rw [upd_ne hbD]; exact h1)]
        exact e
      have V2 : Vw (vw (vw W H H1) (upd H1 D (.lst [])) H2) H2 := by
        refine ⟨fun b o e => ?_, fun b o e => ?_⟩
        · rcases dom_cases (upd H1 D (.lst [])) b with hb | ⟨u, hb⟩
          · rw [vw_new hb] at e
            exact e
          · rw [vw_old hb] at e
            exact sm b o (xn.sub b o e)
        · rcases dom_cases (upd H1 D (.lst [])) b with hb | ⟨u, hb⟩
          · rw [vw_new hb]
            exact .inl e
          · by_cases hbD : b = D
            · subst hbD
              obtain ⟨ys, e2⟩ := eD
              rw [e2] at e
              cases e
              exact .inr ⟨ys, rfl⟩
            · rw [vw_old hb]
              rw [upd_ne hbD] at hb
              have e3 := sm b u hb
              rw [e] at e3
              cases e3
              exact xn.all b o hb
      refine ⟨vw (vw W H H1) (upd H1 D (.lst [])) H2, T, hP T (List.mem_of_getElem? hT), V2, ?_, fun H' v' s' i' => ?_⟩
      · show Ev N ((k, T) :: env) ((σ.set k none).set k (some z)) _
        exact ((evn.mv hmono).put hne).set hk hne (iz.mv hmono)
      · rw [vw_two (domB sm eD) s'] at i'
        exact yes v' H' _ s' rfl i'
  · intro H2 ys sm eD p2 hyl
    have nDH : H D = none := s1.free nD
    have em : ts.filterMap (fun T => some (F T)) = ts.map F := by
      rw [show (fun T => some (F T)) = some ∘ F from rfl, List.filterMap_eq_map]
    rw [em] at p2
    refine q H2 D ys (s1.trans sm) nDH eD (by omega) (paired_imp p2 fun _ _ r => r.mv fun b o e => ?_)
    have hbD : b ≠ D := by
      rintro rfl
      rw [vw_old (o := .lst []) upd_same, WD] at e
      cases e
    rw [rm_ne hbD, ← vw_trans s1 sm]
    rcases dom_cases H1 b with hb | ⟨u, hb⟩
    · rw [vw_new (by rw [upd_ne hbD]; exact hb)] at e
      rw [vw_new hb]
      exact e
    · rw [vw_old (o := u) (by rw [upd_ne hbD]; exact hb)] at e
      rw [vw_old hb]
      exact e
theorem lf_lc {elt iter : Expr} {scope : Scope} {pos tp : Pos} {y : Str} {k : Nat} {t : Bool} {ts : List Tr} {Pr : Tr → Prop} {F : Tr → Tr} (hc : X.calm = true) (hN : X.N.Nodup) (hit : PE X iter (tLe N env (.sq t ts))) (ok : BlkOk X.N X.env.scope scope [(y, k)]) (hk : k < N) (hne : ∀ p ∈ env, p.1 ≠ k) (hP : ∀ T ∈ ts, Pr T)
    (hg : ∀ (s : Shared) (H : Hp) (C : Addr) (cl : List (Str × Addr)) (fp : List Addr), PG (X.blk s H scope (compEnvC scope cl C X.env) fp) (.Name y tp) (gName k))
    (he : ∀ (s : Shared) (H : Hp) (C : Addr) (cl : List (Str × Addr)) (fp : List Addr), PE (X.blk s H scope (compEnvC scope cl C X.env) fp) elt (tFam N k env Pr F)) (hs : ∀ x, foldedSetIterable iter X.env x = pure x := by intro _; rfl) :
    PE X (.ListComp elt [⟨.Name y tp, iter, [], 0⟩] scope pos) (tLf N env (ts.map F)) :=
  PE.imp (pe_lc (own := [(y, k)]) (g := gName k) hc hN (pi_seq hit) ok hg (fun _ _ _ _ _ => pts_nil) he hs) fun σ H Q h => lf_core (K := X.K) hk hne hP h
/-- name = [.. for x in xs] -/
theorem pf_setLc {elt iter : Expr} {scope : Scope} {pos spos tp py : Pos} {y z : Str} {i k : Nat} {t : Bool} {ts : List Tr} {Pr : Tr → Prop} {F : Tr → Tr} (hc : X.calm = true) (hN : X.N.Nodup) (hy : X.N[i]? = some z) (hyl : X.env.scope.names.lookup z = some .local)
    (hsw : swapsWith (.ListComp elt [⟨.Name y tp, iter, [], 0⟩] scope pos) (some (.Name z py)) spos.line X.env = pure true) (hit : PE X iter (tLe N env (.sq t ts))) (ok : BlkOk X.N X.env.scope scope [(y, k)]) (hk : k < N) (hne : ∀ p ∈ env, p.1 ≠ k) (hP : ∀ T ∈ ts, Pr T)
    (hg : ∀ (s : Shared) (H : Hp) (C : Addr) (cl : List (Str × Addr)) (fp : List Addr), PG (X.blk s H scope (compEnvC scope cl C X.env) fp) (.Name y tp) (gName k))
    (he : ∀ (s : Shared) (H : Hp) (C : Addr) (cl : List (Str × Addr)) (fp : List Addr), PE (X.blk s H scope (compEnvC scope cl C X.env) fp) elt (tFam N k env Pr F)) (hs : ∀ x, foldedSetIterable iter X.env x = pure x := by intro _; rfl) :
    PS X (.Assign [.Name z py] (.ListComp elt [⟨.Name y tp, iter, [], 0⟩] scope pos) spos) (tAsg (tLf N env (ts.map F)) (gName i)) :=
  PS.imp (ps_setLc (i := i) (own := [(y, k)]) (g := gName k) hc hN hy hyl hsw (pi_seq hit) ok hg (fun _ _ _ _ _ => pts_nil) he hs) fun D σ H h => lf_core (K := X.K) hk hne hP h
end
/-! ### a list that grows -/
theorem Vw.grown {W H : Hp} (x : Vw W H) {g : Addr} {vs ys : List V} (e : H g = some (.lst vs)) (n : W g = none) : Vw W (upd H g (.lst ys)) := by
  refine ⟨fun a o h => ?_, fun a o h => ?_⟩
  · have hag : a ≠ g := by
      rintro rfl
      rw [n] at h
      cases h
    rw [upd_ne hag]
    exact x.sub a o h
  · by_cases hag : a = g
    · subst hag
      rw [upd_same] at h
      cases h
      exact .inr ⟨ys, rfl⟩
    · rw [upd_ne hag] at h
      exact x.all a o h
/-- the view with the list -/
def add (W H : Hp) (g : Addr) : Hp := fun a => if a = g then H g else W a
theorem Vw.add {W H : Hp} (x : Vw W H) (g : Addr) : Vw (add W H g) H := by
  refine ⟨fun a o h => ?_, fun a o h => ?_⟩
  · unfold LwB.add at h
    split at h
    · rename_i e
      rw [e]
      exact h
    · exact x.sub a o h
  · unfold LwB.add
    split
    · rename_i e
      rw [← e]
      exact .inl h
    · exact x.all a o h
theorem add_sub {W H : Hp} (x : Vw W H) {g : Addr} : ∀ a o, W a = some o → LwB.add W H g a = some o := fun a o h => by
  unfold LwB.add
  split
  · rename_i e
    rw [← e]
    exact x.sub a o h
  · exact h
theorem add_same {W H : Hp} {g : Addr} : LwB.add W H g g = H g := if_pos rfl
theorem add_it {W H : Hp} (x : Vw W H) {g : Addr} {ts : List Tr} {vs : List V} (e : H g = some (.lst vs)) (hl : vs.length ≤ 1000000) (p : Paired (It W) ts vs) : It (LwB.add W H g) (.sq true ts) (.ref g) :=
  It.sq (.lst (by rw [add_same]; exact e)) hl (paired_imp p fun _ _ r => r.mv (add_sub x))
/-! ### words as trees -/
theorem bas_of_it {H : Hp} {t : Bool} {Ws : List (List Str)} {v : V} (h : It H (trows t Ws) v) : ∃ a, v = .ref a ∧ Bas t H a Ws := by
  obtain ⟨n, h⟩ := h
  obtain ⟨a, xs, e, hs, hl, p⟩ := rows_of (n := n) (h.mono (by omega))
  exact ⟨a, e, xs, hs, hl, p⟩
theorem row_of_it {H : Hp} {w : List Str} {v : V} (h : It H (trs false w) v) : RowAt H w v := by
  obtain ⟨n, h⟩ := h
  exact Is.row_at (n := n) (h.mono (by omega))
theorem trs_nol (w : List Str) : (trs false w).nol = true := by
  show (!false && Tr.nolAll (w.map Tr.str)) = true
  induction w with
  | nil => rfl
  | cons z w ih => exact ih
theorem trows_nol (Ws : List (List Str)) : (trows false Ws).nol = true := by
  show (!false && Tr.nolAll (Ws.map (trs false))) = true
  induction Ws with
  | nil => rfl
  | cons z w ih =>
    show (!false && ((trs false z).nol && Tr.nolAll (w.map (trs false)))) = true
    rw [trs_nol]
    exact ih
theorem headT_nol : ∀ G : List (List Str), (headT G).nol = true
  | [] => rfl
  | z :: _ => trs_nol z
def unstr : Tr → Str
  | .str z => z
  | _ => default
def unrow : Tr → List Str
  | .sq _ ts => ts.map unstr
  | _ => []
def unrows : Tr → List (List Str)
  | .sq _ ts => ts.map unrow
  | _ => []
theorem unrow_trs (t : Bool) (w : List Str) : unrow (trs t w) = w := by
  show (w.map Tr.str).map unstr = w
  rw [List.map_map]
  exact (List.map_congr_left fun _ _ => rfl).trans (List.map_id w)
theorem unrows_trows (t : Bool) (Ws : List (List Str)) : unrows (trows t Ws) = Ws := by
  show (Ws.map (trs false)).map unrow = Ws
  rw [List.map_map]
  exact (List.map_congr_left fun w _ => unrow_trs false w).trans (List.map_id Ws)
section
variable {X : Cx} {N : Nat} {env : List (Nat × Tr)}
/-- f(b=.., a=..) -/
theorem le_kw2 {x : Str} {ps ks : List Str} {k : Nat} {sp : Sp} {st : Stmt} {kws : List Keyword} {T1 T2 R : Tr} {p pos : Pos} (O : Ok X.prog X.w X.K X.mg X.base k x ps sp) (D : Df X.K X.mg x st ps) (kb : Kw2 x st ps ks) (hr : Room k X.A) (hkw : PK X kws (tLes N env [T2, T1])) (hR : R.nol = true)
    (hsp : ∀ H vs (Q : VK), Paired (It H) [T1, T2] vs → (∀ H' v, Same H H' → It H' R v → Q v H') → sp vs H Q E0) (hk2 : ks.length = 2 := by rfl) (hg : Gl X x := by rfl)
    (hall : (backToKw pos (keywordEach kws X.env)).all (·.1.isSome) = true := by rfl) (hks : (backToKw pos (keywordEach kws X.env)).filterMap (·.1) = ks := by rfl) (hdb : (x == ("__debug__" : Str)) = false := by decide)
    (hpl : ((backTo pos (starEach [] X.env)).any (·.1) || (backToKw pos (keywordEach kws X.env)).any (·.1.isNone)) = false := by rfl) :
    PE X (.Call (.Name x p) [] kws pos) (tLe N env R) :=
  PE.imp (pe_kw2 O D kb hr hkw hk2 hg hall hks hdb hpl) fun σ H Q ⟨W, x, ev, q⟩ => ⟨W, x, ev, fun H1 vs s1 i1 => by
    cases i1 with
    | cons r2 i1 =>
      cases i1 with
      | cons r1 i1 =>
        cases i1
        have xn := x.next s1
        refine ⟨_, _, rfl, hsp H1 _ Q (.cons (r1.mv xn.sub) (.cons (r2.mv xn.sub) .nil)) fun H' v s i => q H' v (s1.trans s) ?_⟩
        rw [← vw_trans s1 s]
        exact i.nol (xn.next s) hR⟩
end
theorem Ev.cons {N : Nat} {env : List (Nat × Tr)} {σ : L2.St} {W : Hp} {i : Nat} {T : Tr} {v : V} (h : Ev N env σ W) (e : σ[i]? = some (some v)) (x : It W T v) : Ev N ((i, T) :: env) σ W := by
  refine ⟨h.1, fun p hp => ?_⟩
  rcases List.mem_cons.mp hp with rfl | hp
  · exact ⟨v, e, x⟩
  · exact h.2 p hp
theorem Ev.drop {N : Nat} {p : Nat × Tr} {env : List (Nat × Tr)} {σ : L2.St} {W : Hp} (h : Ev N (p :: env) σ W) : Ev N env σ W := h.sub fun _ hp => .tail _ hp
/-- a new list is left out of the view -/
theorem keep_rm {W H H' : Hp} (x : Vw W H) {g : Addr} (n : H g = none) : ∀ a o, W a = some o → rm (vw W H H') g a = some o := fun a o h => by
  have hag : a ≠ g := by
    rintro rfl
    rw [x.off n] at h
    cases h
  rw [rm_ne hag]
  exact vw_keep x a o h
theorem rm_self {W : Hp} {g : Addr} : rm W g g = none := if_pos rfl
theorem It.bl_eq {H : Hp} {b : Bool} {v : V} (h : It H (.bl b) v) : v = .bl b := by
  obtain ⟨n, h⟩ := h
  exact h.bl_eq
theorem It.row {H : Hp} {n : Nat} {t : Bool} {ts : List Tr} {v : V} (h : It H (.sq t ts) v) : ∃ a xs, v = .ref a ∧ Sq t H a xs ∧ xs.length ≤ 1000000 ∧ Paired (It H) ts xs := by
  obtain ⟨a, xs, e, hs, hl, p⟩ := h.sq_inv
  exact ⟨a, xs, e, hs.1, hl, p⟩
/-! ### written short -/
theorem in0 {α : Type} {a : α} {l : List α} : a ∈ a :: l := .head _
theorem in1 {α : Type} {a b : α} {l : List α} : a ∈ b :: a :: l := .tail _ (.head _)
theorem in2 {α : Type} {a b c : α} {l : List α} : a ∈ b :: c :: a :: l := .tail _ (.tail _ (.head _))
theorem in3 {α : Type} {a b c d : α} {l : List α} : a ∈ b :: c :: d :: a :: l := .tail _ (.tail _ (.tail _ (.head _)))
theorem in4 {α : Type} {a b c d e : α} {l : List α} : a ∈ b :: c :: d :: e :: a :: l := .tail _ (.tail _ (.tail _ (.tail _ (.head _))))
theorem in5 {α : Type} {a b c d e f : α} {l : List α} : a ∈ b :: c :: d :: e :: f :: a :: l := .tail _ (.tail _ (.tail _ (.tail _ (.tail _ (.head _)))))
end LwB
namespace LwB
open PySem PySem.Spec PyProof.Rows L2 IqX RvT EnS TL NsT
/-! ### names and logs -/
def isLow (c : Nat) : Bool := decide (97 ≤ c) && decide (c ≤ 122)
def isNm (z : Str) : Bool := (decide (1 ≤ z.length) && decide (z.length ≤ 8)) && (tl z).all isLow
def isNameT : Tr → Bool
  | .str z => isNm z
  | _ => false
def isLogT : Tr → Bool
  | .sq false ts => ts.all isNameT
  | _ => false
def spIsName : Sp := fun vs H Q _ => ∃ (v : V) (n : Nat) (t : Tr), vs = [v] ∧ Is H n t v ∧ (∀ z, t = .str z → z.length ≤ 1000000) ∧ ∀ H', Same H H' → Q (.bl (isNameT t)) H'
def spIsLog : Sp := fun vs H Q _ => ∃ (v : V) (n : Nat) (t : Tr), vs = [v] ∧ Is H n t v ∧ (∀ b ts z, t = .sq b ts → Tr.str z ∈ ts → z.length ≤ 1000000) ∧ ∀ H', Same H H' → Q (.bl (isLogT t)) H'
/-! ### how many ways -/
def cnt : List Str → List Str → Nat
  | [], _ => 1
  | _ :: _, [] => 0
  | w :: ws, e :: es => (if e = w then cnt ws es else 0) + cnt (w :: ws) es
theorem cnt_nil (es : List Str) : cnt [] es = 1 := by cases es <;> simp [cnt]
theorem cnt_end (w : Str) (ws : List Str) : cnt (w :: ws) [] = 0 := rfl
theorem cnt_cons (w e : Str) (ws es : List Str) : cnt (w :: ws) (e :: es) = (if e = w then cnt ws es else 0) + cnt (w :: ws) es := rfl
theorem cnt_snoc (w e : Str) : ∀ (es ws : List Str), cnt (ws ++ [w]) (es ++ [e]) = (if e = w then cnt ws es else 0) + cnt (ws ++ [w]) es
  | [], [] => by
    show (if e = w then cnt [] [] else 0) + cnt [w] [] = _
    rfl
  | [], u :: ws => by
    show (if e = u then cnt (ws ++ [w]) [] else 0) + cnt (u :: (ws ++ [w])) [] = _
    have h : cnt (ws ++ [w]) [] = 0 := by cases ws <;> rfl
    rw [h]
    show (if e = u then 0 else 0) + 0 = (if e = w then 0 else 0) + 0
    split <;> split <;> rfl
  | d :: es, [] => by
    show (if d = w then cnt [] (es ++ [e]) else 0) + cnt [w] (es ++ [e]) = (if e = w then cnt [] (d :: es) else 0) + ((if d = w then cnt [] es else 0) + cnt [w] es)
    have ih := cnt_snoc w e es []
    have ih' : cnt [w] (es ++ [e]) = (if e = w then cnt [] es else 0) + cnt [w] es := ih
    rw [ih', cnt_nil, cnt_nil, cnt_nil]
    omega
  | d :: es, u :: ws => by
    show (if d = u then cnt (ws ++ [w]) (es ++ [e]) else 0) + cnt (u :: ws ++ [w]) (es ++ [e]) = (if e = w then (if d = u then cnt ws es else 0) + cnt (u :: ws) es else 0) + ((if d = u then cnt (ws ++ [w]) es else 0) + cnt (u :: ws ++ [w]) es)
    rw [cnt_snoc w e es ws, cnt_snoc w e es (u :: ws)]
    by_cases h1 : d = u
    · rw [if_pos h1, if_pos h1, if_pos h1]
      by_cases h2 : e = w
      · rw [if_pos h2, if_pos h2, if_pos h2]
        omega
      · rw [if_neg h2, if_neg h2, if_neg h2]
        omega
    · rw [if_neg h1, if_neg h1, if_neg h1]
      by_cases h2 : e = w
      · rw [if_pos h2, if_pos h2]
        omega
      · rw [if_neg h2, if_neg h2]
def spWays : Sp := fun vs H Q _ => ∃ (b1 b2 : Bool) (a c : Addr) (ws es : List Str), vs = [.ref a, .ref c] ∧ Sq b1 H a (ws.map V.str) ∧ Sq b2 H c (es.map V.str) ∧ ws.length ≤ 1000 ∧ ∀ H', Same H H' → Q (.int (cnt ws es : Nat)) H'
/-- the places as a tree, or none -/
def natT (ns : List Nat) : Tr := .sq false (ns.map fun n => Tr.int (n : Nat))
def placesT (ws es : List Str) : Tr := if (early ws es 0).length = ws.length then natT (early ws es 0) else .non
def spPlaces : Sp := fun vs H Q _ => ∃ (b1 b2 : Bool) (a c : Addr) (ws es : List Str), vs = [.ref a, .ref c] ∧ Sq b1 H a (ws.map V.str) ∧ Sq b2 H c (es.map V.str) ∧ ws.length ≤ 1000 ∧ ∀ H' v, Same H H' → Is H' 1 (placesT ws es) v → Q v H'
theorem Is.of_nats {H : Hp} {n : Nat} {t : Bool} {p : Addr} {ns : List Nat} (h : Sx t H p (nats ns)) (hl : ns.length ≤ 1000000) : Is H (n + 1) (.sq t (ns.map fun n => Tr.int (n : Nat))) (.ref p) := by
  refine Is.sq h (by unfold nats; rw [List.length_map]; exact hl) ?_
  unfold nats
  clear h hl
  induction ns with
  | nil => exact .nil
  | cons n ns ih => exact .cons .int ih
/-! ### tables -/
def tab (m : Nat) (f : Nat → Int) : List V := (List.range m).map fun k => V.int (f k)
theorem tab_len (m : Nat) (f : Nat → Int) : (tab m f).length = m := by unfold tab; rw [List.length_map, List.length_range]
theorem tab_get {m k : Nat} (f : Nat → Int) (h : k < m) : (tab m f)[k]? = some (.int (f k)) := by
  unfold tab
  rw [List.getElem?_map, List.getElem?_range h]
  rfl
theorem tab_set (m e : Nat) (f : Nat → Int) (v : Int) : (tab m f).set e (.int v) = tab m fun k => if k = e then v else f k := by
  refine List.ext_getElem? fun i => ?_
  by_cases hi : i < m
  · rw [tab_get _ hi]
    by_cases he : i = e
    · subst he
      rw [List.getElem?_set_self (by rw [tab_len]; exact hi), if_pos rfl]
    · rw [List.getElem?_set_ne fun q => he q.symm, tab_get _ hi, if_neg he]
  · rw [List.getElem?_eq_none (by rw [List.length_set, tab_len]; omega), List.getElem?_eq_none (by rw [tab_len]; omega)]
theorem tab_ext {m : Nat} {f g : Nat → Int} (h : ∀ k, k < m → f k = g k) : tab m f = tab m g := by
  unfold tab
  exact List.map_congr_left fun k hk => by rw [h k (List.mem_range.mp hk)]
theorem tab_first (n : Nat) : [V.int 1] ++ (List.replicate n [V.int 0]).flatten = tab (n + 1) fun k => if k = 0 then 1 else 0 := by
  refine List.ext_getElem? fun i => ?_
  have hl : (List.replicate n [V.int 0]).flatten = List.replicate n (V.int 0) := by
    induction n with
    | zero => rfl
    | succ n ih => rw [List.replicate_succ, List.flatten_cons, ih, List.replicate_succ]; rfl
  rw [hl]
  by_cases hi : i < n + 1
  · rw [tab_get _ hi]
    cases i with
    | zero => rfl
    | succ i =>
      show (List.replicate n (V.int 0))[i]? = _
      rw [List.getElem?_replicate, if_pos (by omega), if_neg (by omega)]
  · rw [List.getElem?_eq_none (by rw [List.length_append, List.length_replicate]; show 1 + n ≤ i; omega), List.getElem?_eq_none (by rw [tab_len]; omega)]
theorem tab_end (n : Nat) : (List.replicate n [V.int 0]).flatten ++ [V.int 1] = tab (n + 1) fun k => if k = n then 1 else 0 := by
  refine List.ext_getElem? fun i => ?_
  have hl : (List.replicate n [V.int 0]).flatten = List.replicate n (V.int 0) := by
    induction n with
    | zero => rfl
    | succ n ih => rw [List.replicate_succ, List.flatten_cons, ih, List.replicate_succ]; rfl
  rw [hl]
  by_cases hi : i < n + 1
  · rw [tab_get _ hi]
    by_cases h2 : i < n
    · rw [List.getElem?_append_left (by rw [List.length_replicate]; exact h2), List.getElem?_replicate, if_pos h2, if_neg (by omega)]
    · have e : i = n := by omega
      subst e
      rw [List.getElem?_append_right (by rw [List.length_replicate]; exact Nat.le_refl _), List.length_replicate, Nat.sub_self, if_pos rfl]
      rfl
  · rw [List.getElem?_eq_none (by rw [List.length_append, List.length_replicate]; show n + 1 ≤ i; omega), List.getElem?_eq_none (by rw [tab_len]; omega)]
theorem atI_last {xs : List V} {v : V} {n : Nat} (hl : xs.length = n + 1) (h : xs[n]? = some v) : atI xs (-1) = some v := by
  have e : ixN xs.length (-1) = some n := by
    unfold ixN
    rw [hl]
    first
      | (simp; omega)
      | simp
      | omega
  unfold atI
  rw [e]
  exact h
section
variable {X : Cx}
def rGetN : V → V → Hp → VK → Prop := fun o i H Q => ∃ (p : Addr) (xs : List V) (k : Nat) (v : V), o = .ref p ∧ i = .int k ∧ H p = some (.lst xs) ∧ xs[k]? = some v ∧ Q v H
theorem get_n : PGet X rGetN := by
  intro pins s σ H o i ov iv Q I ro ri h
  obtain ⟨p, xs, k, v, rfl, rfl, hp, hk, q⟩ := h
  cases ro
  obtain ⟨t, rfl⟩ := ri
  obtain ⟨its, rv, pl, hz⟩ := I.list (SqL.of hp)
  obtain ⟨u, hu, ru⟩ := paired_at rv hk
  have hkl := (List.getElem?_eq_some_iff.mp hk).1
  refine wpAny_getItem_list (k := (k : Int)) pl.isList (by omega) ?_ (by simpa using hu) ⟨v, H, I, ru, q⟩
  have : xs.length ≤ 16777216 := by rw [sizeLine_eq] at hz; exact hz
  omega
end
end LwB
namespace LwB
open PySem PySem.Spec PyProof.Rows L2 IqX RvT EnS TL NsT
/-! ### ways and parts -/
theorem cnt_pos : ∀ (es ws : List Str), 0 < LwB.cnt ws es ↔ isPart ws es = true
  | [], [] => ⟨fun _ => isPart_nil _, fun _ => by rw [LwB.cnt_nil]; decide⟩
  | [], w :: ws => ⟨fun h => absurd h (Nat.lt_irrefl _), fun h => by simp [isPart] at h⟩
  | e :: es, [] => ⟨fun _ => isPart_nil _, fun _ => by rw [LwB.cnt_nil]; decide⟩
  | e :: es, w :: ws => by
    have h1 := cnt_pos es ws
    have h2 := cnt_pos es (w :: ws)
    rw [LwB.cnt_cons]
    by_cases h : e = w
    · rw [if_pos h]
      have hp : isPart (w :: ws) (e :: es) = isPart ws es := by
        show (if e = w then isPart ws es else isPart (w :: ws) es) = _
        rw [if_pos h]
      rw [hp, ← h1]
      constructor
      · intro h3
        rcases Nat.eq_zero_or_pos (LwB.cnt ws es) with z | z
        · have h4 : 0 < LwB.cnt (w :: ws) es := by omega
          have h5 := (isPart_iff es (w :: ws)).mp (h2.mp h4)
          exact h1.mpr ((isPart_iff es ws).mpr ((List.sublist_cons_self w ws).trans h5))
        · exact z
      · intro h3
        omega
    · rw [if_neg h]
      have hp : isPart (w :: ws) (e :: es) = isPart (w :: ws) es := by
        show (if e = w then isPart ws es else isPart (w :: ws) es) = _
        rw [if_neg h]
      rw [hp, ← h2]
      omega
theorem cnt_le : ∀ (es ws : List Str), LwB.cnt ws es ≤ 2 ^ es.length
  | [], [] => by rw [LwB.cnt_nil]; decide
  | [], w :: ws => Nat.zero_le _
  | e :: es, [] => by
    rw [LwB.cnt_nil]
    exact Nat.one_le_two_pow
  | e :: es, w :: ws => by
    have h1 := cnt_le es ws
    have h2 := cnt_le es (w :: ws)
    rw [LwB.cnt_cons, List.length_cons, Nat.pow_succ]
    split <;> omega
theorem early_full (ws es : List Str) : (early ws es 0).length = ws.length ↔ isPart ws es = true := by
  rw [isPart_mt]
  unfold mt
  rw [decide_eq_true_eq]
/-! ### the first place -/
theorem early_at {w : Str} {ws : List Str} : ∀ {es : List Str} {j k : Nat}, es[j]? = some w → (∀ (m : Nat) (z : Str), m < j → es[m]? = some z → z ≠ w) → early (w :: ws) es k = (k + j) :: early ws (es.drop (j + 1)) (k + j + 1)
  | [], _, _, h, _ => by simp at h
  | e :: es, 0, k, h, _ => by
    have : e = w := Option.some.inj h
    rw [early_hit this]
    rfl
  | e :: es, j + 1, k, h, hm => by
    have hne : e ≠ w := hm 0 e (Nat.succ_pos _) rfl
    rw [early_miss hne, early_at (es := es) (j := j) (k := k + 1) h fun m z h1 h2 => hm (m + 1) z (Nat.succ_lt_succ h1) h2]
    rw [show k + 1 + j = k + (j + 1) by omega]
    rfl
theorem early_no {w : Str} {ws : List Str} : ∀ {es : List Str} {k : Nat}, (∀ (m : Nat) (z : Str), es[m]? = some z → z ≠ w) → early (w :: ws) es k = []
  | [], k, _ => by rw [early_end]
  | e :: es, k, hm => by
    have hne : e ≠ w := hm 0 e rfl
    rw [early_miss hne]
    exact early_no fun m z h => hm (m + 1) z h
/-! ### all choices of places -/
/-- the places of w from f on -/
def hits (es : List Str) (w : Str) (f : Nat) : List Nat := (List.range' f (es.length - f)).filter fun k => decide (es[k]? = some w)
def ext (es : List Str) (w : Str) (q : List Nat × Nat) : List (List Nat × Nat) := (hits es w q.2).map fun k => (q.1 ++ [k], k + 1)
def stepL (es : List Str) (F : List (List Nat × Nat)) (w : Str) : List (List Nat × Nat) := (F.map (ext es w)).flatten
def ch (es ws : List Str) : List (List Nat × Nat) := ws.foldl (stepL es) [([], 0)]
theorem hits_mem {es : List Str} {w : Str} {f k : Nat} : k ∈ hits es w f ↔ f ≤ k ∧ es[k]? = some w := by
  unfold hits
  rw [List.mem_filter, List.mem_range'_1, decide_eq_true_eq]
  constructor
  · rintro ⟨⟨h1, h2⟩, h3⟩
    exact ⟨h1, h3⟩
  · rintro ⟨h1, h3⟩
    have := (List.getElem?_eq_some_iff.mp h3).1
    exact ⟨⟨h1, by omega⟩, h3⟩
theorem hits_step {es : List Str} {w e : Str} {f : Nat} (h : es[f]? = some e) : hits es w f = if e = w then f :: hits es w (f + 1) else hits es w (f + 1) := by
  have hl := (List.getElem?_eq_some_iff.mp h).1
  unfold hits
  rw [show es.length - f = (es.length - (f + 1)) + 1 by omega, List.range'_succ]
  by_cases he : e = w
  · rw [if_pos he, List.filter_cons_of_pos (by rw [h, he]; exact decide_eq_true rfl)]
  · rw [if_neg he, List.filter_cons_of_neg (by
      rw [h]
      intro q
      exact he (Option.some.inj (of_decide_eq_true q)))]
theorem hits_end {es : List Str} {w : Str} {f : Nat} (h : es.length ≤ f) : hits es w f = [] := by
  unfold hits
  rw [show es.length - f = 0 by omega]
  rfl
/-- how many there will be -/
def tot (es : List Str) (F : List (List Nat × Nat)) (ws : List Str) : Nat := (F.map fun q => LwB.cnt ws (es.drop q.2)).sum
theorem hits_cnt {es : List Str} {w : Str} {ws : List Str} : ∀ (d f : Nat), es.length - f = d → ((hits es w f).map fun k => LwB.cnt ws (es.drop (k + 1))).sum = LwB.cnt (w :: ws) (es.drop f)
  | 0, f, h => by
    rw [hits_end (by omega), List.drop_eq_nil_of_le (by omega)]
    rfl
  | d + 1, f, h => by
    have hl : f < es.length := by omega
    have hf : es[f]? = some es[f] := List.getElem?_eq_getElem hl
    have ih := hits_cnt (es := es) (w := w) (ws := ws) d (f + 1) (by omega)
    rw [hits_step hf, drop_at hf, LwB.cnt_cons]
    by_cases he : es[f] = w
    · rw [if_pos he, if_pos he, List.map_cons, List.sum_cons, ih]
    · rw [if_neg he, if_neg he, ih, Nat.zero_add]
theorem tot_step (es : List Str) (w : Str) (ws : List Str) : ∀ F : List (List Nat × Nat), tot es (stepL es F w) ws = tot es F (w :: ws)
  | [] => rfl
  | q :: F => by
    have ih := tot_step es w ws F
    unfold tot stepL at ih ⊢
    rw [List.map_cons, List.flatten_cons, List.map_append, List.sum_append, ih, List.map_cons, List.sum_cons]
    congr 1
    unfold ext
    rw [List.map_map]
    exact hits_cnt _ q.2 rfl
theorem tot_fold (es : List Str) : ∀ (ws : List Str) (F : List (List Nat × Nat)), tot es (ws.foldl (stepL es) F) [] = tot es F ws
  | [], F => rfl
  | w :: ws, F => by
    rw [List.foldl_cons, tot_fold es ws, tot_step]
theorem ch_len (es ws : List Str) : (ch es ws).length = LwB.cnt ws es := by
  have h := tot_fold es ws [([], 0)]
  have h1 : ∀ F : List (List Nat × Nat), tot es F [] = F.length := fun F => by
    unfold tot
    induction F with
    | nil => rfl
    | cons q F ih => rw [List.map_cons, List.sum_cons, ih, LwB.cnt_nil, List.length_cons]; omega
  rw [h1] at h
  unfold ch
  rw [h]
  unfold tot
  show LwB.cnt ws (es.drop 0) + 0 = _
  rw [List.drop_zero]
  rfl
/-- the first choice is the one taken as early as can be -/
def Hd (es ws : List Str) (done : Nat) (F : List (List Nat × Nat)) : Prop :=
  (F = [] ∧ (early ws es 0).length < ws.length) ∨ ∃ acc f rest, F = (acc, f) :: rest ∧ acc.length = done ∧ early ws es 0 = acc ++ early (ws.drop done) (es.drop f) f ∧ ∀ q ∈ rest, f ≤ q.2 ∧ Paired (fun a b : Nat => a ≤ b) acc q.1
theorem hits_head {es : List Str} {w : Str} {f : Nat} : (hits es w f = [] ∧ ∀ (m : Nat) (z : Str), (es.drop f)[m]? = some z → z ≠ w) ∨ ∃ k r, hits es w f = k :: r ∧ f ≤ k ∧ (es.drop f)[k - f]? = some w ∧ (∀ (m : Nat) (z : Str), m < k - f → (es.drop f)[m]? = some z → z ≠ w) ∧ (∀ x ∈ r, k ≤ x) ∧ ∀ x, f ≤ x → es[x]? = some w → k ≤ x := by
  have key : ∀ (d f : Nat), es.length - f = d → (hits es w f = [] ∧ ∀ x, f ≤ x → es[x]? ≠ some w) ∨ ∃ k r, hits es w f = k :: r ∧ f ≤ k ∧ es[k]? = some w ∧ (∀ x ∈ r, k ≤ x) ∧ ∀ x, f ≤ x → es[x]? = some w → k ≤ x := by
    intro d
    induction d with
    | zero =>
      intro f h
      refine .inl ⟨hits_end (by omega), fun x hx e => ?_⟩
      have := (List.getElem?_eq_some_iff.mp e).1
      omega
    | succ d ih =>
      intro f h
      have hl : f < es.length := by omega
      have hf : es[f]? = some es[f] := List.getElem?_eq_getElem hl
      rw [hits_step hf]
      by_cases he : es[f] = w
      · rw [if_pos he]
        refine .inr ⟨f, _, rfl, Nat.le_refl _, by rw [hf, he], fun x hx => ?_, fun x hx _ => hx⟩
        have := (hits_mem.mp hx).1
        omega
      · rw [if_neg he]
        have skip : ∀ x, f ≤ x → es[x]? = some w → f + 1 ≤ x := fun x hx e => by
          rcases Nat.lt_or_ge f x with z | z
          · exact z
          · have : x = f := by omega
            subst this
            rw [hf] at e
            exact absurd (Option.some.inj e) he
        rcases ih (f + 1) (by omega) with ⟨h1, h2⟩ | ⟨k, r, h1, h2, h3, h4, h5⟩
        · exact .inl ⟨h1, fun x hx e => h2 x (skip x hx e) e⟩
        · exact .inr ⟨k, r, h1, by omega, h3, h4, fun x hx e => h5 x (skip x hx e) e⟩
  rcases key _ f rfl with ⟨h1, h2⟩ | ⟨k, r, h1, h2, h3, h4, h5⟩
  · refine .inl ⟨h1, fun m z hz e => ?_⟩
    rw [List.getElem?_drop] at hz
    exact h2 (f + m) (by omega) (by rw [hz, e])
  · refine .inr ⟨k, r, h1, h2, ?_, fun m z hm hz e => ?_, h4, h5⟩
    · rw [List.getElem?_drop, show f + (k - f) = k by omega]
      exact h3
    · rw [List.getElem?_drop] at hz
      have := h5 (f + m) (by omega) (by rw [hz, e])
      omega
theorem Hd.step {es ws : List Str} {done : Nat} {w : Str} {F : List (List Nat × Nat)} (h : Hd es ws done F) (hw : ws[done]? = some w) : Hd es ws (done + 1) (stepL es F w) := by
  rcases h with ⟨rfl, h⟩ | ⟨acc, f, rest, rfl, h1, h2, h3⟩
  · exact .inl ⟨rfl, h⟩
  · have hlt := (List.getElem?_eq_some_iff.mp hw).1
    rw [drop_at hw] at h2
    rcases hits_head (es := es) (w := w) (f := f) with ⟨g1, g2⟩ | ⟨k, r, g1, g2, g3, g4, g5, g6⟩
    · left
      constructor
      · unfold stepL
        rw [List.flatten_eq_nil_iff]
        intro l hl
        obtain ⟨q, hq, rfl⟩ := List.mem_map.mp hl
        have hqf : f ≤ q.2 := by
          rcases List.mem_cons.mp hq with rfl | hq
          · exact Nat.le_refl _
          · exact (h3 q hq).1
        unfold ext
        have : hits es w q.2 = [] := by
          cases e : hits es w q.2 with
          | nil => rfl
          | cons x l =>
            have hx : x ∈ hits es w q.2 := by rw [e]; exact .head _
            obtain ⟨a1, a2⟩ := hits_mem.mp hx
            exact absurd rfl (g2 (x - f) w (by rw [List.getElem?_drop, show f + (x - f) = x by omega]; exact a2))
        rw [this]
        rfl
      · rw [h2, early_no g2, List.append_nil, h1]
        exact hlt
    · right
      refine ⟨acc ++ [k], k + 1, r.map (fun k => (acc ++ [k], k + 1)) ++ (rest.map (ext es w)).flatten, ?_, by rw [List.length_append, h1]; rfl, ?_, ?_⟩
      · unfold stepL
        rw [List.map_cons, List.flatten_cons]
        unfold ext
        dsimp only
        rw [g1]
        rfl
      · rw [h2, early_at g3 g4, show f + (k - f) = k by omega, List.drop_drop, show f + (k - f + 1) = k + 1 by omega, List.append_assoc]
        rfl
      · intro q hq
        have same : ∀ (l : List Nat), Paired (fun a b : Nat => a ≤ b) l l := fun l => by
          induction l with
          | nil => exact .nil
          | cons x l ih => exact .cons (Nat.le_refl _) ih
        rcases List.mem_append.mp hq with hq | hq
        · obtain ⟨x, hx, rfl⟩ := List.mem_map.mp hq
          have := g5 x hx
          exact ⟨by show k + 1 ≤ x + 1; omega, paired_append (same acc) (.cons this .nil)⟩
        · obtain ⟨l, hl, hq⟩ := List.mem_flatten.mp hq
          obtain ⟨p, hp, rfl⟩ := List.mem_map.mp hl
          unfold ext at hq
          obtain ⟨x, hx, rfl⟩ := List.mem_map.mp hq
          obtain ⟨a1, a2⟩ := hits_mem.mp hx
          obtain ⟨b1, b2⟩ := h3 p hp
          have := g6 x (by omega) a2
          exact ⟨by show k + 1 ≤ x + 1; omega, paired_append b2 (.cons this .nil)⟩
theorem ch_head (es ws : List Str) : Hd es ws ws.length (ch es ws) := by
  have key : ∀ (d i : Nat) (F : List (List Nat × Nat)), ws.length - i = d → i ≤ ws.length → Hd es ws i F → Hd es ws ws.length ((ws.drop i).foldl (stepL es) F) := by
    intro d
    induction d with
    | zero =>
      intro i F h hi hF
      have : i = ws.length := by omega
      subst this
      rw [List.drop_length]
      exact hF
    | succ d ih =>
      intro i F h hi hF
      have hl : i < ws.length := by omega
      have hw : ws[i]? = some ws[i] := List.getElem?_eq_getElem hl
      rw [drop_at hw, List.foldl_cons]
      exact ih (i + 1) _ (by omega) hl (hF.step hw)
  have := key _ 0 [([], 0)] rfl (Nat.zero_le _) (.inr ⟨[], 0, [], rfl, rfl, by rw [List.drop_zero, List.drop_zero]; rfl, fun q h => nomatch h⟩)
  rw [List.drop_zero] at this
  exact this
/-! ### the least of tuples of numbers -/
def natD (ns : List Nat) : PyData := .tuple ((ns.map fun n : Nat => (n : Int)).map .int)
theorem not_less : ∀ {a b : List Nat}, Paired (fun x y : Nat => x ≤ y) a b → ¬ ((b.map fun n : Nat => (n : Int)) < (a.map fun n : Nat => (n : Int)))
  | _, _, .nil, h => by cases h
  | x :: a, y :: b, .cons r t, h => by
    cases h with
    | rel h =>
      have h' : (y : Int) < (x : Int) := h
      omega
    | cons h => exact not_less t h
theorem natD_lt {a b : List Nat} (p : Paired (fun x y : Nat => x ≤ y) a b) : PySem.W.dataLt (natD b) (natD a) = false := by
  unfold natD
  rw [PySem.W.dataLt_tuple]
  show PySem.W.rowLt _ _ = false
  rw [PySem.W.dataLt_ints]
  exact decide_eq_false (not_less p)
theorem alike_nat (a b : List Nat) : PySem.W.alike (natD a) (natD b) = true := by
  unfold natD
  simp only [PySem.W.alike]
  generalize (a.map fun n : Nat => (n : Int)) = as
  generalize (b.map fun n : Nat => (n : Int)) = bs
  induction as generalizing bs with
  | nil => cases bs <;> simp [PySem.W.alikeAll]
  | cons x as ih =>
    cases bs with
    | nil => simp [PySem.W.alikeAll]
    | cons y bs => simp [PySem.W.alikeAll, PySem.W.alike, ih bs]
theorem minD_head {x : List Nat} : ∀ {xs : List (List Nat)}, (∀ y ∈ xs, Paired (fun a b : Nat => a ≤ b) x y) → PySem.W.minD (natD x) (xs.map natD) = natD x
  | [], _ => rfl
  | y :: xs, h => by
    unfold PySem.W.minD
    rw [List.map_cons, List.foldl_cons, natD_lt (h y List.mem_cons_self)]
    simp only [Bool.false_eq_true, if_false]
    exact minD_head fun z hz => h z (List.mem_cons_of_mem _ hz)
theorem natD_inj {a b : List Nat} (h : natD a = natD b) : a = b := by
  injection h with h
  have h2 : (a.map fun n : Nat => (n : Int)) = b.map fun n : Nat => (n : Int) := by
    generalize (a.map fun n : Nat => (n : Int)) = as at h
    generalize (b.map fun n : Nat => (n : Int)) = bs at h
    induction as generalizing bs with
    | nil => cases bs with
      | nil => rfl
      | cons y bs => cases h
    | cons x as ih => cases bs with
      | nil => cases h
      | cons y bs =>
        rw [List.map_cons, List.map_cons] at h
        injection h with h1 h3
        injection h1 with h1
        rw [h1, ih bs h3]
  clear h
  induction a generalizing b with
  | nil => cases b with
    | nil => rfl
    | cons y b => cases h2
  | cons x a ih => cases b with
    | nil => cases h2
    | cons y b =>
      rw [List.map_cons, List.map_cons] at h2
      injection h2 with h1 h3
      have h1' : (x : Int) = (y : Int) := h1
      rw [ih h3, show x = y by omega]
theorem depth_nat (a : List Nat) : (natD a).depth ≤ 1 := by
  unfold natD
  simp only [PyData.depth]
  generalize (a.map fun n : Nat => (n : Int)) = as
  have : PyData.depthAll (as.map PyData.int) = 0 := by
    induction as with
    | nil => simp [PyData.depthAll]
    | cons x as ih => simp [PyData.depthAll, PyData.depth, ih]
  omega
def NatAt (H : Hp) (ns : List Nat) (v : V) : Prop := ∃ p, v = .ref p ∧ Sq false H p (nats ns) ∧ ns.length ≤ 1000000
theorem NatAt.same {H H' : Hp} {w : List Nat} {v : V} (s : Same H H') (h : NatAt H w v) : NatAt H' w v := by
  obtain ⟨p, e, hp, l⟩ := h
  exact ⟨p, e, s.sq hp, l⟩
theorem NatAt.put {H : Hp} {D : Addr} {w : List Nat} {v : V} {ys : List V} {o : HO} (h : NatAt H w v) (e : H D = some (.lst ys)) : NatAt (L2.upd H D o) w v := by
  obtain ⟨p, e', hp, l⟩ := h
  exact ⟨p, e', Sq.put_list hp e, l⟩
theorem NatAt.is {H : Hp} {n : Nat} {w : List Nat} {v : V} (h : NatAt H w v) : Is H (n + 1) (natT w) v := by
  obtain ⟨p, rfl, hp, l⟩ := h
  exact Is.of_nats (.tup hp) l
section
variable {X : Cx} {pins : List (Addr × Obj)} {σ : L2.St} {H : Hp} {s : Shared}
theorem NatAt.raw (I : Inv X pins σ H s) {ns : List Nat} {v : V} {u : Value} (h : NatAt H ns v) (r : RelV v u) : Reads s.heap u (natD ns) [] := by
  obtain ⟨p, rfl, hp, _⟩ := h
  cases r
  obtain ⟨its, rv, ⟨o, ho, hc, n, hd⟩, _⟩ := I.tuple hp.T
  refine .tuple ho hc hd ?_
  have key : ∀ {ns : List Nat} {us : List Value}, Vals (nats ns) us → ReadsAll s.heap us ((ns.map fun n : Nat => (n : Int)).map .int) [] := by
    intro ns
    induction ns with
    | nil => intro us r; cases r; exact .nil
    | cons n ns ih =>
      intro us r
      cases r with
      | cons r1 r2 =>
        obtain ⟨tk, rfl⟩ := r1
        exact .cons (.int _ _) (ih r2)
  simpa using key rv
/-- min(xs): the first is the least -/
def rMinT : List V → Hp → VK → Prop := fun vs H Q => ∃ (a : Addr) (xs : List V) (n : List Nat) (ns : List (List Nat)), vs = [.ref a] ∧ Sq true H a xs ∧ Paired (NatAt H) (n :: ns) xs ∧ (∀ m ∈ ns, Paired (fun a b : Nat => a ≤ b) n m) ∧ ∀ v, NatAt H n v → Q v H
theorem cr_minT (hc : X.calm = true) (hu : X.A.units + 64 < cLine) : CallR X (.builtin "min") rMinT := by
  intro pins s σ H vs us Q I r h
  obtain ⟨a, xs, n, ns, rfl, hs, hp, hle, q⟩ := h
  rw [Vals.ref1 r]
  obtain ⟨its, rv, pl, hz⟩ := I.list hs.L
  have reads : ∀ {ms : List (List Nat)} {ys : List V} {us : List Value}, Paired (NatAt H) ms ys → Vals ys us → ReadsAll s.heap us (ms.map natD) [] := by
    intro ms ys us p
    induction p generalizing us with
    | nil => intro r; cases r; exact .nil
    | cons h _ ih =>
      intro r
      cases r with
      | cons r1 r2 => exact .cons (h.raw I r1) (ih r2)
  have hr := reads hp rv
  have hd : ∀ ms : List (List Nat), PyData.depthAll (ms.map natD) ≤ 1 := fun ms => by
    induction ms with
    | nil => simp [PyData.depthAll]
    | cons m ms ih =>
      have := depth_nat m
      simp only [List.map_cons, PyData.depthAll]
      omega
  have hdn := hd (n :: ns)
  refine PySem.W.min_list_data (I.ok.hd hc) pl.isList (x := natD n) (xs := ns.map natD) (as := []) (by simpa using hr) ⟨?_, ?_⟩ ?_ fun i v h' tk bs hv rd kp => ?_
  · intro x hx y hy
    obtain ⟨a1, _, rfl⟩ := List.mem_map.mp (show x ∈ (n :: ns).map natD from hx)
    obtain ⟨a2, _, rfl⟩ := List.mem_map.mp (show y ∈ (n :: ns).map natD from hy)
    exact alike_nat a1 a2
  · intro x hx e
    obtain ⟨a1, _, rfl⟩ := List.mem_map.mp (show x ∈ (n :: ns).map natD from hx)
    cases e
  · rw [show natD n :: ns.map natD = (n :: ns).map natD from rfl]
    omega
  · rw [minD_head hle] at rd
    have hv' : its[i]? = some v := by simpa using hv
    have hil := (List.getElem?_eq_some_iff.mp hv').1
    have hxl : i < xs.length := by rw [rv.length]; exact hil
    have hx : xs[i]? = some xs[i] := List.getElem?_eq_getElem hxl
    obtain ⟨m, hm, rm⟩ := paired_get hp hx
    obtain ⟨v', hv2, rel⟩ := paired_at rv hx
    rw [hv'] at hv2
    cases hv2
    have rm2 := PyProof.Rows.Reads.keeps kp (rm.raw I rel)
    have e : natD m = natD n := SeqAt.Reads.unique _ _ _ _ _ (by
      unfold natD
      simp only [PyData.canLay0]
      generalize (m.map fun n : Nat => (n : Int)) = as
      induction as with
      | nil => simp [PyData.canLayAll0]
      | cons x as ih => simp [PyData.canLayAll0, PyData.canLay0, ih]) rm2 rd
    have em := natD_inj e
    subst em
    exact ⟨xs[i], H, I.kept (t' := tk) kp, rel, q _ rm⟩
end
def spCounted : Sp := fun vs H Q _ => ∃ (a c : Addr) (ws es : List Str), vs = [.ref a, .ref c] ∧ Sq false H a (ws.map V.str) ∧ Sq false H c (es.map V.str) ∧ ws.length ≤ 1000 ∧ ∀ H', Same H H' → Q (.int (LwB.cnt ws es : Nat)) H'
def spLeastS : Sp := fun vs H Q _ => ∃ (a c : Addr) (ws es : List Str), vs = [.ref a, .ref c] ∧ Sq false H a (ws.map V.str) ∧ Sq false H c (es.map V.str) ∧ ws.length ≤ 1000 ∧ es.length ≤ 1000 ∧ ∀ H' v, Same H H' → Is H' 1 (placesT ws es) v → Q v H'
def spChoices : Sp := fun vs H Q _ => ∃ (a c : Addr) (ws es : List Str), vs = [.ref a, .ref c] ∧ Sq false H a (ws.map V.str) ∧ Sq false H c (es.map V.str) ∧ ws.length ≤ 1000 ∧ es.length ≤ 8 ∧ ∀ H' p ys, Same H H' → H p = none → H' p = some (.lst ys) → Paired (NatAt H') ((ch es ws).map (·.1)) ys → Q (.ref p) H'
def PairN (H : Hp) (q : List Nat × Nat) (v : V) : Prop := ∃ p x, v = .ref p ∧ Sq false H p [x, .int q.2] ∧ NatAt H q.1 x
theorem PairN.same {H H' : Hp} {w : List Nat × Nat} {v : V} (s : Same H H') (h : PairN H w v) : PairN H' w v := by
  obtain ⟨p, x, e, hp, r⟩ := h
  exact ⟨p, x, e, s.sq hp, r.same s⟩
theorem PairN.put {H : Hp} {D : Addr} {w : List Nat × Nat} {v : V} {ys : List V} {o : HO} (h : PairN H w v) (e : H D = some (.lst ys)) : PairN (L2.upd H D o) w v := by
  obtain ⟨p, x, e', hp, r⟩ := h
  exact ⟨p, x, e', Sq.put_list hp e, r.put e⟩
theorem ch_snoc (es l : List Str) (u : Str) : ch es (l ++ [u]) = stepL es (ch es l) u := by
  unfold ch
  rw [List.foldl_append]
  rfl
theorem ch_small {es ws : List Str} (h : es.length ≤ 8) : (ch es ws).length ≤ 256 := by
  rw [ch_len]
  refine Nat.le_trans (cnt_le es ws) ?_
  exact Nat.pow_le_pow_right (by decide) h
def Fine (es : List Str) (i : Nat) (q : List Nat × Nat) : Prop := q.2 ≤ es.length ∧ q.1.length = i
theorem fine_step {es : List Str} {i : Nat} {u : Str} {F : List (List Nat × Nat)} (h : ∀ q ∈ F, Fine es i q) : ∀ q ∈ stepL es F u, Fine es (i + 1) q := by
  intro q hq
  unfold stepL at hq
  obtain ⟨l, hl, hq⟩ := List.mem_flatten.mp hq
  obtain ⟨p, hp, rfl⟩ := List.mem_map.mp hl
  unfold ext at hq
  obtain ⟨x, hx, rfl⟩ := List.mem_map.mp hq
  obtain ⟨a1, a2⟩ := hits_mem.mp hx
  have := (List.getElem?_eq_some_iff.mp a2).1
  refine ⟨by show x + 1 ≤ es.length; omega, ?_⟩
  show (p.1 ++ [x]).length = i + 1
  rw [List.length_append, (h p hp).2]
  rfl
theorem flat_take {es : List Str} {u : Str} (F : List (List Nat × Nat)) (j : Nat) : (((F.take j).map (ext es u)).flatten).length ≤ (stepL es F u).length := by
  have e : F = F.take j ++ F.drop j := (List.take_append_drop j F).symm
  unfold stepL
  conv => rhs; rw [e]
  rw [List.map_append, List.flatten_append, List.length_append]
  omega
end LwB
namespace LwB
open PySem PySem.Spec PyProof.Rows L2 IqX RvT EnS TL NsT
/-! ### defs that go straight, every value known -/
/-- a test whose answer is known -/
def tKn (N : Nat) (env : List (Nat × Tr)) (b : Bool) : TT := fun σ H Q => ∃ W, Vw W H ∧ Ev N env σ W ∧ ∀ H', Same H H' → Q b H'
/-- what is left of the def ends with True -/
def tSt (N : Nat) (env : List (Nat × Tr)) : TS := fun D σ H => ∃ W, Vw W H ∧ Ev N env σ W ∧ ∀ H', Same H H' → D.rt (.bl true) H'
/-- the same beside a list of its own that is to grow -/
def tSo (N : Nat) (env : List (Nat × Tr)) (i : Nat) (ts : List Tr) : TS := fun D σ H => ∃ W H0 g vs, Vw W H ∧ Ev N env σ W ∧ σ[i]? = some (some (.ref g)) ∧ W g = none ∧ H g = some (.lst vs) ∧ vs.length ≤ 1000000 ∧ Paired (It W) ts vs ∧ Same H0 H ∧ H0 g = none ∧ ∀ H', Same H0 H' → D.rt (.bl true) H'
theorem It.non_eq {H : Hp} {v : V} (h : It H .non v) : v = .non := by
  obtain ⟨n, h⟩ := h
  exact h.non_eq
theorem It.int_eq {H : Hp} {i : Int} {v : V} (h : It H (.int i) v) : v = .int i := by
  obtain ⟨n, h⟩ := h
  exact h.int_eq
theorem It.str_eq {H : Hp} {z : Str} {v : V} (h : It H (.str z) v) : v = .str z := by
  obtain ⟨n, h⟩ := h
  exact h.str_eq
def isNonT : Tr → Bool
  | .non => true
  | _ => false
theorem dec_non {H : Hp} {T : Tr} {v : V} (h : It H T v) : decide (v = V.non) = isNonT T := by
  cases T with
  | non => rw [h.non_eq]; rfl
  | bl b => rw [h.bl_eq]; rfl
  | int i => rw [h.int_eq]; rfl
  | str z => rw [h.str_eq]; rfl
  | sq t ts =>
    obtain ⟨a, xs, e, _⟩ := h.sq_inv
    rw [e]
    rfl
section
variable {X : Cx} {N : Nat} {env : List (Nat × Tr)}
theorem le_cmp {op : CmpOp} {r : R2} {a b : Expr} {T1 T2 : Tr} {c : Bool} {pos : Pos} (ho : OpR X (compareOp op) r) (h1 : PE X a (tLe N env T1)) (h2 : PE X b (tLe N env T2)) (hr : ∀ H x y (Q : VK), It H T1 x → It H T2 y → Q (.bl c) H → r x y H Q) (hm : behindInMarks op b = false) :
    PE X (.Compare a [op] [b] pos) (tLe N env (.bl c)) :=
  PE.imp (pe_cmpR ho h1 h2 hm) fun σ H Q ⟨W, x, ev, q⟩ => ⟨W, x, ev, fun H1 v s1 i1 => ⟨vw W H H1, x.next s1, ev.mv (vw_keep x), fun H2 u s2 i2 => by
    rw [vw_trans s1 s2] at i2
    have xn := x.next (s1.trans s2)
    exact hr H2 v u Q ((i1.mv (vw_mono s2)).mv xn.sub) (i2.mv xn.sub) (q H2 _ (s1.trans s2) ⟨0, .bl⟩)⟩⟩
theorem kn_cmp {op : CmpOp} {r : R2} {a b : Expr} {T1 T2 : Tr} {c : Bool} {pos : Pos} (ho : OpR X (compareOp op) r) (h1 : PE X a (tLe N env T1)) (h2 : PE X b (tLe N env T2)) (hr : ∀ H x y (Q : VK), It H T1 x → It H T2 y → Q (.bl c) H → r x y H Q) (hm : behindInMarks op b = false) :
    PT X (.Compare a [op] [b] pos) (tKn N env c) := by
  refine ⟨fun pins s σ H Q I ⟨W, x, ev, q⟩ => (pt_cmpR ho h1 h2 hm).run pins s σ H Q I ?_⟩
  exact ⟨W, x, ev, fun H1 v s1 i1 => ⟨vw W H H1, x.next s1, ev.mv (vw_keep x), fun H2 u s2 i2 => by
    rw [vw_trans s1 s2] at i2
    have xn := x.next (s1.trans s2)
    exact hr H2 v u _ ((i1.mv (vw_mono s2)).mv xn.sub) (i2.mv xn.sub) ⟨c, rfl, q H2 (s1.trans s2)⟩⟩⟩
theorem kn_val {e : Expr} {b : Bool} (h : PE X e (tLe N env (.bl b))) (he : ∀ whole, isTrue e X.env whole = (do let v ← whole; standAt e.pos; holding [v] (truthy v)) := by intro _; rfl) : PT X e (tKn N env b) := by
  refine ⟨fun pins s σ H Q I ⟨W, x, ev, q⟩ => (pt_val h he).run pins s σ H Q I ⟨W, x, ev, fun H1 v s1 i1 => ⟨b, i1.bl_eq, q H1 s1⟩⟩⟩
theorem kn_eq {e : Expr} {a b : Bool} (h : PT X e (tKn N env a)) (q : a = b) : PT X e (tKn N env b) := q ▸ h
theorem kn_not {e : Expr} {b : Bool} {pos : Pos} (h : PT X e (tKn N env b)) : PT X (.UnaryOp .Not e pos) (tKn N env (!b)) :=
  ⟨fun pins s σ H Q I ⟨W, x, ev, q⟩ => (pt_not h).run pins s σ H Q I ⟨W, x, ev, fun H1 s1 => q H1 s1⟩⟩
theorem pt_when {p : Prop} {e : Expr} {t : TT} (h : p → PT X e t) : PT X e (fun σ H K => p ∧ t σ H K) := ⟨fun pins s σ H Q I ⟨hp, ht⟩ => (h hp).run pins s σ H Q I ht⟩
theorem pe_when {p : Prop} {e : Expr} {t : TE} (h : p → PE X e t) : PE X e (fun σ H K => p ∧ t σ H K) := ⟨fun pins s σ H Q I ⟨hp, ht⟩ => (h hp).run pins s σ H Q I ht⟩
theorem kn_and {a b : Expr} {p q : Bool} {pos : Pos} (ha : PT X a (tKn N env p)) (hb : p = true → PT X b (tKn N env q)) : PT X (.BoolOp .And [a, b] pos) (tKn N env (p && q)) :=
  ⟨fun pins s σ H Q I ⟨W, x, ev, k⟩ => (PW.pt (pw_and ha (pw_and1 (pt_when hb)))).run pins s σ H Q I ⟨W, x, ev, fun H1 s1 => by
    cases p with
    | true => exact iteT ⟨rfl, vw W H H1, x.next s1, ev.mv (vw_keep x), fun H2 s2 => k H2 (s1.trans s2)⟩
    | false => exact iteF (k H1 s1)⟩⟩
theorem kn_or {a b : Expr} {p q : Bool} {pos : Pos} (ha : PT X a (tKn N env p)) (hb : p = false → PT X b (tKn N env q)) : PT X (.BoolOp .Or [a, b] pos) (tKn N env (p || q)) :=
  ⟨fun pins s σ H Q I ⟨W, x, ev, k⟩ => (PW.pt (pw_or ha (pw_or1 (pt_when hb)))).run pins s σ H Q I ⟨W, x, ev, fun H1 s1 => by
    cases p with
    | true => exact iteT (k H1 s1)
    | false => exact iteF ⟨rfl, vw W H H1, x.next s1, ev.mv (vw_keep x), fun H2 s2 => k H2 (s1.trans s2)⟩⟩⟩
theorem le_if {c a b : Expr} {p : Bool} {T1 T2 : Tr} {pos : Pos} (hc : PT X c (tKn N env p)) (ha : p = true → PE X a (tLe N env T1)) (hb : p = false → PE X b (tLe N env T2)) : PE X (.IfExp c a b pos) (tLe N env (if p = true then T1 else T2)) :=
  PE.imp (pe_ifExp hc (pe_when ha) (pe_when hb)) fun σ H Q ⟨W, x, ev, k⟩ => ⟨W, x, ev, fun H1 s1 => by
    cases p with
    | true => exact iteT ⟨rfl, vw W H H1, x.next s1, ev.mv (vw_keep x), fun H2 v s2 i2 => k H2 v (s1.trans s2) (by rw [vw_trans s1 s2] at i2; exact i2)⟩
    | false => exact iteF ⟨rfl, vw W H H1, x.next s1, ev.mv (vw_keep x), fun H2 v s2 i2 => k H2 v (s1.trans s2) (by rw [vw_trans s1 s2] at i2; exact i2)⟩⟩
theorem le_and {a b : Expr} {p q : Bool} {pos : Pos} (ha : PE X a (tLe N env (.bl p))) (hb : p = true → PE X b (tLe N env (.bl q))) : PE X (.BoolOp .And [a, b] pos) (tLe N env (.bl (p && q))) :=
  PE.imp (pe_and ha (pe_one (pe_when hb))) fun σ H Q ⟨W, x, ev, k⟩ => ⟨W, x, ev, fun H1 v s1 i1 => ⟨p, i1.bl_eq, by
    cases p with
    | true => exact iteT ⟨rfl, vw W H H1, x.next s1, ev.mv (vw_keep x), fun H2 u s2 i2 => k H2 u (s1.trans s2) (by rw [vw_trans s1 s2] at i2; exact i2)⟩
    | false => exact iteF (k H1 _ s1 ⟨0, .bl⟩)⟩⟩
/-! ### the tests themselves -/
theorem r_isN {T : Tr} : ∀ H x y (Q : VK), It H T x → It H .non y → Q (.bl (isNonT T)) H → (y = .non ∧ Q (.bl (decide (x = .non))) H) := fun H x y Q h1 h2 q => ⟨h2.non_eq, by rw [dec_non h1]; exact q⟩
theorem r_eqI {i j : Int} : ∀ H x y (Q : VK), It H (.int i) x → It H (.int j) y → Q (.bl (decide (i = j))) H → rEq x y H Q := fun H x y Q h1 h2 q => by
  rw [h1.int_eq, h2.int_eq]
  refine ⟨rfl, ?_⟩
  have e : decide (V.int i = V.int j) = decide (i = j) := decide_eq_decide.mpr ⟨fun h => V.int.inj h, fun h => by rw [h]⟩
  rw [e]
  exact q
theorem r_neI {i j : Int} : ∀ H x y (Q : VK), It H (.int i) x → It H (.int j) y → Q (.bl (!decide (i = j))) H → rNe x y H Q := fun H x y Q h1 h2 q => by
  rw [h1.int_eq, h2.int_eq]
  refine ⟨rfl, ?_⟩
  have e : decide (V.int i = V.int j) = decide (i = j) := decide_eq_decide.mpr ⟨fun h => V.int.inj h, fun h => by rw [h]⟩
  rw [e]
  exact q
theorem r_neB {a b : Bool} : ∀ H x y (Q : VK), It H (.bl a) x → It H (.bl b) y → Q (.bl (!decide (a = b))) H → rNe x y H Q := fun H x y Q h1 h2 q => by
  rw [h1.bl_eq, h2.bl_eq]
  refine ⟨rfl, ?_⟩
  have e : decide (V.bl a = V.bl b) = decide (a = b) := decide_eq_decide.mpr ⟨fun h => V.bl.inj h, fun h => by rw [h]⟩
  rw [e]
  exact q
theorem r_gt {i j : Int} : ∀ H x y (Q : VK), It H (.int i) x → It H (.int j) y → Q (.bl (decide (j < i))) H → (rI0 fun i j => .bl (decide (j < i))) x y H Q := fun H x y Q h1 h2 q => ⟨i, j, h1.int_eq, h2.int_eq, q⟩
theorem r_lt {i j : Int} : ∀ H x y (Q : VK), It H (.int i) x → It H (.int j) y → Q (.bl (decide (i < j))) H → (rI0 fun i j => .bl (decide (i < j))) x y H Q := fun H x y Q h1 h2 q => ⟨i, j, h1.int_eq, h2.int_eq, q⟩
theorem r_neE {K : PySem.W.Frag} {t : Bool} {ts : List Tr} : ∀ H x y (Q : VK), It H (.sq t ts) x → It H (.sq t []) y → Q (.bl (!ts.isEmpty)) H → rNeE K x y H Q := fun H x y Q h1 h2 q => by
  obtain ⟨a, xs, rfl, h3, _, p1⟩ := h1.sq_inv
  obtain ⟨b, ys, rfl, h4, _, p2⟩ := h2.sq_inv
  cases p2
  exact ⟨t, a, b, xs, rfl, rfl, h3.1.B, h4.1.B, by rw [paired_empty p1]; exact q⟩
theorem r_eqE {K : PySem.W.Frag} {t : Bool} {ts : List Tr} : ∀ H x y (Q : VK), It H (.sq t ts) x → It H (.sq t []) y → Q (.bl ts.isEmpty) H → rEqE K x y H Q := fun H x y Q h1 h2 q => by
  obtain ⟨a, xs, rfl, h3, _, p1⟩ := h1.sq_inv
  obtain ⟨b, ys, rfl, h4, _, p2⟩ := h2.sq_inv
  cases p2
  exact ⟨t, a, b, xs, rfl, rfl, h3.1.B, h4.1.B, by rw [paired_empty p1]; exact q⟩
theorem kall_nats {H : Hp} : ∀ w : List Nat, KAll H (w.map fun n : Nat => NestedKey.num (n : Int)) (nats w)
  | [] => .nil
  | z :: w => .cons (.num _) (kall_nats w)
theorem nat_row {H : Hp} : ∀ {ns : List Nat} {xs : List V}, Paired (It H) (ns.map fun n : Nat => Tr.int (n : Int)) xs → xs = nats ns
  | [], _, .nil => rfl
  | n :: ns, _, .cons r t => by rw [r.int_eq, nat_row t]; rfl
theorem nat_of_it {H : Hp} {ns : List Nat} {v : V} (h : It H (natT ns) v) : NatAt H ns v := by
  obtain ⟨a, xs, rfl, hs, hl, p⟩ := It.sq_inv (show It H (.sq false (ns.map fun n : Nat => Tr.int (n : Int))) v from h)
  have e := nat_row p
  subst e
  refine ⟨a, rfl, hs.1, ?_⟩
  unfold nats at hl
  rw [List.length_map] at hl
  exact hl
theorem beq_nums : ∀ u w : List Nat, NestedKey.beqAll (u.map fun n : Nat => NestedKey.num (n : Int)) (w.map fun n : Nat => NestedKey.num (n : Int)) = decide (u = w)
  | [], [] => rfl
  | [], _ :: _ => rfl
  | _ :: _, [] => rfl
  | a :: u, b :: w => by
    show (decide ((a : Int) = (b : Int)) && NestedKey.beqAll (u.map fun n : Nat => NestedKey.num (n : Int)) (w.map fun n : Nat => NestedKey.num (n : Int))) = _
    rw [beq_nums u w, Bool.eq_iff_iff]
    simp
    omega
theorem depth_nums : ∀ w : List Nat, NestedKey.depthAll (w.map fun n : Nat => NestedKey.num (n : Int)) = 0
  | [] => rfl
  | z :: w => by
    show max 0 (NestedKey.depthAll (w.map fun n : Nat => NestedKey.num (n : Int))) = 0
    rw [depth_nums w]
    rfl
theorem r_neN {m n : List Nat} : ∀ H x y (Q : VK), It H (natT m) x → It H (natT n) y → Q (.bl (!decide (m = n))) H → rNeK x y H Q := fun H x y Q h1 h2 q => by
  obtain ⟨a, rfl, ha, _⟩ := nat_of_it h1
  obtain ⟨b, rfl, hb, _⟩ := nat_of_it h2
  exact ⟨_, _, a, b, rfl, rfl, .tup ha (kall_nats m), .tup hb (kall_nats n), by rw [depth_nums]; decide, by rw [beq_nums]; exact q⟩
/-- len(xs) -/
theorem le_len {e : Expr} {t : Bool} {ts : List Tr} {p pos : Pos} (hm : X.mg "len" = none) (he : PE X e (tLe N env (.sq t ts))) (hg : Gl X "len" := by rfl) (hs : starEach [e] X.env = (false, eval e X.env) :: starEach [] X.env := by rfl) (hs0 : starEach (e :: []) X.env = (false, eval e X.env) :: starEach [] X.env := by rfl) :
    PE X (.Call (.Name "len" p) [e] [] pos) (tLe N env (.int (ts.length : Nat))) :=
  PE.imp (pe_len hm (pa_cons (hs := hs0) he pa_nil) hg hs) fun σ H Q ⟨W, x, ev, q⟩ => ⟨W, x, ev, fun H1 v s1 i1 => by
    obtain ⟨a, xs, rfl, ha, la, pa⟩ := i1.sq_inv
    have hq : Sq t H1 a xs := ha.1.mv fun o e => (x.next s1).sub a o e
    exact ⟨t, a, xs, rfl, hq, q H1 _ s1 (by rw [paired_len pa]; exact ⟨0, .int⟩)⟩⟩
/-- list(xs) -/
theorem lf_list {e : Expr} {t : Bool} {ts : List Tr} {p pos : Pos} (hm : X.mg "list" = none) (he : PE X e (tLe N env (.sq t ts))) (hg : Gl X "list" := by rfl) (hs : starEach [e] X.env = (false, eval e X.env) :: starEach [] X.env := by rfl) :
    PE X (.Call (.Name "list" p) [e] [] pos) (tLf N env ts) :=
  PE.imp (pe_listQ hm (pa_cons (hs := hs) he pa_nil) hg hs) fun σ H Q ⟨W, x, ev, q⟩ => ⟨W, x, ev, fun H1 v s1 i1 => by
    obtain ⟨a, xs, rfl, ha, la, pa⟩ := i1.sq_inv
    have hq : Sq t H1 a xs := ha.1.mv fun o e => (x.next s1).sub a o e
    refine ⟨t, a, xs, rfl, hq, fun H2 g no => q H2 g xs (s1.trans no.1) (s1.free no.2.1) no.2.2 la (paired_imp pa fun _ _ r => r.mv fun b o e => ?_)⟩
    have hbg : b ≠ g := by
      rintro rfl
      have h1 := no.2.1
      rw [(x.next s1).sub _ _ e] at h1
      cases h1
    rw [rm_ne hbg]
    exact vw_mono no.1 b o e⟩
/-- f(..): what comes is a new list of trees without lists -/
theorem le_cL {x : Str} {ps : List Str} {k : Nat} {sp : Sp} {e : Expr} {es : List Expr} {Ts ts : List Tr} {p pos : Pos} (O : Ok X.prog X.w X.K X.mg X.base k x ps sp) (hr : Room k X.A) (ha : PA X (e :: es) (tLes N env Ts)) (hR : Tr.nolAll ts = true)
    (hsp : ∀ H vs (Q : VK), Paired (It H) Ts vs → (∀ H' g ys, Same H H' → H g = none → H' g = some (.lst ys) → ys.length ≤ 1000000 → Paired (It H') ts ys → Q (.ref g) H') → sp vs H Q E0) (hg : Gl X x := by rfl)
    (hdb : (x == ("__debug__" : Str)) = false := by decide) (he : starEach (e :: es) X.env = (false, eval e X.env) :: starEach es X.env := by rfl) (hpl : (backTo pos (starEach es X.env)).any (·.1) = false := by rfl) :
    PE X (.Call (.Name x p) (e :: es) [] pos) (tLe N env (.sq true ts)) :=
  PE.imp (pe_c O hr ha hg hdb he hpl) fun σ H Q ⟨W, x, ev, q⟩ => ⟨W, x, ev, fun H1 vs s1 i1 => by
    show sp (vs ++ []) H1 Q E0
    rw [List.append_nil]
    have xn := x.next s1
    refine hsp H1 vs Q (paired_imp i1 fun _ _ r => r.mv xn.sub) fun H' g ys s ng eg hl pr => q H' _ (s1.trans s) ?_
    rw [← vw_trans s1 s]
    exact It.sq (.lst (by rw [vw_new ng]; exact eg)) hl (paired_mem pr fun a b ha r => r.nol (xn.next s) (nol_mem hR ha))⟩
/-- min(xs): the first is the least -/
theorem le_min {e : Expr} {n : List Nat} {ns : List (List Nat)} {p pos : Pos} (hc : X.calm = true) (hu : X.A.units + 64 < cLine) (hm : X.mg "min" = none) (he : PE X e (tLe N env (.sq true ((n :: ns).map natT)))) (hle : ∀ m ∈ ns, Paired (fun a b : Nat => a ≤ b) n m) (hn : (natT n).nol = true)
    (hg : Gl X "min" := by rfl) (hs : starEach [e] X.env = (false, eval e X.env) :: starEach [] X.env := by rfl) : PE X (.Call (.Name "min" p) [e] [] pos) (tLe N env (natT n)) :=
  PE.imp (pe_callB (he := hs) (cr_minT hc hu) hg hm (by decide +kernel) (pa_cons (hs := hs) he pa_nil)) fun σ H Q ⟨W, x, ev, q⟩ => ⟨W, x, ev, fun H1 v s1 i1 => by
    obtain ⟨a, xs, rfl, ha, la, pa⟩ := i1.sq_inv
    have xn := x.next s1
    have hq : Sq true H1 a xs := ha.1.mv fun o e => xn.sub a o e
    exact ⟨a, xs, n, ns, rfl, hq, paired_unmap (paired_imp pa fun _ _ r => r.mv xn.sub) |> fun p => paired_imp p fun _ _ r => nat_of_it r, hle, fun v r => q H1 v s1 (It.nol xn hn ⟨1, r.is⟩)⟩⟩
/-! ### statements -/
theorem st_set {i : Nat} {x : Str} {e : Expr} {T : Tr} {rest : List Stmt} {pos' pos : Pos} {env' : List (Nat × Tr)} (hN : X.N.Nodup) (hi : X.N[i]? = some x) (hx : Loc X.env.scope x) (he : PE X e (tLe N env T)) (hrest : PSs X rest (tSt N ((i, T) :: env'))) (hiN : i < N) (hsub : ∀ p ∈ env', p ∈ env) (hne : ∀ p ∈ env', p.1 ≠ i)
    (hs : swapsWith e (some (.Name x pos')) pos.line X.env = pure false := by rfl) (hf : X.fn x = true ∨ X.env.scope.names.lookup x = some .local := by first | exact .inl rfl | exact .inr rfl | assumption) : PSs X (.Assign [.Name x pos'] e pos :: rest) (tSt N env) :=
  PSs.imp (pss_cons (ps_set (i := i) hN hi hx he hs hf) hrest) fun D σ H ⟨W, x, ev, q⟩ => ⟨W, x, ev, fun H1 v s1 i1 => ⟨vw W H H1, x.next s1, ((ev.sub hsub).mv (vw_keep x)).set hiN hne i1, fun H' s => q H' (s1.trans s)⟩⟩
theorem st_par {i j : Nat} {x y : Str} {a b : Expr} {T1 T2 : Tr} {rest : List Stmt} {px py pt pos : Pos} {kt k2 pt2} {env' : List (Nat × Tr)} (hc : X.calm = true) (hN : X.N.Nodup) (hi : X.N[i]? = some x) (hj : X.N[j]? = some y) (hij : i ≠ j) (hx : X.env.scope.names.lookup x = some .local) (hy : X.env.scope.names.lookup y = some .local)
    (ha : PA X [a, b] (tLes N env [T1, T2])) (hw : swappedStores [.Tuple [.Name x px, .Name y py] kt pt] (.Tuple [a, b] k2 pt2) X.env = pure (some [x, y])) (hrest : PSs X rest (tSt N ((j, T2) :: (i, T1) :: env'))) (hiN : i < N) (hjN : j < N) (hsub : ∀ p ∈ env', p ∈ env) (hni : ∀ p ∈ env', p.1 ≠ i) (hnj : ∀ p ∈ env', p.1 ≠ j)
    (hs : swapsWithSole [.Tuple [.Name x px, .Name y py] kt pt] (.Tuple [a, b] k2 pt2) pos.line X.env = pure false := by rfl) : PSs X (.Assign [.Tuple [.Name x px, .Name y py] kt pt] (.Tuple [a, b] k2 pt2) pos :: rest) (tSt N env) :=
  PSs.imp (pss_cons (ps_par (i := i) (j := j) hc hN hi hj hij hx hy ha hw hs) hrest) fun D σ H ⟨W, x, ev, q⟩ => ⟨W, x, ev, fun H1 vs s1 i1 => by
    cases i1 with
    | cons r1 i1 => cases i1 with
      | cons r2 i1 =>
        cases i1
        refine ⟨_, _, rfl, vw W H H1, x.next s1, ((((ev.sub hsub).mv (vw_keep x)).set hiN hni r1).set hjN ?_ r2), fun H' s => q H' (s1.trans s)⟩
        intro p hp
        rcases List.mem_cons.mp hp with rfl | hp
        · exact hij
        · exact hnj p hp⟩
theorem st_if {c : Expr} {body rest : List Stmt} {tb : TS} {pos : Pos} (hc : PT X c (tKn N env false)) (hb : PSs X body tb) (hrest : PSs X rest (tSt N env)) : PSs X (.If c body [] pos :: rest) (tSt N env) :=
  PSs.imp (pss_cons (ps_if hc hb pss_nil) hrest) fun D σ H ⟨W, x, ev, q⟩ => ⟨W, x, ev, fun H1 s1 => iteF ⟨vw W H H1, x.next s1, ev.mv (vw_keep x), fun H' s => q H' (s1.trans s)⟩⟩
theorem st_ret {e : Expr} {pos : Pos} (he : PE X e (tLe N env (.bl true))) : PSs X [.Return (some e) pos] (tSt N env) :=
  PSs.imp (pss_one (ps_ret he)) fun D σ H ⟨W, x, ev, q⟩ => ⟨W, x, ev, fun H1 v s1 i1 => by
    rw [i1.bl_eq]
    exact q H1 s1⟩
/-- x = a new list that is to grow -/
theorem so_set {i : Nat} {x : Str} {e : Expr} {ts : List Tr} {rest : List Stmt} {pos' pos : Pos} {env' : List (Nat × Tr)} (hN : X.N.Nodup) (hi : X.N[i]? = some x) (hx : Loc X.env.scope x) (he : PE X e (tLf N env ts)) (hrest : PSs X rest (tSo N env' i ts)) (hiN : i < N) (hsub : ∀ p ∈ env', p ∈ env) (hne : ∀ p ∈ env', p.1 ≠ i)
    (hs : swapsWith e (some (.Name x pos')) pos.line X.env = pure false := by rfl) (hf : X.fn x = true ∨ X.env.scope.names.lookup x = some .local := by first | exact .inl rfl | exact .inr rfl | assumption) : PSs X (.Assign [.Name x pos'] e pos :: rest) (tSt N env) :=
  PSs.imp (pss_cons (ps_set (i := i) hN hi hx he hs hf) hrest) fun D σ H ⟨W, x, ev, q⟩ => ⟨W, x, ev, fun H1 g vs s1 ng eg hl p => ⟨rm (vw W H H1) g, H, g, vs, (x.next s1).rm eg, ((ev.sub hsub).mv (keep_rm x ng)).put hne, by
    show (σ.set i (some (.ref g)))[i]? = _
    rw [List.getElem?_set_self (by rw [ev.1]; exact hiN)], rm_self, eg, hl, p, s1, ng, q⟩⟩
/-- another name is set -/
theorem so_step {i j : Nat} {x : Str} {e : Expr} {T : Tr} {ts : List Tr} {rest : List Stmt} {pos' pos : Pos} {env' : List (Nat × Tr)} (hN : X.N.Nodup) (hi : X.N[j]? = some x) (hx : Loc X.env.scope x) (he : PE X e (tLe N env T)) (hrest : PSs X rest (tSo N ((j, T) :: env') i ts)) (hjN : j < N) (hsub : ∀ p ∈ env', p ∈ env) (hne : ∀ p ∈ env', p.1 ≠ j) (hij : i ≠ j)
    (hs : swapsWith e (some (.Name x pos')) pos.line X.env = pure false := by rfl) (hf : X.fn x = true ∨ X.env.scope.names.lookup x = some .local := by first | exact .inl rfl | exact .inr rfl | assumption) : PSs X (.Assign [.Name x pos'] e pos :: rest) (tSo N env i ts) :=
  PSs.imp (pss_cons (ps_set (i := j) hN hi hx he hs hf) hrest) fun D σ H ⟨W, H0, g, vs, x, ev, eg, n, hg, hl, p, sm, n0, q⟩ => ⟨W, x, ev, fun H1 v s1 i1 => ⟨vw W H H1, H0, g, vs, x.next s1, ((ev.sub hsub).mv (vw_keep x)).set hjN hne i1, by
    show (σ.set j (some v))[i]? = _
    rw [List.getElem?_set_ne fun q => hij q.symm]
    exact eg, by rw [vw_old hg]; exact n, s1 _ _ hg, hl, paired_imp p fun _ _ r => r.mv (vw_keep x), sm.trans s1, n0, q⟩⟩
/-- xs.append(e) -/
theorem so_app {i : Nat} {o e : Expr} {T : Tr} {ts : List Tr} {rest : List Stmt} {apos cpos pos : Pos} (ho : PE X o (tVar i)) (he : PE X e (tLe N env T)) (hlt : ts.length ≤ 900000) (hrest : PSs X rest (tSo N env i (ts ++ [T])))
    (hse : starEach [e] X.env = (false, eval e X.env) :: starEach [] X.env := by rfl) (hst : PS X (.Expr (.Call (.Attribute o "append" apos) [e] [] cpos) pos) (tDrop (tBM X.K "list" rAppend (tVar i) (tCons (tLe N env T) tNil)))) : PSs X (.Expr (.Call (.Attribute o "append" apos) [e] [] cpos) pos :: rest) (tSo N env i ts) :=
  PSs.imp (pss_cons hst hrest) fun D σ H ⟨W, H0, g, vs, x, ev, eg, n, hg, hl, p, sm, n0, q⟩ => ⟨_, eg, .inl ⟨rfl, _, SqL.of hg⟩, W, x, ev, fun H1 v s1 i1 => by
    have hg1 := s1 _ _ hg
    have nv : vw W H H1 g = none := by rw [vw_old hg]; exact n
    have hvl := paired_len p
    refine ⟨g, vs, v, rfl, rfl, hg1, Nat.lt_of_lt_of_le (by omega : vs.length < 1000000) (by decide), ?_⟩
    exact ⟨vw W H H1, H0, g, vs ++ [v], (x.next s1).grown hg1 nv, ev.mv (vw_keep x), eg, nv, upd_same, by rw [List.length_append, List.length_singleton]; omega, paired_snoc (paired_imp p fun _ _ r => r.mv (vw_keep x)) i1, Same.young (sm.trans s1) n0, n0, q⟩⟩
/-- it grows no more -/
theorem so_end {i : Nat} {ts : List Tr} {rest : List Stmt} (hrest : PSs X rest (tSt N ((i, .sq true ts) :: env))) : PSs X rest (tSo N env i ts) :=
  PSs.imp hrest fun D σ H ⟨W, H0, g, vs, x, ev, eg, n, hg, hl, p, sm, n0, q⟩ => ⟨add W H g, x.add g, (ev.mv (add_sub x (g := g))).cons eg (add_it x hg hl p), fun H' s => q H' (sm.trans s)⟩
end
theorem natT_nol (ns : List Nat) : (natT ns).nol = true := by
  show (!false && Tr.nolAll (ns.map fun n : Nat => Tr.int (n : Int))) = true
  induction ns with
  | nil => rfl
  | cons z w ih => exact ih
theorem placesT_nol (ws es : List Str) : (placesT ws es).nol = true := by
  unfold placesT
  split
  · exact natT_nol _
  · rfl
theorem nats_nolAll : ∀ l : List (List Nat), Tr.nolAll (l.map natT) = true
  | [] => rfl
  | z :: l => by
    show ((natT z).nol && Tr.nolAll (l.map natT)) = true
    rw [natT_nol, nats_nolAll l]
    rfl
theorem sx_of_it {H : Hp} {t : Bool} {w : List Str} {v : V} (h : It H (trs t w) v) : ∃ p, v = .ref p ∧ Sq t H p (w.map V.str) ∧ w.length ≤ 1000000 := by
  obtain ⟨a, xs, e, hs, hl, p⟩ := It.sq_inv (show It H (.sq t (w.map Tr.str)) v from h)
  have key : ∀ {w : List Str} {xs : List V}, Paired (It H) (w.map Tr.str) xs → xs = w.map V.str := by
    intro w
    induction w with
    | nil => intro xs p; cases p; rfl
    | cons z w ih =>
      intro xs p
      cases p with
      | cons r t => rw [r.str_eq, ih t]; rfl
  have q := key p
  subst q
  rw [List.length_map] at hl
  exact ⟨a, e, hs.1, hl⟩
/-! ### the words' functions on known trees -/
section
variable {t u : Bool} {ws es : List Str}
theorem two_its {H : Hp} {T U : Tr} {vs : List V} (p : Paired (It H) [T, U] vs) : ∃ a b, vs = [a, b] ∧ It H T a ∧ It H U b := by
  cases p with
  | cons r1 p => cases p with
    | cons r2 p =>
      cases p
      exact ⟨_, _, rfl, r1, r2⟩
theorem kp_part : ∀ H vs (Q : VK), Paired (It H) [trs t ws, trs u es] vs → (∀ H' v, Same H H' → It H' (.bl (isPart ws es)) v → Q v H') → spPart vs H Q E0 := by
  intro H vs Q p q
  obtain ⟨x, y, rfl, i1, i2⟩ := two_its p
  obtain ⟨a, rfl, h1, _⟩ := sx_of_it i1
  obtain ⟨b, rfl, h2, _⟩ := sx_of_it i2
  exact ⟨t, u, a, b, ws, es, rfl, h1, h2, fun H' s => q H' _ s ⟨0, .bl⟩⟩
theorem kp_places (hw : ws.length ≤ 1000) : ∀ H vs (Q : VK), Paired (It H) [trs t ws, trs u es] vs → (∀ H' v, Same H H' → It H' (placesT ws es) v → Q v H') → spPlaces vs H Q E0 := by
  intro H vs Q p q
  obtain ⟨x, y, rfl, i1, i2⟩ := two_its p
  obtain ⟨a, rfl, h1, _⟩ := sx_of_it i1
  obtain ⟨b, rfl, h2, _⟩ := sx_of_it i2
  exact ⟨t, u, a, b, ws, es, rfl, h1, h2, hw, fun H' v s i => q H' _ s ⟨1, i⟩⟩
theorem kp_ways (hw : ws.length ≤ 1000) : ∀ H vs (Q : VK), Paired (It H) [trs t ws, trs u es] vs → (∀ H' v, Same H H' → It H' (.int (LwB.cnt ws es : Nat)) v → Q v H') → spWays vs H Q E0 := by
  intro H vs Q p q
  obtain ⟨x, y, rfl, i1, i2⟩ := two_its p
  obtain ⟨a, rfl, h1, _⟩ := sx_of_it i1
  obtain ⟨b, rfl, h2, _⟩ := sx_of_it i2
  exact ⟨t, u, a, b, ws, es, rfl, h1, h2, hw, fun H' s => q H' _ s ⟨0, .int⟩⟩
theorem kp_counted (hw : ws.length ≤ 1000) : ∀ H vs (Q : VK), Paired (It H) [trs false ws, trs false es] vs → (∀ H' v, Same H H' → It H' (.int (LwB.cnt ws es : Nat)) v → Q v H') → spCounted vs H Q E0 := by
  intro H vs Q p q
  obtain ⟨x, y, rfl, i1, i2⟩ := two_its p
  obtain ⟨a, rfl, h1, _⟩ := sx_of_it i1
  obtain ⟨b, rfl, h2, _⟩ := sx_of_it i2
  exact ⟨a, b, ws, es, rfl, h1, h2, hw, fun H' s => q H' _ s ⟨0, .int⟩⟩
theorem kp_leastS (hw : ws.length ≤ 1000) (he : es.length ≤ 1000) : ∀ H vs (Q : VK), Paired (It H) [trs false ws, trs false es] vs → (∀ H' v, Same H H' → It H' (placesT ws es) v → Q v H') → spLeastS vs H Q E0 := by
  intro H vs Q p q
  obtain ⟨x, y, rfl, i1, i2⟩ := two_its p
  obtain ⟨a, rfl, h1, _⟩ := sx_of_it i1
  obtain ⟨b, rfl, h2, _⟩ := sx_of_it i2
  exact ⟨a, b, ws, es, rfl, h1, h2, hw, he, fun H' v s i => q H' _ s ⟨1, i⟩⟩
theorem kp_choices (hw : ws.length ≤ 1000) (he : es.length ≤ 8) : ∀ H vs (Q : VK), Paired (It H) [trs false ws, trs false es] vs → (∀ H' g ys, Same H H' → H g = none → H' g = some (.lst ys) → ys.length ≤ 1000000 → Paired (It H') (((ch es ws).map (·.1)).map natT) ys → Q (.ref g) H') → spChoices vs H Q E0 := by
  intro H vs Q p q
  obtain ⟨x, y, rfl, i1, i2⟩ := two_its p
  obtain ⟨a, rfl, h1, _⟩ := sx_of_it i1
  obtain ⟨b, rfl, h2, _⟩ := sx_of_it i2
  refine ⟨a, b, ws, es, rfl, h1, h2, hw, he, fun H' g ys s ng eg pr => q H' g ys s ng eg ?_ (paired_map (paired_imp pr fun _ _ r => ⟨1, r.is⟩))⟩
  have h5 := paired_len pr
  have h6 := ch_small (ws := ws) he
  rw [List.length_map] at h5
  omega
/-- both are the same trees -/
theorem kp_same {n : Nat} {T U : Tr} (h : T = U) (hd : T.dep ≤ n) : ∀ H vs (Q : VK), Paired (It H) [T, U] vs → (∀ H' v, Same H H' → It H' (.bl true) v → Q v H') → spSame (n + 1) vs H Q E0 := by
  subst h
  intro H vs Q p q
  obtain ⟨x, y, rfl, i1, i2⟩ := two_its p
  exact ⟨_, _, T, rfl, i1.to hd, i2.to hd, fun H' s => q H' _ s ⟨0, .bl⟩⟩
end
def spWordR : Sp := fun vs H Q _ => ∃ (a c : Addr) (ws es : List Str), vs = [.ref a, .ref c] ∧ Sq false H a (ws.map V.str) ∧ Sq false H c (es.map V.str) ∧ ws.length ≤ 1000 ∧ es.length ≤ 1000 ∧ ∀ H', Same H H' → Q (.bl true) H'
theorem dep_strs : ∀ w : List Str, Tr.depAll (w.map Tr.str) = 0
  | [] => rfl
  | z :: w => by
    show max 0 (Tr.depAll (w.map Tr.str)) = 0
    rw [dep_strs w]
    rfl
theorem trs_dep (t : Bool) (w : List Str) : (trs t w).dep = 1 := by
  show Tr.depAll (w.map Tr.str) + 1 = 1
  rw [dep_strs]
theorem natT_dep (w : List Nat) : (natT w).dep = 1 := by
  show Tr.depAll (w.map fun n : Nat => Tr.int (n : Int)) + 1 = 1
  have : Tr.depAll (w.map fun n : Nat => Tr.int (n : Int)) = 0 := by
    induction w with
    | nil => rfl
    | cons z w ih =>
      show max 0 (Tr.depAll (w.map fun n : Nat => Tr.int (n : Int))) = 0
      rw [ih]
      rfl
  rw [this]
theorem placesT_dep (ws es : List Str) : (placesT ws es).dep ≤ 1 := by
  unfold placesT
  split
  · rw [natT_dep]
    exact Nat.le_refl _
  · exact Nat.zero_le _
end LwB
namespace LwB
open PySem PySem.Spec PyProof.Rows L2 IqX RvT EnS TL NsT
/-! ### ways, counted from the end -/
def stepV (e : Str) : List Str → List Nat → List Nat
  | w :: ws, x :: vs => (x + (if e = w then vs.headD 0 else 0)) :: stepV e ws vs
  | _, vs => vs
def iniV : List Str → List Nat
  | [] => [1]
  | _ :: ws => 0 :: iniV ws
def cntV (ws : List Str) : List Str → List Nat
  | [] => iniV ws
  | e :: es => stepV e ws (cntV ws es)
def sufV : List Str → List Str → List Nat
  | [], _ => [1]
  | w :: ws, es => LwB.cnt (w :: ws) es :: sufV ws es
theorem sufV_head (ws es : List Str) : (sufV ws es).headD 0 = LwB.cnt ws es := by
  cases ws with
  | nil => rw [LwB.cnt_nil]; rfl
  | cons w ws => rfl
theorem sufV_end : ∀ ws : List Str, sufV ws [] = iniV ws
  | [] => rfl
  | w :: ws => by
    show 0 :: sufV ws [] = _
    rw [sufV_end ws]
    rfl
theorem sufV_step (e : Str) (es : List Str) : ∀ ws : List Str, stepV e ws (sufV ws es) = sufV ws (e :: es)
  | [] => rfl
  | w :: ws => by
    show (LwB.cnt (w :: ws) es + (if e = w then (sufV ws es).headD 0 else 0)) :: stepV e ws (sufV ws es) = ((if e = w then LwB.cnt ws es else 0) + LwB.cnt (w :: ws) es) :: sufV ws (e :: es)
    rw [sufV_step e es ws, sufV_head, Nat.add_comm]
theorem cntV_eq (ws : List Str) : ∀ es : List Str, cntV ws es = sufV ws es
  | [] => (sufV_end ws).symm
  | e :: es => by
    show stepV e ws (cntV ws es) = _
    rw [cntV_eq ws es, sufV_step]
theorem cnt_cntV (ws es : List Str) : LwB.cnt ws es = (cntV ws es).headD 0 := by rw [cntV_eq, sufV_head]
/-! ### f(a=..): one parameter, by its name -/
def swap1 {α : Type} : List α → List α → List α
  | [], [x] => [x]
  | _, _ => []
def Kw1 (x : Str) (st : Stmt) (ps : List Str) : Prop := ∀ (kV doc pm : Value) (an : Option Addr) (cdv ct u : Value), bindArgs (PySem.W.fnOf x x (defArgs st) (defBody st) (defScope st) .none kV doc pm an cdv ct) ⟨[], ps.zip [u]⟩ = pure (ps.zip [u])
section
variable {X : Cx} {k : Nat} {x : Str} {ps : List Str} {sp : Sp} {kws : List Keyword} {tk : TA} {p pos : Pos} {st : Stmt} {N : Nat} {env : List (Nat × Tr)}
theorem pe_kw1 (O : Ok X.prog X.w X.K X.mg X.base k x ps sp) (D : Df X.K X.mg x st ps) (kb : Kw1 x st ps) (hr : Room k X.A) (hkw : PK X kws tk) (hk2 : ps.length = 1 := by rfl) (hg : Gl X x := by rfl)
    (hall : (backToKw pos (keywordEach kws X.env)).all (·.1.isSome) = true := by rfl) (hks : (backToKw pos (keywordEach kws X.env)).filterMap (·.1) = ps := by rfl) (hdb : (x == ("__debug__" : Str)) = false := by decide)
    (hpl : ((backTo pos (starEach [] X.env)).any (·.1) || (backToKw pos (keywordEach kws X.env)).any (·.1.isNone)) = false := by rfl) :
    PE X (.Call (.Name x p) [] kws pos) (fun σ H Q => tk σ H fun zs H1 => ∃ u : V, zs = [u] ∧ sp [u] H1 Q E0) := by
  obtain ⟨f, fd, F, g, kp, b, oc, od, osl, lk⟩ := O.ex
  obtain ⟨f', fd', F', g', b'⟩ := D.ex
  rw [g] at g'
  cases g'
  obtain ⟨oc2, od2, kV, doc, pm, an, cdv, ct, osl2, efd, lk2, _⟩ := F'.ex
  rw [lk] at lk2
  cases lk2
  have K1 : KBn X.K fd ps 0 ps swap1 swap1 := by
    refine ⟨fun s us ws _ l1 l2 => ?_, fun {vs us zs ws} r1 r2 => ?_⟩
    · match us, ws, l1, l2.trans hk2 with
      | [], [u], _, _ =>
        rw [efd]
        exact .of_eq (kb kV doc pm an cdv ct u)
    · cases r1 with
      | nil =>
        cases r2 with
        | nil => exact .nil
        | cons a r2 =>
          cases r2 with
          | nil => exact .cons a .nil
          | cons b r2 => exact .nil
      | cons a r1 => cases r2 <;> exact .nil
  refine ⟨fun pins s σ H Q I h => ?_⟩
  refine wpAny_Call_Name_kw (ld_glob I hg g ?_ hdb)
  refine PySem.W.callWith_KW0 (h₀ := X.base) I.ok.mod.kin kp hall ?_ hpl
  refine thn (hkw.run pos pins s σ H _ I h) fun ws s2 ⟨zs, H2, I2, rz, u, ez, q2⟩ => ⟨I2.kIn, ?_⟩
  subst ez
  rw [hks]
  exact run_fnN (us := []) (vs := []) F hr K1 pass0 I2 .nil rz rfl hk2.symm q2
theorem le_kw1 {T R : Tr} (O : Ok X.prog X.w X.K X.mg X.base k x ps sp) (D : Df X.K X.mg x st ps) (kb : Kw1 x st ps) (hr : Room k X.A) (hkw : PK X kws (tLes N env [T])) (hR : R.nol = true)
    (hsp : ∀ H vs (Q : VK), Paired (It H) [T] vs → (∀ H' v, Same H H' → It H' R v → Q v H') → sp vs H Q E0) (hk2 : ps.length = 1 := by rfl) (hg : Gl X x := by rfl)
    (hall : (backToKw pos (keywordEach kws X.env)).all (·.1.isSome) = true := by rfl) (hks : (backToKw pos (keywordEach kws X.env)).filterMap (·.1) = ps := by rfl) (hdb : (x == ("__debug__" : Str)) = false := by decide)
    (hpl : ((backTo pos (starEach [] X.env)).any (·.1) || (backToKw pos (keywordEach kws X.env)).any (·.1.isNone)) = false := by rfl) :
    PE X (.Call (.Name x p) [] kws pos) (tLe N env R) :=
  PE.imp (pe_kw1 O D kb hr hkw hk2 hg hall hks hdb hpl) fun σ H Q ⟨W, x, ev, q⟩ => ⟨W, x, ev, fun H1 vs s1 i1 => by
    cases i1 with
    | cons r1 i1 =>
      cases i1
      have xn := x.next s1
      refine ⟨_, rfl, hsp H1 _ Q (.cons (r1.mv xn.sub) .nil) fun H' v s i => q H' v (s1.trans s) ?_⟩
      rw [← vw_trans s1 s]
      exact i.nol (xn.next s) hR⟩
theorem its_bls {H : Hp} : ∀ (bs : List Bool) {xs : List V}, Paired (It H) (bs.map Tr.bl) xs → xs = bs.map V.bl
  | [], _, .nil => rfl
  | b :: bs, _, .cons r t => by
    rw [r.bl_eq, its_bls bs t]
    rfl
/-- all(xs) of known answers -/
theorem le_all {e : Expr} {bs : List Bool} (hc : X.calm = true) (hm : X.mg "all" = none) (he : PE X e (tLe N env (.sq true (bs.map Tr.bl)))) (hg : Gl X "all" := by rfl) (hs : starEach [e] X.env = (false, eval e X.env) :: starEach [] X.env := by rfl) :
    PE X (.Call (.Name "all" p) [e] [] pos) (tLe N env (.bl (bs.all id))) :=
  PE.imp (pe_callB (he := hs) (cr_all hc) hg hm (by decide +kernel) (pa_cons (hs := hs) he pa_nil)) fun σ H Q ⟨W, x, ev, q⟩ => ⟨W, x, ev, fun H1 v s1 i1 => by
    obtain ⟨a, xs, rfl, ha, la, pa⟩ := i1.sq_inv
    have hq : Sq true H1 a xs := ha.1.mv fun o e => (x.next s1).sub a o e
    have ex : xs = bs.map V.bl := its_bls bs pa
    subst ex
    exact ⟨a, bs, rfl, hq.L, q H1 _ s1 ⟨0, .bl⟩⟩⟩
/-- t + u, two tuples -/
theorem le_catT {e1 e2 : Expr} {Ts Us : List Tr} (h1 : PE X e1 (tLe N env (.sq false Ts))) (h2 : PE X e2 (tLe N env (.sq false Us))) (hn : (Tr.sq false (Ts ++ Us)).nol = true) (hl : Ts.length + Us.length ≤ 1000000 := by first | decide | exact Nat.le_of_ble_eq_true rfl) : PE X (.BinOp e1 .Add e2 pos) (tLe N env (.sq false (Ts ++ Us))) :=
  PE.imp (pe_op op_catQ h1 h2) fun σ H Q ⟨W, x, ev, q⟩ => ⟨W, x, ev, fun H1 v s1 i1 => ⟨vw W H H1, x.next s1, ev.mv (vw_keep x), fun H2 u s2 i2 => by
    rw [vw_trans s1 s2] at i2
    have xn := x.next (s1.trans s2)
    obtain ⟨a, xs, rfl, ha, la, pa⟩ := ((i1.mv (vw_mono s2)).mv xn.sub).sq_inv
    obtain ⟨b, ys, rfl, hb, lb, pb⟩ := (i2.mv xn.sub).sq_inv
    have n1 := paired_len pa
    have n2 := paired_len pb
    refine ⟨a, b, xs, ys, rfl, rfl, ha.1, hb.1, by omega, fun H3 p3 s3 h3 => q H3 _ ((s1.trans s2).trans s3) ?_⟩
    rw [← vw_trans (s1.trans s2) s3]
    exact It.nol (xn.next s3) hn (It.sq (.tup h3) (by rw [List.length_append]; omega) (paired_append (paired_imp pa fun _ _ r => r.same s3) (paired_imp pb fun _ _ r => r.same s3)))⟩⟩
/-- t * k, a tuple -/
theorem le_repT {K : PySem.W.Frag} {e1 : Expr} {Ts : List Tr} {k : Int} {j pos' : _} (h1 : PE X e1 (tLe N env (.sq false Ts))) (hn : (Tr.sq false (List.replicate k.toNat Ts).flatten).nol = true) (hne : Ts ≠ [] := by decide) (hk : 2 ≤ k ∧ k ≤ 1000 := by decide) (hl : Ts.length ≤ 1000 := by first | decide | exact Nat.le_of_ble_eq_true rfl) :
    PE X (.BinOp e1 .Mult (.Constant (.int k) j pos') pos) (tLe N env (.sq false (List.replicate k.toNat Ts).flatten)) :=
  PE.imp (pe_op op_repT h1 pe_int) fun σ H Q ⟨W, x, ev, q⟩ => ⟨W, x, ev, fun H1 v s1 i1 => by
    have xn := x.next s1
    obtain ⟨a, xs, rfl, ha, la, pa⟩ := (i1.mv xn.sub).sq_inv
    have n1 := paired_len pa
    refine ⟨a, k, xs, rfl, rfl, ha.1.T, ?_, hk.1, hk.2, by omega, fun p np => ?_⟩
    · rintro rfl
      cases pa
      exact hne rfl
    have s2 := same_new (o := HO.tup (List.replicate k.toNat xs).flatten) np
    have pr : ∀ n : Nat, Paired (It H1) (List.replicate n Ts).flatten (List.replicate n xs).flatten := fun n => by
      induction n with
      | zero => exact .nil
      | succ n ih =>
        rw [List.replicate_succ, List.replicate_succ, List.flatten_cons, List.flatten_cons]
        exact paired_append pa ih
    have hmul : k.toNat * xs.length ≤ 1000000 := Nat.le_trans (Nat.mul_le_mul (by omega : k.toNat ≤ 1000) (by omega : xs.length ≤ 1000)) (by decide)
    refine q _ _ (s1.trans s2) ?_
    rw [← vw_trans s1 s2]
    refine It.nol (xn.next s2) hn (It.sq (.tup (.tup upd_same)) ?_ (paired_imp (pr k.toNat) fun _ _ r => r.same s2))
    rw [List.length_flatten, List.map_replicate, List.sum_replicate_nat]
    exact hmul⟩
end
/-! ### names and logs -/
def bndT : Tr → Bool
  | .sq _ ts => ts.all fun t => match t with
    | .str z => decide (z.length ≤ 1000000)
    | _ => true
  | _ => true
theorem kp_log {T : Tr} (hb : bndT T = true) : ∀ H vs (Q : VK), Paired (It H) [T] vs → (∀ H' v, Same H H' → It H' (.bl (isLogT T)) v → Q v H') → spIsLog vs H Q E0 := by
  intro H vs Q p q
  cases p with
  | cons r p =>
    cases p
    obtain ⟨n, r⟩ := r
    refine ⟨_, n, T, rfl, r, fun b ts z e hz => ?_, fun H' s => q H' _ s ⟨0, .bl⟩⟩
    subst e
    have := List.all_eq_true.mp (show ts.all _ = true from hb) _ hz
    exact of_decide_eq_true this
end LwB
namespace LwB
open PySem PySem.Spec PyProof.Rows L2 IqX RvT EnS TL NsT
section
variable {X : Cx} {N : Nat} {env : List (Nat × Tr)} {pos : Pos}
/-- z * k, a text -/
theorem op_mulS : OpR X (binaryOp .Mult) (fun x y H Q => ∃ (i : Str) (n : Int), x = .str i ∧ y = .int n ∧ MulOk i n ∧ Q (.str (Txt.mul i n)) H) := by
  intro pins s σ H x y v u Q I rx ry h
  obtain ⟨i, n, rfl, rfl, hk, q⟩ := h
  obtain ⟨t, rfl⟩ := rx
  obtain ⟨t', rfl⟩ := ry
  exact SB.mul hk fun t' k => ⟨.str (Txt.mul i n), H, I.tok _, ⟨_, rfl⟩, q⟩
/-- xs.append(e) -/
theorem so_grow {i : Nat} {c : Expr} {T : Tr} {ts : List Tr} {rest : List Stmt} (hst : PS X (.Expr c pos) (tDrop (tBM X.K "list" rAppend (tVar i) (tCons (tLe N env T) tNil)))) (hlt : ts.length ≤ 900000) (hrest : PSs X rest (tSo N env i (ts ++ [T]))) : PSs X (.Expr c pos :: rest) (tSo N env i ts) :=
  PSs.imp (pss_cons hst hrest) fun D σ H ⟨W, H0, g, vs, x, ev, eg, n, hg, hl, p, sm, n0, q⟩ => ⟨_, eg, .inl ⟨rfl, _, SqL.of hg⟩, W, x, ev, fun H1 v s1 i1 => by
    have hg1 := s1 _ _ hg
    have nv : vw W H H1 g = none := by rw [vw_old hg]; exact n
    have hvl := paired_len p
    refine ⟨g, vs, v, rfl, rfl, hg1, Nat.lt_of_lt_of_le (by omega : vs.length < 1000000) (by decide), ?_⟩
    exact ⟨vw W H H1, H0, g, vs ++ [v], (x.next s1).grown hg1 nv, ev.mv (vw_keep x), eg, nv, upd_same, by rw [List.length_append, List.length_singleton]; omega, paired_snoc (paired_imp p fun _ _ r => r.mv (vw_keep x)) i1, Same.young (sm.trans s1) n0, n0, q⟩⟩
theorem le_mulS {e : Expr} {z : Str} {k : Int} {j pos' : _} (h1 : PE X e (tLe N env (.str z))) (hk : MulOk z k) : PE X (.BinOp e .Mult (.Constant (.int k) j pos') pos) (tLe N env (.str (Txt.mul z k))) :=
  PE.imp (pe_op op_mulS h1 pe_int) fun σ H Q ⟨W, x, ev, q⟩ => ⟨W, x, ev, fun H1 v s1 i1 => ⟨z, k, i1.str_eq, rfl, hk, q H1 _ s1 ⟨0, .str⟩⟩⟩
end
theorem kp_wordR {ws es : List Str} (lw : ws.length ≤ 1000) (le : es.length ≤ 1000) : ∀ H vs (Q : VK), Paired (It H) [trs false ws, trs false es] vs → (∀ H' v, Same H H' → It H' (.bl true) v → Q v H') → spWordR vs H Q E0 := by
  intro H vs Q p q
  obtain ⟨x, y, rfl, i1, i2⟩ := two_its p
  obtain ⟨a, rfl, h1, _⟩ := sx_of_it i1
  obtain ⟨b, rfl, h2, _⟩ := sx_of_it i2
  exact ⟨a, b, ws, es, rfl, h1, h2, lw, le, fun H' s => q H' _ s ⟨0, .bl⟩⟩
end LwB
namespace K09
open PySem PySem.Spec PyProof.Rows L2 IqX RvT LwB EnS
def topS (i : Nat) : Stmt := PySem.Challenge.pw_moredone_k09_parts_and_places.main.body.getD i (.Pass ⟨0, 0, 0, 0⟩)
abbrev s_is_name : Stmt := topS 1
theorem sc_is_name : FnScope ["value", "letter"] ["value"] (defScope s_is_name) := ⟨rfl, rfl, rfl, by decide +kernel, rfl, by decide +kernel, by decide +kernel⟩
-- slots: 0:value 1:letter
abbrev s_is_log : Stmt := topS 2
theorem sc_is_log : FnScope ["thing", "event"] ["thing"] (defScope s_is_log) := ⟨rfl, rfl, rfl, by decide +kernel, rfl, by decide +kernel, by decide +kernel⟩
-- slots: 0:thing 1:event
abbrev s_is_part : Stmt := topS 3
theorem sc_is_part : FnScope ["word", "log", "events", "event", "is_there"] ["word", "log"] (defScope s_is_part) := ⟨rfl, rfl, rfl, by decide +kernel, rfl, by decide +kernel, by decide +kernel⟩
-- slots: 0:word 1:log 2:events 3:event 4:is_there
abbrev s__early_places : Stmt := topS 4
theorem sc__early_places : FnScope ["word", "log", "found", "at", "event"] ["word", "log"] (defScope s__early_places) := ⟨rfl, rfl, rfl, by decide +kernel, rfl, by decide +kernel, by decide +kernel⟩
-- slots: 0:word 1:log 2:found 3:at 4:event
abbrev s_places : Stmt := topS 5
theorem sc_places : FnScope ["word", "log", "found"] ["word", "log"] (defScope s_places) := ⟨rfl, rfl, rfl, by decide +kernel, rfl, by decide +kernel, by decide +kernel⟩
-- slots: 0:word 1:log 2:found
abbrev s_ways : Stmt := topS 6
theorem sc_ways : FnScope ["word", "log", "many", "event", "end"] ["word", "log"] (defScope s_ways) := ⟨rfl, rfl, rfl, by decide +kernel, rfl, by decide +kernel, by decide +kernel⟩
-- slots: 0:word 1:log 2:many 3:event 4:end
abbrev s__law_box : Stmt := topS 8
theorem sc__law_box : FnScope ["_law_script", "_law_k", "_law_cell"] ["_law_script", "_law_k"] (defScope s__law_box) := ⟨rfl, rfl, rfl, by decide +kernel, rfl, by decide +kernel, by decide +kernel⟩
-- slots: 0:_law_script 1:_law_k 2:_law_cell
abbrev s__law_take : Stmt := topS 9
theorem sc__law_take : FnScope ["_law_box_here", "_law_size_so", "_law_some", "_law_once", "_law_far", "_law_again"] ["_law_box_here", "_law_size_so"] (defScope s__law_take) := ⟨rfl, rfl, rfl, by decide +kernel, rfl, by decide +kernel, by decide +kernel⟩
-- slots: 0:_law_box_here 1:_law_size_so 2:_law_some 3:_law_once 4:_law_far 5:_law_again
abbrev s__law_cells : Stmt := topS 10
theorem sc__law_cells : FnScope ["_law_script", "_law_top_so", "_law_cells_so", "_law_k", "_law_cell", "_law_at_so"] ["_law_script", "_law_top_so"] (defScope s__law_cells) := ⟨rfl, rfl, rfl, by decide +kernel, rfl, by decide +kernel, by decide +kernel⟩
-- slots: 0:_law_script 1:_law_top_so 2:_law_cells_so 3:_law_k 4:_law_cell 5:_law_at_so
abbrev s__law_of : Stmt := topS 11
theorem sc__law_of : FnScope ["_law_box_here", "_law_goods_so"] ["_law_box_here", "_law_goods_so"] (defScope s__law_of) := ⟨rfl, rfl, rfl, by decide +kernel, rfl, by decide +kernel, by decide +kernel⟩
-- slots: 0:_law_box_here 1:_law_goods_so
abbrev s__law_pick : Stmt := topS 12
theorem sc__law_pick : FnScope ["_law_box_here", "_law_goods_so", "_law_count_so", "_law_pool_so", "_law_found", "_law_turn"] ["_law_box_here", "_law_goods_so", "_law_count_so"] (defScope s__law_pick) := ⟨rfl, rfl, rfl, by decide +kernel, rfl, by decide +kernel, by decide +kernel⟩
-- slots: 0:_law_box_here 1:_law_goods_so 2:_law_count_so 3:_law_pool_so 4:_law_found 5:_law_turn
abbrev s__law_same : Stmt := topS 13
theorem sc__law_same : FnScope ["_law_got", "_law_due", "_law_mine", "_law_its"] ["_law_got", "_law_due"] (defScope s__law_same) := ⟨rfl, rfl, rfl, by decide +kernel, rfl, by decide +kernel, by decide +kernel⟩
-- slots: 0:_law_got 1:_law_due 2:_law_mine 3:_law_its
abbrev s__law_names : Stmt := topS 14
theorem sc__law_names : FnScope ["_law_box_here", "_law_much_so", "_law_letters_so", "_law_long", "_law_some", "_law_sort_so", "_law_spot_so", "_law_found", "_law_sign", "_law_turn"] ["_law_box_here", "_law_much_so"] (defScope s__law_names) := ⟨rfl, rfl, rfl, by decide +kernel, rfl, by decide +kernel, by decide +kernel⟩
-- slots: 0:_law_box_here 1:_law_much_so 2:_law_letters_so 3:_law_long 4:_law_some 5:_law_sort_so 6:_law_spot_so 7:_law_found 8:_law_sign 9:_law_turn
abbrev s__law_event_row : Stmt := topS 15
theorem sc__law_event_row : FnScope ["_law_box_here", "_law_tags", "_law_most", "_law_turn"] ["_law_box_here", "_law_tags", "_law_most"] (defScope s__law_event_row) := ⟨rfl, rfl, rfl, by decide +kernel, rfl, by decide +kernel, by decide +kernel⟩
-- slots: 0:_law_box_here 1:_law_tags 2:_law_most 3:_law_turn
abbrev s__law_choices : Stmt := topS 16
theorem sc__law_choices : FnScope ["_law_verse", "_law_row", "_law_found", "_law_own", "_law_wider_so", "_law_spots", "_law_first", "_law_k"] ["_law_verse", "_law_row"] (defScope s__law_choices) := ⟨rfl, rfl, rfl, by decide +kernel, rfl, by decide +kernel, by decide +kernel⟩
-- slots: 0:_law_verse 1:_law_row 2:_law_found 3:_law_own 4:_law_wider_so 5:_law_spots 6:_law_first 7:_law_k
abbrev s__law_counted : Stmt := topS 17
theorem sc__law_counted : FnScope ["_law_verse", "_law_row", "_law_table", "_law_own", "_law_k"] ["_law_verse", "_law_row"] (defScope s__law_counted) := ⟨rfl, rfl, rfl, by decide +kernel, rfl, by decide +kernel, by decide +kernel⟩
-- slots: 0:_law_verse 1:_law_row 2:_law_table 3:_law_own 4:_law_k
abbrev s__law_least_spots : Stmt := topS 18
theorem sc__law_least_spots : FnScope ["_law_verse", "_law_row", "_law_found", "_law_first", "_law_own", "_law_can", "_law_k"] ["_law_verse", "_law_row"] (defScope s__law_least_spots) := ⟨rfl, rfl, rfl, by decide +kernel, rfl, by decide +kernel, by decide +kernel⟩
-- slots: 0:_law_verse 1:_law_row 2:_law_found 3:_law_first 4:_law_own 5:_law_can 6:_law_k
abbrev s__law_word_right : Stmt := topS 19
theorem sc__law_word_right : FnScope ["_law_verse", "_law_row", "_law_many", "_law_spots", "_law_some", "_law_soft", "_law_flat", "_law_got"] ["_law_verse", "_law_row"] (defScope s__law_word_right) := ⟨rfl, rfl, rfl, by decide +kernel, rfl, by decide +kernel, by decide +kernel⟩
-- slots: 0:_law_verse 1:_law_row 2:_law_many 3:_law_spots 4:_law_some 5:_law_soft 6:_law_flat 7:_law_got
abbrev s__law_by_hand_right : Stmt := topS 20
theorem sc__law_by_hand_right : FnScope ["_law_row", "_law_words_so", "_law_got", "_law_due", "_law_some", "_law_own"] [] (defScope s__law_by_hand_right) := ⟨rfl, rfl, rfl, by decide +kernel, rfl, by decide +kernel, by decide +kernel⟩
-- slots: 0:_law_row 1:_law_words_so 2:_law_got 3:_law_due 4:_law_some 5:_law_own
abbrev s__law_right : Stmt := topS 21
theorem sc__law_right : FnScope ["_law_box_here", "_law_turn", "_law_tags", "_law_row", "_law_spots", "_law_verse", "_law_at_so", "_law_own", "_law_bent", "_law_k"] ["_law_box_here"] (defScope s__law_right) := ⟨rfl, rfl, rfl, by decide +kernel, rfl, by decide +kernel, by decide +kernel⟩
-- slots: 0:_law_box_here 1:_law_turn 2:_law_tags 3:_law_row 4:_law_spots 5:_law_verse 6:_law_at_so 7:_law_own 8:_law_bent 9:_law_k
abbrev s_law : Stmt := topS 22
theorem sc_law : FnScope ["_law_script", "_law_cells_so", "_law_k"] ["_law_script"] (defScope s_law) := ⟨rfl, rfl, rfl, by decide +kernel, rfl, by decide +kernel, by decide +kernel⟩
-- slots: 0:_law_script 1:_law_cells_so 2:_law_k
end K09
namespace K09
open PySem PySem.Spec PyProof.Rows L2 IqX RvT LwB
section
variable {P : Program} {w : World} {K : PySem.W.Frag} {mg : Str → Option Value} {base : Heap}
theorem ok_is_part (D : Df K mg "is_part" s_is_part ["word", "log"]) (B : Bn mg) : Ok P w K mg base 1 "is_part" ["word", "log"] spPart := by
  refine D.ok sc_is_part (fun vs H Q E h => ?_) (fun f cdv A outer s H vs Q E hr h => ?_)
  · obtain ⟨_, _, _, _, _, _, rfl, _⟩ := h
    rfl
  · obtain ⟨b1, b2, a, c, ws, es, rfl, hw, he, q⟩ := h
    have nd := sc_is_part.nd
    refine ⟨_, pss_cons (ps_set (i := 2) nd rfl (.inl rfl) (pe_callB call_iterQ (by rfl) B.iter (by decide +kernel) (pa_cons (pv 1) pa_nil)))
      (pss_cons (ps_for PassesOwn.never rfl (pi_seq (pv 0)) (pg_name (i := 3) nd rfl (.inl rfl))
        (pss_cons (ps_set (i := 4) nd rfl (.inl rfl) (pe_cmpR (op_in_it rfl) (pv 3) (pv 2) (by rfl)))
        (pss_one (ps_if (pt_not (pt_val (pv 4))) (pss_one (ps_ret pe_bl)) pss_nil))))
      (pss_one (ps_ret pe_bl))), ?_⟩
    refine ⟨.ref c, rfl, b2, c, es.map V.str, rfl, he.B, fun it ni => ?_⟩
    have s1 : Same H (upd H it (ItQ b2 c it 0)) := same_new ni
    have hcit : c ≠ it := he.ne ni
    refine ⟨.ref a, rfl, b1, a, rfl, ⟨_, (s1.sq hw).B⟩, for_seq (K := K) (b := b1) (a := a) (xs := ws.map V.str)
      (fun i σ H' => ∃ (j : Nat) (x3 x4 : Option V), σ = [some (.ref a), some (.ref c), some (.ref it), x3, x4] ∧ Same H H' ∧ H' it = some (ItQ b2 c it j) ∧ isPart ws es = isPart (ws.drop i) (es.drop j))
      ⟨0, none, none, rfl, s1, upd_same, rfl⟩ (fun i σ H' _ ⟨_, _, _, _, sm, _⟩ => (sm.sq hw).B) ?_ ?_⟩
    · rintro i x σ H' hi ⟨j, x3, x4, rfl, sm, hit, em⟩
      obtain ⟨z, hz, rfl⟩ := map_get hi
      refine ⟨.str z, rfl, .ref it, rfl, it, c, b2, j, es.map V.str, rfl, hit, (sm.sq he).B, hcit, rfl, flat_strs es, fun j' hj hfound hbefore => ?_, fun hnone => ?_⟩
      · refine ⟨.bl true, rfl, true, rfl, iteF ?_⟩
        refine ⟨j' + 1, _, _, rfl, Same.young sm ni, upd_same, ?_⟩
        obtain ⟨y, hy, hyz⟩ := hfound
        obtain ⟨y', hy', rfl⟩ := map_get hy
        have ey : y' = z := eq_of_beq hyz
        subst ey
        rw [em, drop_at hz, isPart_find (es := es.drop j) (j := j' - j) (w := y') ?_ ?_, List.drop_drop]
        · congr 2
          omega
        · rw [List.getElem?_drop, show j + (j' - j) = j' by omega]
          exact hy'
        · intro m z2 h1 h2 e2
          rw [List.getElem?_drop] at h2
          have q2 := hbefore (j + m) (.str z2) (by omega) (by omega) (get_map h2)
          rw [e2] at q2
          simp [eqV] at q2
      · refine ⟨.bl false, rfl, false, rfl, iteT ?_⟩
        have e : isPart ws es = false := by
          rw [em, drop_at hz]
          refine isPart_miss fun m z2 h2 e2 => ?_
          rw [List.getElem?_drop] at h2
          have q2 := hnone (j + m) (.str z2) (by omega) (get_map h2)
          rw [e2] at q2
          simp [eqV] at q2
        have q1 := q _ (Same.young (o := ItX it) sm ni)
        rw [e] at q1
        exact q1
    · rintro σ H' ⟨j, x3, x4, rfl, sm, hit, em⟩
      have q1 := q _ sm
      rw [em, List.length_map, List.drop_length, isPart_nil] at q1
      exact q1
end
end K09
namespace K09
open PySem PySem.Spec PyProof.Rows L2 IqX RvT LwB EnS
section
variable {P : Program} {w : World} {K : PySem.W.Frag} {mg : Str → Option Value} {base : Heap}
theorem ok__early_places (D : Df K mg "_early_places" s__early_places ["word", "log"]) (B : Bn mg) : Ok P w K mg base 1 "_early_places" ["word", "log"] spEarly := by
  refine D.ok sc__early_places (fun vs H Q E h => ?_) (fun f cdv A outer s H vs Q E hr h => ?_)
  · obtain ⟨_, _, _, _, _, _, rfl, _⟩ := h
    rfl
  · obtain ⟨b1, b2, a, c, ws, es, rfl, hw, he, hlen, q⟩ := h
    have nd := sc__early_places.nd
    refine ⟨_, pss_cons (ps_set (i := 2) nd rfl (.inl rfl) (pe_lst pa_nil))
      (pss_cons (ps_for PassesOwn.never rfl (pi_enumS (by rfl) B.enumerate (pa_cons (pv 1) pa_nil))
          (pg_tup rfl (pgs_cons (pg_name (i := 3) nd rfl (.inl rfl)) (pgs_cons (pg_name (i := 4) nd rfl (.inl rfl)) pgs_nil)))
        (pss_one (ps_if (PW.pt (pw_and (pt_cmpR op_lt (pe_len B.len (pa_cons (pv 2) pa_nil)) (pe_len B.len (pa_cons (pv 0) pa_nil)) (nomark _))
            (pw_and1 (pt_cmpR op_eq (pv 4) (pe_ix ix_sq (pv 0) (pe_len B.len (pa_cons (pv 2) pa_nil)) (fun _ _ => rfl)) (nomark _)))))
          (pss_one (ps_expr (pe_bm PySem.F.plainAttrs_list PySem.F.slot_list_append PySem.F.type_list_append mt_append (pv 2) (pa_cons (pv 3) pa_nil)))) pss_nil)))
      (pss_one (ps_ret (pv 2)))), ?_⟩
    refine ⟨Nat.zero_le _, fun o no => ?_⟩
    have s1 : Same H (upd H o (.lst [])) := same_new no
    refine ⟨.ref c, rfl, b2, c, es.map V.str, rfl, (s1.sq he).B, for_enumS (K := K) (b := b2) (a := c) (xs := es.map V.str)
      (fun i σ H' => ∃ (acc : List Nat) (x3 x4 : Option V), σ = [some (.ref a), some (.ref c), some (.ref o), x3, x4] ∧ Same H H' ∧ H' o = some (.lst (nats acc)) ∧ acc.length ≤ ws.length ∧ early ws es 0 = acc ++ early (ws.drop acc.length) (es.drop i) i)
      ⟨[], none, none, rfl, s1, upd_same, Nat.zero_le _, rfl⟩ (fun i σ H' _ ⟨_, _, _, _, sm, _⟩ => (sm.sq he).B) ?_ ?_⟩
    · rintro i x T σ H' hi ⟨acc, x3, x4, rfl, sm, ho, hal, em⟩ nT
      obtain ⟨z, hz, rfl⟩ := map_get hi
      have nTo : o ≠ T := ne_of_none ho nT
      have sT : Same H (upd H' T (.tup [.int (i : Nat), .str z])) := sm.trans (same_new nT)
      have hoT : (upd H' T (.tup [.int (i : Nat), .str z])) o = some (.lst (nats acc)) := by rw [upd_ne nTo]; exact ho
      refine ⟨T, [.int (i : Nat), .str z], rfl, SqT.of upd_same, rfl, .int (i : Nat), [.str z], rfl, .str z, [], rfl, rfl, ?_⟩
      refine ⟨.ref o, rfl, true, o, nats acc, rfl, .lst hoT, .ref a, rfl, b1, a, ws.map V.str, rfl, sT.sq hw, _, _, rfl, rfl, _, rfl, ite2 (fun hlt => ?_) (fun hge => ?_)⟩
      · have hlt' : acc.length < ws.length := by
          have := of_decide_eq_true hlt
          simp [nats] at this
          omega
        have hwz : ws[acc.length]? = some ws[acc.length] := List.getElem?_eq_getElem hlt'
        have hat : atI (ws.map V.str) ((nats acc).length : Nat) = some (.str ws[acc.length]) := by
          rw [show (nats acc).length = acc.length from List.length_map _]
          exact atI_nat (get_map hwz)
        refine ⟨.str z, rfl, .ref a, rfl, .ref o, rfl, true, o, nats acc, rfl, .lst hoT, b1, a, _, _, _, rfl, rfl, sT.sq hw, hat, rfl, _, rfl, ite2 (fun heq => ?_) (fun hne => ?_)⟩
        · have ez : z = ws[acc.length] := V.str.inj (of_decide_eq_true heq)
          refine ⟨.ref o, rfl, .inl ⟨rfl, _, SqL.of hoT⟩, .int (i : Nat), rfl, o, _, _, rfl, rfl, hoT, ?_, ?_⟩
          · rw [show (nats acc).length = acc.length from List.length_map _]
            exact small1000 (by omega)
          · refine ⟨acc ++ [i], _, _, rfl, Same.young sT no, ?_, ?_, ?_⟩
            · rw [upd_same]
              simp [nats]
            · rw [List.length_append, List.length_singleton]
              omega
            · rw [em, drop_at hz, drop_at hwz, early_hit ez, List.append_assoc, List.length_append, List.length_singleton]
              rfl
        · have ez : ¬ z = ws[acc.length] := fun e => hne (by rw [e]; exact decide_eq_true rfl)
          refine ⟨acc, _, _, rfl, sT, hoT, hal, ?_⟩
          rw [em, drop_at hz, drop_at hwz, early_miss ez]
      · have hge' : ws.length ≤ acc.length := by
          have : ¬ (decide (_ < _) = true) := hge
          rw [decide_eq_true_eq] at this
          simp [nats] at this
          omega
        refine ⟨acc, _, _, rfl, sT, hoT, hal, ?_⟩
        rw [em, List.drop_eq_nil_of_le hge', early_nil, early_nil]
    · rintro σ H' ⟨acc, x3, x4, rfl, sm, ho, hal, em⟩
      refine ⟨.ref o, rfl, q _ _ ⟨sm, no, ?_⟩⟩
      rw [ho, em, List.length_map, List.drop_length, early_end, List.append_nil]
end
end K09
namespace K09
open PySem PySem.Spec PyProof.Rows L2 IqX RvT LwB EnS
section
variable {P : Program} {w : World} {K : PySem.W.Frag} {mg : Str → Option Value} {base : Heap}
theorem ok__law_box (D : Df K mg "_law_box" s__law_box ["_law_script", "_law_k"]) (B : Bn mg) : Ok P w K mg base 1 "_law_box" ["_law_script", "_law_k"] spBox := by
  refine D.ok sc__law_box (fun vs H Q E h => ?_) (fun f cdv A outer s H vs Q E hr h => ?_)
  · obtain ⟨_, _, _, rfl, _⟩ := h
    rfl
  · obtain ⟨a, ns, k, rfl, hS, hk, q⟩ := h
    have nd := sc__law_box.nd
    refine ⟨_, pss_cons (ps_set (i := 2) nd rfl (.inl rfl) (pe_ifExp (pt_cmpR op_lt (pv 1) (pe_len B.len (pa_cons (pv 0) pa_nil)) (nomark _)) (pe_ix ix_sq (pv 0) (pv 1) (fun _ _ => rfl)) pe_int))
      (pss_one (ps_ret (pe_lst (pa_cons (pe_op op_mul (pe_abs B.abs (pa_cons (pv 2) pa_nil)) (pe_int1 B.int (pa_cons (pe_cmpR op_ge (pe_abs B.abs (pa_cons (pv 2) pa_nil)) (pe_op op_pow pe_int pe_int) (nomark _)) pa_nil)))
        (pa_cons (pe_op op_add (pe_op op_add (pe_op op_mod (pe_int1 B.int (pa_cons (pv 2) pa_nil)) pe_int) (pe_op op_mul pe_int (pv 1))) pe_int) (pa_cons pe_int pa_nil)))))), ?_⟩
    have fin : ∀ (c : Int) (bb : Bool), 0 ≤ (if c < 0 then -c else c) * (if bb = true then 1 else 0) := fun c bb => by
      cases bb
      · simp
      · simp
        split <;> omega
    refine ⟨.int k, rfl, .ref a, rfl, true, a, ns.map V.int, rfl, hS, _, _, rfl, rfl, _, rfl, ite2 (fun h1 => ?_) (fun h1 => ?_)⟩
    · have hlt : k < ns.length := by
        have := of_decide_eq_true h1
        rw [List.length_map] at this
        omega
      refine ⟨.ref a, rfl, .int k, rfl, true, a, ns.map V.int, k, .int ns[k], rfl, rfl, hS, atI_nat (by rw [List.getElem?_map, List.getElem?_eq_getElem hlt]; rfl), ?_⟩
      refine ⟨_, rfl, _, rfl, _, rfl, _, rfl, 10, 18, rfl, rfl, ⟨by decide, by decide, by decide⟩, _, _, rfl, rfl, .inr ⟨_, rfl, _, _, rfl, rfl, .inr (by split <;> omega), ?_⟩⟩
      refine ⟨_, rfl, .inl ⟨_, rfl, _, _, rfl, rfl, (show (0 : Int) < 2305843009213693951 by decide), _, rfl, _, _, rfl, rfl, .inl ⟨by decide, by decide⟩, _, _, rfl, rfl, _, _, rfl, rfl, (by show 3 ≤ sizeLine; decide), fun p np => ?_⟩⟩
      refine q _ p (same_new np) np ⟨_, _, 0, upd_same, fin _ _, ?_, ?_, by decide, by decide⟩
      · have := Int.emod_nonneg ns[k] (show (2305843009213693951 : Int) ≠ 0 by decide)
        omega
      · have := Int.emod_lt_of_pos ns[k] (show (0 : Int) < 2305843009213693951 by decide)
        omega
    · refine ⟨_, rfl, _, rfl, _, rfl, _, rfl, 10, 18, rfl, rfl, ⟨by decide, by decide, by decide⟩, _, _, rfl, rfl, .inr ⟨_, rfl, _, _, rfl, rfl, .inr (by split <;> omega), ?_⟩⟩
      refine ⟨_, rfl, .inl ⟨_, rfl, _, _, rfl, rfl, (show (0 : Int) < 2305843009213693951 by decide), _, rfl, _, _, rfl, rfl, .inl ⟨by decide, by decide⟩, _, _, rfl, rfl, _, _, rfl, rfl, (by show 3 ≤ sizeLine; decide), fun p np => ?_⟩⟩
      refine q _ p (same_new np) np ⟨_, _, 0, upd_same, fin _ _, ?_, ?_, by decide, by decide⟩
      · have := Int.emod_nonneg 0 (show (2305843009213693951 : Int) ≠ 0 by decide)
        omega
      · have := Int.emod_lt_of_pos 0 (show (0 : Int) < 2305843009213693951 by decide)
        omega
theorem ok__law_take (D : Df K mg "_law_take" s__law_take ["_law_box_here", "_law_size_so"]) (B : Bn mg) : Ok P w K mg base 1 "_law_take" ["_law_box_here", "_law_size_so"] spTake := by
  refine D.ok sc__law_take (fun vs H Q E h => ?_) (fun f cdv A outer s H vs Q E hr h => ?_)
  · obtain ⟨_, _, _, rfl, _⟩ := h
    rfl
  · obtain ⟨b, n, m, rfl, ⟨x0, x1, x2, hb, h0, h1, h2, h3, h4⟩, hn, hm0, hm1, q⟩ := h
    have nd := sc__law_take.nd
    refine ⟨_, pss_cons (ps_if (pt_cmpR op_gt (pe_ix ix_sq (pv 0) pe_int (fun _ _ => rfl)) pe_int (nomark _))
        (pss_cons (ps_set (i := 2) nd rfl (.inl rfl) (pe_op op_mod (pe_int1 B.int (pa_cons (pe_ix ix_sq (pv 0) pe_int (fun _ _ => rfl)) pa_nil)) (pv 1)))
        (pss_cons (ps_asg (pe_op op_fdivW (pe_ix ix_sq (pv 0) pe_int (fun _ _ => rfl)) (pv 1)) (pg_sub (pv 0) pe_int set_list))
        (pss_one (ps_ret (pv 2))))) pss_nil)
      (pss_cons (ps_asg (pe_op op_add (pe_ix ix_sq (pv 0) pe_int (fun _ _ => rfl)) pe_int) (pg_sub (pv 0) pe_int set_list))
      (pss_cons (ps_set (i := 3) nd rfl (.inl rfl) (pe_op op_mod (pe_int1 B.int (pa_cons (pe_op op_mul (pe_op op_add (pe_ix ix_sq (pv 0) pe_int (fun _ _ => rfl)) (pe_op op_mul pe_int (pe_ix ix_sq (pv 0) pe_int (fun _ _ => rfl)))) (pe_op op_add pe_int (pe_ix ix_sq (pv 0) pe_int (fun _ _ => rfl)))) pa_nil)) pe_int))
      (pss_cons (ps_set (i := 4) nd rfl (.inl rfl) (pe_op op_add (pe_op op_mod (pe_int1 B.int (pa_cons (pv 3) pa_nil)) pe_int) pe_int))
      (pss_cons (ps_set (i := 5) nd rfl (.inl rfl) (pe_op op_mod (pe_int1 B.int (pa_cons (pe_op op_mul (pe_op op_add (pe_op op_add (pv 3) (pe_ix ix_sq (pv 0) pe_int (fun _ _ => rfl))) (pe_op op_fdiv (pe_ix ix_sq (pv 0) pe_int (fun _ _ => rfl)) pe_int)) (pv 4)) pa_nil)) pe_int))
      (pss_one (ps_ret (pe_op op_mod (pe_int1 B.int (pa_cons (pe_op op_fdiv (pe_op op_mod (pe_int1 B.int (pa_cons (pe_op op_add (pe_op op_mul (pv 5) pe_int) (pv 3)) pa_nil)) pe_int) pe_int) pa_nil)) (pv 1)))))))), ?_⟩
    refine ⟨_, rfl, true, b, _, 0, _, rfl, rfl, .lst hb, rfl, _, _, rfl, rfl, _, rfl, ite2 (fun hp => ?_) (fun hp => ?_)⟩
    · refine ⟨_, rfl, true, b, _, 0, _, rfl, rfl, .lst hb, rfl, .inl ⟨_, rfl, _, rfl, _, _, rfl, rfl, hm0, ?_⟩⟩
      refine ⟨_, rfl, true, b, _, 0, _, rfl, rfl, .lst hb, rfl, _, rfl, _, _, rfl, rfl, wide_div hm0 (b := 30) (by omega) (by decide) (by decide), ?_⟩
      refine ⟨_, rfl, b, _, 0, 0, rfl, rfl, hb, rfl, _, rfl, ?_⟩
      refine q _ _ Fr.put ⟨x0 / m, x1, x2, upd_same, Int.ediv_nonneg h0 (by omega), h1, h2, h3, by omega⟩ (Int.emod_nonneg _ (by omega)) (Int.emod_lt_of_pos _ hm0)
    · refine ⟨_, rfl, true, b, _, 2, _, rfl, rfl, .lst hb, rfl, _, _, rfl, rfl, _, rfl, b, _, 2, 2, rfl, rfl, hb, rfl, ?_⟩
      have hb' : (upd H b (.lst ([V.int x0, V.int x1, V.int x2].set 2 (V.int (x2 + 1))))) b = some (.lst [.int x0, .int x1, .int (x2 + 1)]) := upd_same
      generalize hH : upd H b (.lst ([V.int x0, V.int x1, V.int x2].set 2 (V.int (x2 + 1)))) = H1 at hb' ⊢
      have fr : LwB.Fr b H H1 := by rw [← hH]; exact Fr.put
      refine ⟨_, rfl, true, b, _, 1, _, rfl, rfl, .lst hb', rfl, _, rfl, true, b, _, 2, _, rfl, rfl, .lst hb', rfl, _, _, rfl, rfl, .inl ⟨by decide, by decide⟩, _, _, rfl, rfl, ?_⟩
      refine ⟨_, rfl, true, b, _, 2, _, rfl, rfl, .lst hb', rfl, _, _, rfl, rfl, _, _, rfl, rfl, .inr ⟨by omega, by omega⟩, .inl ⟨_, rfl, _, _, rfl, rfl, (show (0 : Int) < 2147483647 by decide), ?_⟩⟩
      generalize ho : (x1 + 48271 * (x2 + 1)) * (39373 + (x2 + 1)) % 2147483647 = once
      have o1 : 0 ≤ once := by rw [← ho]; exact Int.emod_nonneg _ (by decide)
      have o2 : once < 2147483647 := by rw [← ho]; exact Int.emod_lt_of_pos _ (by decide)
      refine ⟨_, rfl, .inl ⟨_, rfl, _, _, rfl, rfl, (show (0 : Int) < 40009 by decide), _, _, rfl, rfl, ?_⟩⟩
      have f1 : 0 ≤ once % 40009 := Int.emod_nonneg _ (by decide)
      have f2 : once % 40009 < 40009 := Int.emod_lt_of_pos _ (by decide)
      refine ⟨_, rfl, _, rfl, true, b, _, 2, _, rfl, rfl, .lst hb', rfl, _, _, rfl, rfl, _, rfl, true, b, _, 1, _, rfl, rfl, .lst hb', rfl, _, _, rfl, rfl, ⟨by decide, by decide⟩, _, _, rfl, rfl, _, rfl, _, _, rfl, rfl, .inr ⟨by omega, by omega⟩, .inl ⟨_, rfl, _, _, rfl, rfl, (show (0 : Int) < 2147483629 by decide), ?_⟩⟩
      generalize ha : (once + (x2 + 1) + x1 / 1000003) * (once % 40009 + 7) % 2147483629 = again
      have a1 : 0 ≤ again := by rw [← ha]; exact Int.emod_nonneg _ (by decide)
      have a2 : again < 2147483629 := by rw [← ha]; exact Int.emod_lt_of_pos _ (by decide)
      refine ⟨_, rfl, _, _, rfl, rfl, .inr ⟨by decide, by decide⟩, _, rfl, _, _, rfl, rfl, .inl ⟨_, rfl, _, _, rfl, rfl, (show (0 : Int) < 2147483587 by decide), _, _, rfl, rfl, ⟨by decide, by decide⟩, .inl ⟨_, rfl, _, rfl, _, _, rfl, rfl, hm0, ?_⟩⟩⟩
      refine q _ _ fr ⟨x0, x1, x2 + 1, hb', h0, h1, h2, by omega, by omega⟩ (Int.emod_nonneg _ (by omega)) (Int.emod_lt_of_pos _ hm0)
theorem ok__law_cells (D : Df K mg "_law_cells" s__law_cells ["_law_script", "_law_top_so"]) (B : Bn mg) : Ok P w K mg base 1 "_law_cells" ["_law_script", "_law_top_so"] (spCells K) := by
  refine D.ok sc__law_cells (fun vs H Q E h => ?_) (fun f cdv A outer s H vs Q E hr h => ?_)
  · obtain ⟨_, _, _, rfl, _⟩ := h
    rfl
  · obtain ⟨a, ns, t, rfl, hS, ht0, ht, hl, q⟩ := h
    have nd := sc__law_cells.nd
    refine ⟨_, pss_cons (ps_set (i := 2) nd rfl (.inl rfl) (PE.imp (t' := tCellsAt K) (pe_orT (pe_listQ B.list (pa_cons (pe_slice sl_list (pv 0) po_none (po_some (pv 1))) pa_nil)) (pe_one (pe_lst (pa_cons pe_int pa_nil)))) ?imp))
      (pss_cons (ps_for PassesOwn.never rfl (pi_enumS (by rfl) B.enumerate (pa_cons (pe_slice sl_list (pv 0) (po_some (pv 1)) (po_some pe_int)) pa_nil))
          (pg_tup rfl (pgs_cons (pg_name (i := 3) nd rfl (.inl rfl)) (pgs_cons (pg_name (i := 4) nd rfl (.inl rfl)) pgs_nil)))
        (pss_cons (ps_set (i := 5) nd rfl (.inl rfl) (pe_op op_mod (pe_int1 B.int (pa_cons (pv 3) pa_nil)) (pv 1)))
        (pss_one (ps_asg (pe_op op_add (pe_ix ix_sq (pv 2) (pv 5) (fun _ _ => rfl)) (pe_op op_mul (pv 4) (pe_op op_add (pv 3) pe_int))) (pg_sub (pv 2) (pv 5) set_list)))))
      (pss_one (ps_ret (pv 2)))), ?_⟩
    case imp =>
      rintro σ H Q ⟨a, ns, t, h0, h1, hS, ht, q⟩
      refine ⟨.ref a, h0, .int t, h1, t, rfl, a, _, rfl, hS, fun p1 np1 => ⟨true, p1, _, rfl, .lst upd_same, fun H2 o no => ⟨_, .inl ⟨_, SqL.of no.2.2, rfl⟩, ?_⟩⟩⟩
      have s1 := same_new (o := HO.lst (cutV (ns.map V.int) none (some (t : Int)))) np1
      rw [cut_to, ← List.map_take] at no s1
      rw [cut_to, ← List.map_take]
      by_cases hn : ns = []
      · subst hn
        rw [if_neg (show ¬ ((!(List.map V.int (List.take t ([] : List Int))).isEmpty) = true) by simp)]
        refine ⟨(by show 1 ≤ sizeLine; decide), fun p np => ?_⟩
        have sH : Same H H2 := s1.trans no.1
        exact q _ p [0] ⟨sH.trans (same_new np), sH.free np, upd_same⟩ (by decide) ht (fun h => absurd h (Nat.not_lt_zero _))
      · have hlen : 0 < ns.length := List.length_pos_iff.mpr hn
        have e : (!((ns.take t).map V.int).isEmpty) = true := by
          cases hc : (ns.take t).map V.int with
          | nil =>
            have := congrArg List.length hc
            rw [List.length_map, List.length_take] at this
            have h2 : min t ns.length = 0 := this
            omega
          | cons x r => rfl
        rw [if_pos e]
        refine q _ o (ns.take t) ⟨s1.trans no.1, s1.free no.2.1, no.2.2⟩ ?_ ?_ ?_ <;> rw [List.length_take] <;> omega
    refine ⟨a, ns, t, rfl, rfl, hS, ht0, fun H1 o zs0 no hz0 hz1 hz2 => ?_⟩
    refine ⟨.ref a, rfl, .int t, rfl, t, rfl, 63, rfl, a, _, rfl, no.1.seq hS, fun p np => ?_⟩
    have hpo : p ≠ o := (ne_of_none no.2.2 np).symm
    have s2 := same_new (o := HO.lst (cutV (ns.map V.int) (some (t : Int)) (some (63 : Int)))) np
    have hp : Sq true (upd H1 p (.lst (cutV (ns.map V.int) (some (t : Int)) (some (63 : Int))))) p (cutV (ns.map V.int) (some (t : Int)) (some (63 : Int))) := .lst upd_same
    generalize upd H1 p (.lst (cutV (ns.map V.int) (some (t : Int)) (some (63 : Int)))) = H2 at s2 hp ⊢
    have ecut : cutV (ns.map V.int) (some (t : Int)) (some (63 : Int)) = ((ns.drop t).take (63 - t)).map V.int := by
      have := cut_mid (ns.map V.int) t 63
      rw [List.map_take, List.map_drop]
      exact this
    rw [ecut] at hp
    refine ⟨true, p, _, rfl, hp.B, for_enumS (K := K) (b := true) (a := p) (xs := ((ns.drop t).take (63 - t)).map V.int)
      (fun i σ H' => ∃ (zs : List Int) (x3 x4 x5 : Option V), σ = [some (.ref a), some (.int t), some (.ref o), x3, x4, x5] ∧ Same H H' ∧ H' o = some (.lst (zs.map V.int)) ∧ zs.length = zs0.length ∧ Sq true H' p (((ns.drop t).take (63 - t)).map V.int))
      ⟨zs0, none, none, none, rfl, no.1.trans s2, s2 _ _ no.2.2, rfl, hp⟩ (fun i σ H' _ ⟨_, _, _, _, _, _, _, _, hp'⟩ => hp'.B) ?_ ?_⟩
    · rintro i x T σ H' hi ⟨zs, x3, x4, x5, rfl, sm, ho, hzl, hp'⟩ nT
      have nTo : o ≠ T := ne_of_none ho nT
      obtain ⟨c, hc, rfl⟩ : ∃ c : Int, ((ns.drop t).take (63 - t))[i]? = some c ∧ x = .int c := by
        rw [List.getElem?_map] at hi
        cases e : ((ns.drop t).take (63 - t))[i]? with
        | none =>
          rw [e] at hi
          cases hi
        | some c =>
          rw [e] at hi
          exact ⟨c, rfl, (Option.some.inj hi).symm⟩
      have hil : i < 63 := by
        have := (List.getElem?_eq_some_iff.mp hc).1
        rw [List.length_take, List.length_drop] at this
        omega
      have htn : t < ns.length := by
        have := (List.getElem?_eq_some_iff.mp hc).1
        rw [List.length_take, List.length_drop] at this
        omega
      have hzt : zs.length = t := hzl.trans (hz2 htn)
      have hkt : i % t < zs.length := by
        rw [hzt]
        exact Nat.mod_lt _ ht0
      have eint : ((i : Nat) : Int) % ((t : Nat) : Int) = ((i % t : Nat) : Int) := rfl
      have sT : Same H (upd H' T (.tup [.int (i : Nat), .int c])) := sm.trans (same_new nT)
      have hoT : (upd H' T (.tup [.int (i : Nat), .int c])) o = some (.lst (zs.map V.int)) := by rw [upd_ne nTo]; exact ho
      have hpT : Sq true (upd H' T (.tup [.int (i : Nat), .int c])) p (((ns.drop t).take (63 - t)).map V.int) := (same_new nT).sq hp'
      refine ⟨T, [.int (i : Nat), .int c], rfl, SqT.of upd_same, rfl, .int (i : Nat), [.int c], rfl, .int c, [], rfl, rfl, ?_⟩
      refine ⟨_, rfl, .inl ⟨_, rfl, _, rfl, _, _, rfl, rfl, (by omega), ?_⟩⟩
      have hat : atI (zs.map V.int) ((i % t : Nat) : Int) = some (.int zs[i % t]) := atI_nat (by rw [List.getElem?_map, List.getElem?_eq_getElem hkt]; rfl)
      refine ⟨_, rfl, _, rfl, true, o, _, _, _, rfl, rfl, .lst hoT, hat, _, rfl, _, rfl, _, _, rfl, rfl, _, _, rfl, rfl, .inr ⟨by omega, by omega⟩, _, _, rfl, rfl, ?_⟩
      refine ⟨_, rfl, _, rfl, o, _, _, i % t, rfl, rfl, hoT, by rw [List.length_map]; exact ixN_nat hkt, ?_⟩
      refine ⟨zs.set (i % t) (zs[i % t] + c * ((i : Nat) + 2)), _, _, _, rfl, Same.young sT no.2.1, ?_, ?_, ?_⟩
      · rw [upd_same, List.map_set]
      · rw [List.length_set]
        exact hzl
      · exact hpT.mv fun u e => by rw [upd_ne hpo]; exact e
    · rintro σ H' ⟨zs, x3, x4, x5, rfl, sm, ho, hzl, hp'⟩
      exact ⟨_, rfl, q H' o zs ⟨sm, no.2.1, ho⟩ (by omega) (by omega)⟩
theorem ok__law_of (D : Df K mg "_law_of" s__law_of ["_law_box_here", "_law_goods_so"]) (B : Bn mg) (OT : Ok P w K mg base 1 "_law_take" ["_law_box_here", "_law_size_so"] spTake) : Ok P w K mg base 2 "_law_of" ["_law_box_here", "_law_goods_so"] spOf := by
  refine D.ok sc__law_of (fun vs H Q E h => ?_) (fun f cdv A outer s H vs Q E hr h => ?_)
  · obtain ⟨_, _, _, _, rfl, _⟩ := h
    rfl
  · obtain ⟨b, n, g, xs, rfl, hb, hn, hG, hx, q⟩ := h
    refine ⟨_, pss_one (ps_ret (pe_ix ix_goods (pv 1) (pe_c OT hr (pa_cons (pv 0) (pa_cons (pe_lenG B.len (pa_cons (pv 1) pa_nil)) pa_nil))) (fun _ _ => rfl))), ?_⟩
    have hl := hG.len
    refine ⟨g, rfl, .ref b, rfl, g, rfl, b, g, xs, rfl, hG, b, n, _, rfl, hb, hn, by omega, by omega, fun H' r fr bx r0 r1 => ?_⟩
    have hlt : r.toNat < xs.length := by omega
    exact ⟨b, xs, r.toNat, xs[r.toNat], by rw [Int.toNat_of_nonneg r0], hG.fr fr, List.getElem?_eq_getElem hlt, q H' _ fr bx (List.getElem_mem hlt)⟩
theorem ok__law_pick (D : Df K mg "_law_pick" s__law_pick ["_law_box_here", "_law_goods_so", "_law_count_so"]) (B : Bn mg) (OT : Ok P w K mg base 1 "_law_take" ["_law_box_here", "_law_size_so"] spTake) : Ok P w K mg base 2 "_law_pick" ["_law_box_here", "_law_goods_so", "_law_count_so"] spPick := by
  refine D.ok sc__law_pick (fun vs H Q E h => ?_) (fun f cdv A outer s H vs Q E hr h => ?_)
  · obtain ⟨_, _, _, _, _, rfl, _⟩ := h
    rfl
  · obtain ⟨b, n, m, g, xs, rfl, hb, hn, hm, hG, q⟩ := h
    have nd := sc__law_pick.nd
    have hl := hG.len
    refine ⟨_, pss_cons (ps_par (i := 3) (j := 4) (by rfl) nd rfl rfl (by decide) rfl rfl (pa_cons (pe_listG rfl B.list (pa_cons (pv 1) pa_nil)) (pa_cons (pe_lst pa_nil) pa_nil)) (by rfl))
      (pss_cons (ps_for PassesOwn.never rfl (pi_range1 (by rfl) B.range (pa_cons (pe_callB (call_min2 rfl) (by rfl) B.min (by decide +kernel) (pa_cons (pe_int1 B.int (pa_cons (pv 2) pa_nil)) (pa_cons (pe_len B.len (pa_cons (pv 3) pa_nil)) pa_nil))) pa_nil)) (pg_name (i := 5) nd rfl (.inl rfl))
        (pss_one (ps_expr (pe_bm PySem.F.plainAttrs_list PySem.F.slot_list_append PySem.F.type_list_append mt_append (pv 4) (pa_cons (pe_bm PySem.F.plainAttrs_list PySem.F.slot_list_pop PySem.F.type_list_pop mt_popAt (pv 3) (pa_cons (pe_c OT hr (pa_cons (pv 0) (pa_cons (pe_len B.len (pa_cons (pv 3) pa_nil)) pa_nil))) pa_nil)) pa_nil)))))
      (pss_one (ps_ret (pv 4)))), ?_⟩
    refine ⟨g, rfl, b, g, xs, rfl, hG, fun H1 p1 n1 => ⟨Nat.zero_le _, fun p2 n2 => ⟨_, _, rfl, ?_⟩⟩⟩
    have hp12 : p1 ≠ p2 := ne_of_none n1.2.2 n2
    have s2 : Same H (upd H1 p2 (.lst [])) := n1.1.trans (same_new n2)
    have np2 : H p2 = none := n1.1.free n2
    have hb1 : p1 ≠ b := hb.ne_new n1.2.1
    have hb2 : p2 ≠ b := hb.ne_new np2
    refine ⟨_, rfl, .inl ⟨_, rfl, _, rfl, true, p1, xs, rfl, .lst (by rw [upd_ne hp12]; exact n1.2.2), _, _, rfl, _, rfl, ?_⟩⟩
    have emin : (if ((xs.length : Nat) : Int) < (m : Int) then ((xs.length : Nat) : Int) else (m : Int)) = ((min m xs.length : Nat) : Int) := by
      split <;> omega
    rw [emin]
    refine ⟨by omega, by omega, for_range (lo := 0) (n := (((min m xs.length : Nat) : Int) - 0).toNat)
      (fun i σ H' => ∃ (x5 : Option V) (pool fs : List V), σ = [some (.ref b), some g, some (.int m), some (.ref p1), some (.ref p2), x5] ∧ LwB.Fr b H H' ∧ Bx (n + i) H' b ∧ H' p1 = some (.lst pool) ∧ H' p2 = some (.lst fs) ∧ fs.length = i ∧ (fs ++ pool).Perm xs)
      ⟨none, xs, [], rfl, Fr.same s2, hb.same s2, by rw [upd_ne hp12]; exact n1.2.2, upd_same, rfl, List.Perm.refl _⟩ ?_ ?_⟩
    · rintro i σ H' hi ⟨x5, pool, fs, rfl, fr, bx, e1, e2, hf, pm⟩
      have hi' : i < min m xs.length := by omega
      have hpl : fs.length + pool.length = xs.length := by
        rw [← List.length_append]
        exact pm.length_eq
      refine ⟨_, rfl, .inl ⟨rfl, _, SqL.of e2⟩, _, rfl, .inl ⟨rfl, _, SqL.of e1⟩, _, rfl, _, rfl, true, p1, pool, rfl, .lst e1, b, n + i, _, rfl, bx, by omega, by omega, by omega, fun H2 r fr2 bx2 r0 r1 => ?_⟩
      have hk : r.toNat < pool.length := by omega
      have e1' : H2 p1 = some (.lst pool) := fr2 _ _ e1 hb1
      have e2' : H2 p2 = some (.lst fs) := fr2 _ _ e2 hb2
      refine ⟨p1, pool, r, r.toNat, pool[r.toNat], rfl, rfl, e1', by omega, by omega, ?_, List.getElem?_eq_getElem hk, ?_⟩
      · have := seqIndex_nat hk
        rw [Int.toNat_of_nonneg r0] at this
        exact this
      · refine ⟨p2, fs, _, rfl, rfl, by rw [upd_ne hp12.symm]; exact e2', by show fs.length < sizeLine; exact Nat.lt_of_le_of_lt (by omega : fs.length ≤ 1000000) (by decide), ?_⟩
        refine ⟨_, pool.eraseIdx r.toNat, fs ++ [pool[r.toNat]], rfl, Fr.young (Fr.young (fr.trans fr2) n1.2.1) np2, ?_, ?_, upd_same, ?_, pick_perm hk pm⟩
        · exact (bx2.upd hb1).upd hb2
        · rw [upd_ne hp12]
          exact upd_same
        · rw [List.length_append, List.length_singleton, hf]
    · rintro σ H' ⟨x5, pool, fs, rfl, fr, bx, e1, e2, hf, pm⟩
      refine ⟨_, rfl, q H' p2 fs pool fr ?_ np2 e2 pm ?_⟩
      · exact bx.mono (by omega)
      · rw [hf]
        omega
end
end K09
namespace K09
open PySem PySem.Spec PyProof.Rows L2 IqX RvT LwB EnS
section
variable {P : Program} {w : World} {K : PySem.W.Frag} {mg : Str → Option Value} {base : Heap}
theorem ok__law_same (D : Df K mg "_law_same" s__law_same ["_law_got", "_law_due"]) (B : Bn mg) : ∀ n : Nat, Ok P w K mg base n "_law_same" ["_law_got", "_law_due"] (spSame n)
  | 0 => by
    obtain ⟨f, fd, F, g, b⟩ := D.ex
    obtain ⟨oc, od, _, _, _, _, _, _, osl, _, lk, _⟩ := F.ex
    exact ⟨f, fd, ⟨fun vs H Q E h => h.elim, fun A outer s H args us vs Q E hr he hb hv h => h.elim⟩, g, F.kp, b, oc, od, osl, lk⟩
  | n + 1 => by
    have IH := ok__law_same D B n
    refine D.ok sc__law_same (fun vs H Q E h => spSame_len h) (fun f cdv A outer s H vs Q E hr h => ?_)
    obtain ⟨v1, v2, t, rfl, i1, i2, q⟩ := h
    have nd := sc__law_same.nd
    refine ⟨_, pss_cons (ps_if (pt_val (pe_isQ2 B.isinstance (pa_cons (pv 1) (pa_cons (pe_tup (pa_cons (pe_ty (n := "list") B.list) (pa_cons (pe_ty (n := "tuple") B.tuple) pa_nil))) pa_nil))))
        (pss_cons (ps_if (pt_cmpR op_ne (pe_isQ B.isinstance (pa_cons (pv 0) (pa_cons (pe_ty (n := "list") B.list) pa_nil))) (pe_isQ B.isinstance (pa_cons (pv 1) (pa_cons (pe_ty (n := "list") B.list) pa_nil))) (nomark _)) (pss_one (ps_ret pe_bl)) pss_nil)
        (pss_cons (ps_if (pt_cmpR op_ne (pe_isQ B.isinstance (pa_cons (pv 0) (pa_cons (pe_ty (n := "tuple") B.tuple) pa_nil))) (pe_isQ B.isinstance (pa_cons (pv 1) (pa_cons (pe_ty (n := "tuple") B.tuple) pa_nil))) (nomark _)) (pss_one (ps_ret pe_bl)) pss_nil)
        (pss_one (ps_ret (pe_and (pe_cmpR op_eq (pe_len B.len (pa_cons (pv 0) pa_nil)) (pe_len B.len (pa_cons (pv 1) pa_nil)) (nomark _)) (pe_one (pe_callB (cr_all rfl) (by rfl) B.all (by decide +kernel) (pa_cons
          (pe_lc (own := [("_law_mine", 2), ("_law_its", 3)]) (g := gTup K 2 (gCons (gName 2) (gCons (gName 3) gNil))) (by rfl) nd (pi_zipQ B.zip (pa_cons (pv 0) (pa_cons (pv 1) pa_nil))) (blkOk_by (N := ["_law_got", "_law_due", "_law_mine", "_law_its"]) (sc := defScope s__law_same) (by decide +kernel))
            (fun _ _ _ _ _ => pg_tup rfl (pgs_cons (pg_name (i := 2) nd rfl (.inl rfl)) (pgs_cons (pg_name (i := 3) nd rfl (.inl rfl)) pgs_nil))) (fun _ _ _ _ _ => pts_nil)
            (fun _ _ _ _ _ => pe_c IH hr (pa_cons (pv 2) (pa_cons (pv 3) pa_nil)))) pa_nil)))))))) pss_nil)
      (pss_cons (ps_if (PW.pt (pw_or (pt_cmpR op_isN (pv 1) pe_non (nomark _)) (pw_or1 (pt_val (pe_isQ2 B.isinstance (pa_cons (pv 1) (pa_cons (pe_tup (pa_cons (pe_ty (n := "bool") B.bool) (pa_cons (pe_ty (n := "str") B.str) pa_nil))) pa_nil)))))))
        (pss_one (ps_ret (pe_and (pe_cmpR op_eq (pv 0) (pv 1) (nomark _)) (pe_and (pe_cmpR op_eq (pe_isQ B.isinstance (pa_cons (pv 0) (pa_cons (pe_ty (n := "bool") B.bool) pa_nil))) (pe_isQ B.isinstance (pa_cons (pv 1) (pa_cons (pe_ty (n := "bool") B.bool) pa_nil))) (nomark _))
          (pe_one (pe_cmpR op_eq (pe_cmpR op_isN (pv 0) pe_non (nomark _)) (pe_cmpR op_isN (pv 1) pe_non (nomark _)) (nomark _))))))) pss_nil)
      (pss_one (ps_ret (pe_and (pe_isQ B.isinstance (pa_cons (pv 0) (pa_cons (pe_ty (n := "int") B.int) pa_nil))) (pe_and (pe_not (pe_isQ B.isinstance (pa_cons (pv 0) (pa_cons (pe_ty (n := "bool") B.bool) pa_nil)))) (pe_one (pe_cmpR op_eq (pv 0) (pv 1) (nomark _)))))))), ?_⟩
    cases t with
    | non =>
      have e1 := i1.non_eq
      have e2 := i2.non_eq
      subst e1 e2
      refine ⟨_, rfl, (by show 2 ≤ sizeLine; decide), fun p np => ⟨_, p, "list", "tuple", "NoneType", false, false, rfl, upd_same, .base .non, (by decide +kernel), (by decide +kernel), false, rfl, iteF ?_⟩⟩
      refine ⟨_, rfl, rfl, _, rfl, iteD rfl (iteT ?_)⟩
      refine ⟨_, rfl, _, rfl, rfl, _, rfl, iteD rfl ⟨_, rfl, _, "bool", "NoneType", false, rfl, .base .non, (by decide +kernel), _, rfl, _, "bool", "NoneType", false, rfl, .base .non, (by decide +kernel), rfl, _, rfl, iteD rfl ⟨_, rfl, rfl, _, rfl, rfl, rfl, ?_⟩⟩⟩
      rw [decide_eq_true rfl]
      exact q _ (same_new np)
    | bl b =>
      have e1 := i1.bl_eq
      have e2 := i2.bl_eq
      subst e1 e2
      refine ⟨_, rfl, (by show 2 ≤ sizeLine; decide), fun p np => ⟨_, p, "list", "tuple", "bool", false, false, rfl, upd_same, .base (.bl _), (by decide +kernel), (by decide +kernel), false, rfl, iteF ?_⟩⟩
      refine ⟨_, rfl, rfl, _, rfl, iteDF (fun h => nomatch h) ⟨_, rfl, (by show 2 ≤ sizeLine; decide), fun p2 np2 => ⟨_, p2, "bool", "str", "bool", true, false, rfl, upd_same, .base (.bl _), (by decide +kernel), (by decide +kernel), true, rfl, iteT ?_⟩⟩⟩
      refine ⟨_, rfl, _, rfl, rfl, _, rfl, iteD rfl ⟨_, rfl, _, "bool", "bool", true, rfl, .base (.bl _), (by decide +kernel), _, rfl, _, "bool", "bool", true, rfl, .base (.bl _), (by decide +kernel), rfl, _, rfl, iteD rfl ⟨_, rfl, rfl, _, rfl, rfl, rfl, ?_⟩⟩⟩
      rw [decide_eq_true rfl]
      exact q _ ((same_new np).trans (same_new np2))
    | str z =>
      have e1 := i1.str_eq
      have e2 := i2.str_eq
      subst e1 e2
      refine ⟨_, rfl, (by show 2 ≤ sizeLine; decide), fun p np => ⟨_, p, "list", "tuple", "str", false, false, rfl, upd_same, .base (.str _), (by decide +kernel), (by decide +kernel), false, rfl, iteF ?_⟩⟩
      refine ⟨_, rfl, rfl, _, rfl, iteDF (fun h => nomatch h) ⟨_, rfl, (by show 2 ≤ sizeLine; decide), fun p2 np2 => ⟨_, p2, "bool", "str", "str", false, true, rfl, upd_same, .base (.str _), (by decide +kernel), (by decide +kernel), true, rfl, iteT ?_⟩⟩⟩
      refine ⟨_, rfl, _, rfl, rfl, _, rfl, iteD rfl ⟨_, rfl, _, "bool", "str", false, rfl, .base (.str _), (by decide +kernel), _, rfl, _, "bool", "str", false, rfl, .base (.str _), (by decide +kernel), rfl, _, rfl, iteD rfl ⟨_, rfl, rfl, _, rfl, rfl, rfl, ?_⟩⟩⟩
      rw [decide_eq_true rfl]
      exact q _ ((same_new np).trans (same_new np2))
    | int i =>
      have e1 := i1.int_eq
      have e2 := i2.int_eq
      subst e1 e2
      refine ⟨_, rfl, (by show 2 ≤ sizeLine; decide), fun p np => ⟨_, p, "list", "tuple", "int", false, false, rfl, upd_same, .base (.int _), (by decide +kernel), (by decide +kernel), false, rfl, iteF ?_⟩⟩
      refine ⟨_, rfl, rfl, _, rfl, iteDF (fun h => nomatch h) ⟨_, rfl, (by show 2 ≤ sizeLine; decide), fun p2 np2 => ⟨_, p2, "bool", "str", "int", false, false, rfl, upd_same, .base (.int _), (by decide +kernel), (by decide +kernel), false, rfl, iteF ?_⟩⟩⟩
      refine ⟨_, rfl, _, "int", "int", true, rfl, .base (.int _), (by decide +kernel), _, rfl, iteT ⟨_, rfl, _, "bool", "int", false, rfl, .base (.int _), (by decide +kernel), _, rfl, _, rfl, iteT ⟨_, rfl, _, rfl, rfl, ?_⟩⟩⟩
      rw [decide_eq_true rfl]
      exact q _ ((same_new np).trans (same_new np2))
    | sq t ts =>
      obtain ⟨m, a1, xs, en, e1, ⟨h1, _⟩, l1, p1⟩ := i1.sq_eq
      obtain ⟨m', a2, ys, en', e2, ⟨h2, _⟩, l2, p2⟩ := i2.sq_eq
      subst e1 e2 en
      cases en'
      have hlen : xs.length = ys.length := (Paired.length p1).symm.trans (Paired.length p2)
      have hk1 : kitB (if t = true then "list" else "tuple") "list" = some t := by cases t <;> decide +kernel
      have hk2 : kitB (if t = true then "list" else "tuple") "tuple" = some (!t) := by cases t <;> decide +kernel
      refine ⟨_, rfl, (by show 2 ≤ sizeLine; decide), fun p np => ⟨_, p, "list", "tuple", _, _, _, rfl, upd_same, ((same_new np).sq h2).ty, hk1, hk2, true, by cases t <;> rfl, iteT ?_⟩⟩
      have sp := same_new (o := .tup [V.ty "list", V.ty "tuple"]) np
      generalize hH1 : upd H p (.tup [V.ty "list", V.ty "tuple"]) = H1 at sp ⊢
      have h1' := sp.sq h1
      have h2' := sp.sq h2
      refine ⟨_, rfl, _, "list", _, _, rfl, h1'.ty, hk1, _, rfl, _, "list", _, _, rfl, h2'.ty, hk1, rfl, _, rfl, iteND rfl ?_⟩
      refine ⟨_, rfl, _, "tuple", _, _, rfl, h1'.ty, hk2, _, rfl, _, "tuple", _, _, rfl, h2'.ty, hk2, rfl, _, rfl, iteND rfl ?_⟩
      refine ⟨_, rfl, t, a1, xs, rfl, h1', _, rfl, t, a2, ys, rfl, h2', rfl, _, rfl, iteD (by rw [hlen]) ?_⟩
      refine ⟨_, rfl, _, rfl, t, a1, a2, xs, ys, rfl, h1'.B, h2'.B, fun D nD => ?_⟩
      refine lc_zipB (K := K) (b := t) (a := a1) (c := a2) (xs := xs) (ys := ys) hlen (fun i H' => Same H1 H' ∧ H' D = some (.lst ((List.replicate i true).map V.bl)))
        ⟨same_new nD, upd_same⟩ (fun i H' _ hp => ⟨(hp.1.sq h1').B, (hp.1.sq h2').B⟩) ?_ ?_
      · rintro i x y T H' hx hy ⟨sm, hD⟩ nT
        obtain ⟨tx, etx, ix⟩ := paired_get p1 hx
        obtain ⟨ty, ety, iy⟩ := paired_get p2 hy
        rw [etx] at ety
        cases ety
        have sT := same_new (o := .tup [x, y]) nT
        refine ⟨T, [x, y], rfl, SqT.of upd_same, rfl, x, [y], rfl, y, [], rfl, rfl, rfl, ?_⟩
        show tCall (spSame (m + 1)) [] E0 (tCons (tVar 2) (tCons (tVar 3) tNil)) _ _ _
        have sall : Same H (upd H' T (.tup [x, y])) := sp.trans (sm.trans sT)
        refine ⟨_, rfl, _, rfl, x, y, tx, rfl, ix.same sall, iy.same sall, fun H2 s2 => ?_⟩
        have hDT : D ≠ T := ne_of_none hD nT
        have hD2 : H2 D = some (.lst ((List.replicate i true).map V.bl)) := s2 _ _ (by rw [upd_ne hDT]; exact hD)
        have hil := (List.getElem?_eq_some_iff.mp hx).1
        refine ⟨_, hD2, ?_, Same.young (sm.trans (sT.trans s2)) nD, ?_⟩
        · rw [List.length_map, List.length_replicate]
          exact Nat.lt_of_lt_of_le hil (Nat.le_trans l1 (by decide))
        · rw [upd_same, List.replicate_succ', List.map_append]
          rfl
      · rintro H' ⟨sm, hD⟩
        refine ⟨D, List.replicate xs.length true, rfl, SqL.of hD, ?_⟩
        have ea : (List.replicate xs.length true).all id = true := by
          rw [List.all_eq_true]
          intro z hz
          exact (List.mem_replicate.mp hz).2
        rw [ea]
        exact q H' (sp.trans sm)
end
end K09
namespace K09
open PySem PySem.Spec PyProof.Rows L2 IqX RvT LwB EnS TL
section
variable {P : Program} {w : World} {K : PySem.W.Frag} {mg : Str → Option Value} {base : Heap}
abbrev letters : Str := Str.ofString "abcdefghijklmnopqrstuvwxyz"
theorem tl_letters : tl letters = List.range' 97 26 := by decide +kernel
theorem letter_of {c : Nat} (h : c ∈ tl letters) : Letter c := by
  rw [tl_letters] at h
  have := List.mem_range'_1.mp h
  unfold Letter
  omega
theorem letters_nodup : (tl letters).Nodup := by rw [tl_letters]; decide
theorem goods_letters {H : Hp} {b : Addr} : Goods H b (.str letters) ((tl letters).map gv) := .inl ⟨letters, rfl, by rw [show letters.length = 26 by decide +kernel]; decide, signs_eq _⟩
theorem ok__law_names (D : Df K mg "_law_names" s__law_names ["_law_box_here", "_law_much_so"]) (B : Bn mg) (OT : Ok P w K mg base 1 "_law_take" ["_law_box_here", "_law_size_so"] spTake) (OO : Ok P w K mg base 2 "_law_of" ["_law_box_here", "_law_goods_so"] spOf)
    (OP : Ok P w K mg base 2 "_law_pick" ["_law_box_here", "_law_goods_so", "_law_count_so"] spPick) : Ok P w K mg base 3 "_law_names" ["_law_box_here", "_law_much_so"] spNames := by
  refine D.ok sc__law_names (fun vs H Q E h => ?_) (fun f cdv A outer s H vs Q E hr h => ?_)
  · obtain ⟨_, _, _, rfl, _⟩ := h
    rfl
  · obtain ⟨b, n, m, rfl, hb, hn, hm, q⟩ := h
    have nd := sc__law_names.nd
    have hr1 : Room 1 _ := hr.mono (by decide)
    refine ⟨_, pss_cons (ps_set (i := 2) nd rfl (.inr rfl) pe_str)
      (pss_cons (ps_set (i := 3) nd rfl (.inl rfl) (pe_op op_add pe_int (pe_c OT hr1 (pa_cons (pv 0) (pa_cons pe_int pa_nil)))))
      (pss_cons (ps_setLc (i := 4) (own := [("_law_turn", 9)]) (g := gName 9) rfl nd rfl rfl (sw_true rfl rfl rfl (by decide +kernel)) (pi_range1 (by rfl) B.range (pa_cons (pv 3) pa_nil))
        (blkOk_by (N := ["_law_box_here", "_law_much_so", "_law_letters_so", "_law_long", "_law_some", "_law_sort_so", "_law_spot_so", "_law_found", "_law_sign", "_law_turn"]) (sc := defScope s__law_names) (by decide +kernel))
        (fun _ _ _ _ _ => pg_name (i := 9) nd rfl (.inl rfl)) (fun _ _ _ _ _ => pts_nil) (fun _ _ _ _ _ => pe_c OO hr (pa_cons (pv 0) (pa_cons (pv 2) pa_nil))))
      (pss_cons (ps_par3 (i := 5) (j := 6) (l := 7) (by rfl) nd rfl rfl rfl (by decide) (by decide) (by decide) rfl rfl rfl (pa_cons (pe_c OT hr1 (pa_cons (pv 0) (pa_cons pe_int pa_nil))) (pa_cons (pe_c OT hr1 (pa_cons (pv 0) (pa_cons (pv 3) pa_nil))) (pa_cons (pe_lst pa_nil) pa_nil))) (by rfl))
      (pss_cons (ps_for PassesOwn.never rfl (pi_list (pe_c OP hr (pa_cons (pv 0) (pa_cons (pv 2) (pa_cons (pv 1) pa_nil))))) (pg_name (i := 8) nd rfl (.inl rfl))
        (pss_one (ps_if (pt_cmpR op_eq (pv 5) pe_int (nomark _))
          (pss_one (ps_expr (pe_bm PySem.F.plainAttrs_list PySem.F.slot_list_append PySem.F.type_list_append mt_append (pv 7) (pa_cons (pv 8) pa_nil))))
          (pss_one (ps_if (pt_cmpR op_lt (pv 5) pe_int (nomark _))
            (pss_one (ps_expr (pe_bm PySem.F.plainAttrs_list PySem.F.slot_list_append PySem.F.type_list_append mt_append (pv 7) (pa_cons
              (pe_join pe_str (pe_op op_cat (pe_op op_cat (pe_slice sl_sq (pv 4) po_none (po_some (pv 6))) (pe_lst (pa_cons (pv 8) pa_nil))) (pe_slice sl_sq (pv 4) (po_some (pe_op op_add (pv 6) pe_int)) po_none))) pa_nil))))
            (pss_one (ps_expr (pe_bm PySem.F.plainAttrs_list PySem.F.slot_list_append PySem.F.type_list_append mt_append (pv 7) (pa_cons
              (pe_op op_add_str (pv 8) (pe_join pe_str
                (pe_lc (own := [("_law_turn", 9)]) (g := gName 9) (by rfl) nd (pi_range1 (by rfl) B.range (pa_cons (pe_c OT hr1 (pa_cons (pv 0) (pa_cons pe_int pa_nil))) pa_nil))
                  (blkOk_by (N := ["_law_box_here", "_law_much_so", "_law_letters_so", "_law_long", "_law_some", "_law_sort_so", "_law_spot_so", "_law_found", "_law_sign", "_law_turn"]) (sc := defScope s__law_names) (by decide +kernel))
                  (fun _ _ _ _ _ => pg_name (i := 9) nd rfl (.inl rfl)) (fun _ _ _ _ _ => pts_nil) (fun _ _ _ _ _ => pe_c OO hr (pa_cons (pv 0) (pa_cons (pv 2) pa_nil)))))) pa_nil)))))))))
      (pss_one (ps_ret (pv 7))))))), ?_⟩
    refine ⟨_, rfl, b, n, 8, rfl, hb, by omega, by decide, by decide, fun H1 r fr1 bx1 r0 r1 => ?_⟩
    refine ⟨1, r, rfl, rfl, _, rfl, 1 + r, rfl, by omega, by omega, fun Ds nDs => ?_⟩
    have nDs0 : H Ds = none := fr1.free (bx1.ne_new nDs) nDs
    have hDb : Ds ≠ b := bx1.ne_new nDs
    refine lc_range (lo := 0) (n := (1 + r).toNat) (fun i H' => LwB.Fr b H H' ∧ Bx (n + 1 + i) H' b ∧ ∃ cs : List Nat, H' Ds = some (.lst (cs.map gv)) ∧ cs.length = i ∧ ∀ c ∈ cs, Letter c)
      ⟨fr1.young nDs0, bx1.new nDs, [], upd_same, rfl, fun c h => nomatch h⟩ ?_ ?_
    · rintro i H2 hi ⟨fr2, bx2, cs, e2, hl2, hc2⟩
      refine ⟨rfl, ?_⟩
      show tCall spOf [] E0 (tCons (tVar 0) (tCons (tVar 2) tNil)) _ _ _
      refine ⟨_, rfl, _, rfl, b, n + 1 + i, _, _, rfl, bx2, by omega, goods_letters, by rw [List.length_map, tl_letters]; decide, fun H3 x fr3 bx3 hx => ?_⟩
      obtain ⟨c, hc, rfl⟩ := mem_gv hx
      refine ⟨_, fr3 _ _ e2 hDb, ?_, (fr2.trans fr3).young nDs0, ?_, cs ++ [c], ?_, ?_, ?_⟩
      · rw [List.length_map, hl2]
        exact small1000 (by omega)
      · exact (bx3.mono (by omega)).upd hDb
      · rw [upd_same, List.map_append]
        rfl
      · rw [List.length_append, List.length_singleton, hl2]
      · intro c' h'
        rcases List.mem_append.mp h' with h' | h'
        · exact hc2 c' h'
        · rw [List.mem_singleton.mp h']
          exact letter_of hc
    rintro H2 ⟨fr2, bx2, cs, e2, hl2, hc2⟩
    have hlong : cs.length ≤ 8 ∧ 1 ≤ cs.length := by omega
    refine ⟨_, rfl, b, n + 1 + (1 + r).toNat, 4, rfl, bx2, by omega, by decide, by decide, fun H3 so fr3 bx3 so0 so1 => ?_⟩
    refine ⟨_, rfl, _, rfl, b, n + 1 + (1 + r).toNat + 1, _, rfl, bx3, by omega, by omega, by omega, fun H4 spi fr4 bx4 sp0 sp1 => ?_⟩
    obtain ⟨sp, rfl⟩ := Int.eq_ofNat_of_zero_le sp0
    refine ⟨Nat.zero_le _, fun F nF => ⟨_, _, _, rfl, ?_⟩⟩
    have e4 : H4 Ds = some (.lst (cs.map gv)) := fr4 _ _ (fr3 _ _ e2 hDb) hDb
    have fr5 : LwB.Fr b H H4 := fr2.trans (fr3.trans fr4)
    have hFb : F ≠ b := bx4.ne_new nF
    have nF0 : H F = none := fr5.free hFb nF
    have hFD : Ds ≠ F := ne_of_none e4 nF
    have bx5 : Bx (n + 20) (upd H4 F (.lst [])) b := (bx4.mono (by omega)).new nF
    generalize hH5 : upd H4 F (.lst []) = H5 at bx5
    have e5 : H5 Ds = some (.lst (cs.map gv)) := by rw [← hH5, upd_ne hFD]; exact e4
    have eF : H5 F = some (.lst []) := by rw [← hH5]; exact upd_same
    have fr6 : LwB.Fr b H H5 := by rw [← hH5]; exact fr5.young nF0
    refine ⟨_, rfl, _, rfl, _, rfl, b, n + 20, m, _, _, rfl, bx5, by omega, by omega, goods_letters, fun H6 pk ys rest fr7 bx6 npk hpk pm hyl => ?_⟩
    obtain ⟨ds, rs, rfl, pm2⟩ := picked pm
    have hyl2 : ds.length = m := by
      rw [List.length_map, List.length_map, tl_letters] at hyl
      have : (List.range' 97 26).length = 26 := rfl
      omega
    have dnod : ds.Nodup := (List.nodup_append.mp (pm2.nodup_iff.mpr letters_nodup)).1
    have dlet : ∀ c ∈ ds, Letter c := fun c h => letter_of (pm2.subset (List.mem_append_left _ h))
    have hpb : pk ≠ b := bx5.ne_new npk
    have npk0 : H pk = none := fr6.free hpb npk
    have e6 : H6 Ds = some (.lst (cs.map gv)) := fr7 _ _ e5 hDb
    have eF6 : H6 F = some (.lst []) := fr7 _ _ eF hFb
    have hpF : pk ≠ F := (ne_of_none eF npk).symm
    have hpD : pk ≠ Ds := (ne_of_none e5 npk).symm
    -- the place at which the names differ
    let j : Nat := if so = 0 then 0 else if so < 3 then sp else 0
    refine ⟨pk, rfl, ⟨_, SqL.of hpk⟩, for_list (K := K) (a := pk) (xs := ds.map gv)
      (fun i σ H' => ∃ x8 : Option V, σ = [some (.ref b), some (.int m), some (.str letters), some (.int (1 + r)), some (.ref Ds), some (.int so), some (.int sp), some (.ref F), x8, none] ∧
        LwB.Fr b H H' ∧ Bx (n + 20 + m + 9 * i) H' b ∧ H' pk = some (.lst (ds.map gv)) ∧ H' Ds = some (.lst (cs.map gv)) ∧
        ∃ ss : List Str, H' F = some (.lst (ss.map V.str)) ∧ ss.length = i ∧ (∀ z ∈ ss, NameOk z) ∧ ss.map (fun z => (tl z)[j]?) = (ds.take i).map some)
      ⟨none, rfl, fr6.trans fr7, bx6, hpk, e6, [], eF6, rfl, (fun z h => nomatch h), rfl⟩ (fun i σ H' _ ⟨_, _, _, _, h, _⟩ => SqL.of h) ?_ ?_⟩
    · rintro i x σ H' hi ⟨x8, rfl, fr, bx, hpk', eD', ss, eF', hsl, hok, hkey⟩
      obtain ⟨c, hc, rfl⟩ : ∃ c, ds[i]? = some c ∧ x = gv c := by
        rw [List.getElem?_map] at hi
        cases e : ds[i]? with
        | none =>
          rw [e] at hi
          cases hi
        | some c =>
          rw [e] at hi
          exact ⟨c, rfl, (Option.some.inj hi).symm⟩
      have hcl : Letter c := dlet c (List.mem_of_getElem? hc)
      have him : i < 26 := by
        have := (List.getElem?_eq_some_iff.mp hc).1
        omega
      have key : ∀ z : Str, (tl z)[j]? = some c → (ss ++ [z]).map (fun z => (tl z)[j]?) = (ds.take (i + 1)).map some := fun z hz => by
        rw [List.map_append, hkey, List.take_add_one, hc, List.map_append]
        rw [show List.map (fun z => (tl z)[j]?) [z] = [(tl z)[j]?] from rfl, hz]
        rfl
      refine ⟨.int so, rfl, rfl, _, rfl, ite2 (fun h0 => ?_) (fun h0 => ?_)⟩
      · have hso : so = 0 := V.int.inj (of_decide_eq_true h0)
        refine ⟨_, rfl, .inl ⟨rfl, _, SqL.of eF'⟩, _, rfl, F, _, _, rfl, rfl, eF', by rw [List.length_map, hsl]; exact small1000 (by omega), ?_⟩
        refine ⟨_, rfl, fr.young nF0, (bx.mono (by omega)).upd hFb, by rw [upd_ne hpF]; exact hpk', by rw [upd_ne hFD]; exact eD', ss ++ [one c], ?_, ?_, ?_, ?_⟩
        · rw [upd_same, List.map_append]
          rfl
        · rw [List.length_append, List.length_singleton, hsl]
        · intro z hz
          rcases List.mem_append.mp hz with hz | hz
          · exact hok z hz
          · rw [List.mem_singleton.mp hz]
            refine ⟨Nat.le_refl 1, (by show 1 ≤ 8; decide), fun c' h' => ?_⟩
            rw [tl_one, List.mem_singleton] at h'
            rw [h']
            exact hcl
        · refine key _ ?_
          show (tl (one c))[if so = 0 then 0 else if so < 3 then sp else 0]? = some c
          rw [if_pos hso]
          rfl
      · have hso : so ≠ 0 := fun e => h0 (by rw [e]; exact decide_eq_true rfl)
        refine ⟨_, rfl, so, 3, rfl, rfl, _, rfl, ite2 (fun h3 => ?_) (fun h3 => ?_)⟩
        · have hj : j = sp := by
            show (if so = 0 then 0 else if so < 3 then sp else 0) = sp
            rw [if_neg hso, if_pos (of_decide_eq_true h3)]
          have hspl : sp < cs.length := by omega
          refine ⟨_, rfl, .inl ⟨rfl, _, SqL.of eF'⟩, ⟨_, rfl⟩, .ref Ds, rfl, .int sp, rfl, sp, rfl, true, Ds, _, rfl, .lst eD', fun Ha pa sa na qa => ?_⟩
          have ea := (na rfl).2
          rw [cut_to, ← List.map_take] at ea
          refine ⟨_, rfl, (by show 1 ≤ sizeLine; decide), fun pb nb => ?_⟩
          have hab : pa ≠ pb := ne_of_none ea nb
          have sb : Same H' (upd Ha pb (.lst [gv c])) := sa.trans (same_new nb)
          refine ⟨pa, pb, (cs.take sp).map gv, [gv c], rfl, rfl, by rw [upd_ne hab]; exact ea, upd_same, ?_, fun pc nc => ?_⟩
          · rw [List.length_map, List.length_take]
            exact Nat.le_trans (show min sp cs.length + 1 ≤ 9 by omega) (by decide)
          have sc : Same H' (upd (upd Ha pb (.lst [gv c])) pc (.lst ((cs.take sp).map gv ++ [gv c]))) := sb.trans (same_new nc)
          generalize hHc : upd (upd Ha pb (.lst [gv c])) pc (.lst ((cs.take sp).map gv ++ [gv c])) = Hc at sc ⊢
          have ec : Hc pc = some (.lst ((cs.take sp).map gv ++ [gv c])) := by rw [← hHc]; exact upd_same
          refine ⟨.ref Ds, rfl, _, rfl, sp, 1, rfl, rfl, sp + 1, rfl, true, Ds, _, rfl, sc.sq (.lst eD'), fun Hd pd sd nd' qd => ?_⟩
          have ed := (nd' rfl).2
          rw [show ((sp : Nat) : Int) + 1 = ((sp + 1 : Nat) : Int) from rfl, cut_from, ← List.map_drop] at ed
          refine ⟨pc, pd, _, _, rfl, rfl, sd _ _ ec, ed, ?_, fun pe ne => ?_⟩
          · rw [List.length_append, List.length_map, List.length_map, List.length_take, List.length_drop]
            exact Nat.le_trans (show min sp cs.length + [gv c].length + (cs.length - (sp + 1)) ≤ 20 by show min sp cs.length + 1 + (cs.length - (sp + 1)) ≤ 20; omega) (by decide)
          have se := sc.trans (sd.trans (same_new (o := HO.lst ((cs.take sp).map gv ++ [gv c] ++ (cs.drop (sp + 1)).map gv)) ne))
          have ev : (cs.take sp).map gv ++ [gv c] ++ (cs.drop (sp + 1)).map gv = ((cs.take sp ++ [c] ++ cs.drop (sp + 1)).map one).map V.str := by
            rw [vals_ones, List.map_append, List.map_append]
            rfl
          have elen : (cs.take sp ++ [c] ++ cs.drop (sp + 1)).length = cs.length := by
            rw [List.length_append, List.length_append, List.length_take, List.length_drop]
            show min sp cs.length + 1 + (cs.length - (sp + 1)) = cs.length
            omega
          refine ⟨_, pe, (cs.take sp ++ [c] ++ cs.drop (sp + 1)).map one, rfl, rfl, .inl (SqL.of (by rw [← ev]; exact upd_same)), ?_, ?_⟩
          · rw [len_ones, List.length_map, elen]
            show cs.length + cs.length * (Str.ofString "").length ≤ 16777216
            rw [show (Str.ofString "").length = 0 by decide +kernel]
            omega
          generalize hHe : upd Hd pe _ = He at se ⊢
          have eFe : He F = some (.lst (ss.map V.str)) := se _ _ eF'
          have frE : LwB.Fr b H' He := Fr.same se
          have ez : tl (Txt.join (Str.ofString "") ((cs.take sp ++ [c] ++ cs.drop (sp + 1)).map one)) = cs.take sp ++ [c] ++ cs.drop (sp + 1) := tl_joined (by decide +kernel) _
          generalize hz : Txt.join (Str.ofString "") ((cs.take sp ++ [c] ++ cs.drop (sp + 1)).map one) = z at ez ⊢
          refine ⟨F, _, _, rfl, rfl, eFe, by rw [List.length_map, hsl]; exact small1000 (by omega), ?_⟩
          refine ⟨_, rfl, (fr.trans frE).young nF0, ((bx.same se).mono (by omega)).upd hFb, by rw [upd_ne hpF]; exact se _ _ hpk', by rw [upd_ne hFD]; exact se _ _ eD', ss ++ [z], ?_, ?_, ?_, ?_⟩
          · rw [upd_same, List.map_append]
            rfl
          · rw [List.length_append, List.length_singleton, hsl]
          · intro y hy
            rcases List.mem_append.mp hy with hy | hy
            · exact hok y hy
            · rw [List.mem_singleton.mp hy]
              refine ⟨by rw [ez, elen]; exact hlong.2, by rw [ez, elen]; exact hlong.1, fun c' h' => ?_⟩
              rw [ez] at h'
              rcases List.mem_append.mp h' with h' | h'
              · rcases List.mem_append.mp h' with h' | h'
                · exact hc2 c' (List.mem_of_mem_take h')
                · rw [List.mem_singleton.mp h']
                  exact hcl
              · exact hc2 c' (List.mem_of_mem_drop h')
          · refine key _ ?_
            rw [ez, hj, List.append_assoc, List.getElem?_append_right (by rw [List.length_take]; omega), List.length_take, show sp - min sp cs.length = 0 by omega]
            rfl
        · have hj : j = 0 := by
            show (if so = 0 then 0 else if so < 3 then sp else 0) = 0
            rw [if_neg hso, if_neg fun e => h3 (decide_eq_true e)]
          refine ⟨_, rfl, .inl ⟨rfl, _, SqL.of eF'⟩, _, rfl, ⟨_, rfl⟩, _, rfl, b, n + 20 + m + 9 * i, 8, rfl, bx, by omega, by decide, by decide, fun Ha t fa ba t0 t1 => ?_⟩
          refine ⟨t, rfl, by omega, by omega, fun L nL => ?_⟩
          have hLb : L ≠ b := ba.ne_new nL
          have eFa : Ha F = some (.lst (ss.map V.str)) := fa _ _ eF' hFb
          have nL0 : H' L = none := fa.free hLb nL
          refine lc_range (lo := 0) (n := t.toNat) (fun u H2 => LwB.Fr b H' H2 ∧ Bx (n + 20 + m + 9 * i + 1 + u) H2 b ∧ ∃ es : List Nat, H2 L = some (.lst (es.map gv)) ∧ es.length = u ∧ ∀ c ∈ es, Letter c)
            ⟨fa.young nL0, ba.new nL, [], upd_same, rfl, fun c h => nomatch h⟩ ?_ ?_
          · rintro u H2 hu ⟨fr2, bx2, es, e2, hl2, hc2⟩
            refine ⟨rfl, ?_⟩
            show tCall spOf [] E0 (tCons (tVar 0) (tCons (tVar 2) tNil)) _ _ _
            refine ⟨_, rfl, _, rfl, b, n + 20 + m + 9 * i + 1 + u, _, _, rfl, bx2, by omega, goods_letters, by rw [List.length_map, tl_letters]; decide, fun H3 x fr3 bx3 hx => ?_⟩
            obtain ⟨e, he, rfl⟩ := mem_gv hx
            refine ⟨_, fr3 _ _ e2 hLb, ?_, (fr2.trans fr3).young nL0, ?_, es ++ [e], ?_, ?_, ?_⟩
            · rw [List.length_map, hl2]
              exact small1000 (by omega)
            · exact (bx3.mono (by omega)).upd hLb
            · rw [upd_same, List.map_append]
              rfl
            · rw [List.length_append, List.length_singleton, hl2]
            · intro c' h'
              rcases List.mem_append.mp h' with h' | h'
              · exact hc2 c' h'
              · rw [List.mem_singleton.mp h']
                exact letter_of he
          rintro H2 ⟨fr2, bx2, es, e2, hl2, hc2⟩
          refine ⟨_, L, es.map one, rfl, rfl, .inl (SqL.of (by rw [vals_ones]; exact e2)), ?_, ?_⟩
          · rw [len_ones, List.length_map]
            show es.length + es.length * (Str.ofString "").length ≤ 16777216
            rw [show (Str.ofString "").length = 0 by decide +kernel]
            omega
          have ez : tl (Txt.join (Str.ofString "") (es.map one)) = es := tl_joined (by decide +kernel) _
          generalize Txt.join (Str.ofString "") (es.map one) = y at ez ⊢
          have eyl : y.length = es.length := by
            rw [← ez]
            exact Array.length_toList.symm
          have ezz : tl (one c ++ y) = c :: es := by
            rw [tl_append, ez]
            rfl
          have hLF : F ≠ L := ne_of_none eFa nL
          have eF2 : H2 F = some (.lst (ss.map V.str)) := fr2 _ _ eF' hFb
          refine ⟨one c, y, rfl, rfl, ?_, ?_⟩
          · rw [eyl]
            exact Nat.le_trans (show (one c).length + es.length ≤ 20 by show 1 + es.length ≤ 20; omega) (by decide)
          generalize one c ++ y = z at ezz ⊢
          refine ⟨F, _, _, rfl, rfl, eF2, by rw [List.length_map, hsl]; exact small1000 (by omega), ?_⟩
          refine ⟨_, rfl, (fr.trans fr2).young nF0, (bx2.mono (by omega)).upd hFb, by rw [upd_ne hpF]; exact fr2 _ _ hpk' hpb, by rw [upd_ne hFD]; exact fr2 _ _ eD' hDb, ss ++ [z], ?_, ?_, ?_, ?_⟩
          · rw [upd_same, List.map_append]
            rfl
          · rw [List.length_append, List.length_singleton, hsl]
          · intro y hy
            rcases List.mem_append.mp hy with hy | hy
            · exact hok y hy
            · rw [List.mem_singleton.mp hy]
              refine ⟨by rw [ezz]; exact Nat.succ_le_succ (Nat.zero_le _), by rw [ezz]; show es.length + 1 ≤ 8; omega, fun c' h' => ?_⟩
              rw [ezz] at h'
              rcases List.mem_cons.mp h' with h' | h'
              · rw [h']
                exact hcl
              · exact hc2 c' h'
          · refine key _ ?_
            rw [ezz, hj]
            rfl
    · rintro σ H' ⟨x8, rfl, fr, bx, hpk', eD', ss, eF', hsl, hok, hkey⟩
      refine ⟨_, rfl, q H' F ss fr (bx.mono ?_) nF0 eF' ⟨hok, ?_⟩ ?_⟩
      · rw [List.length_map, hyl2]
        omega
      · refine nodup_key (f := fun z => (tl z)[j]?) ?_
        rw [hkey, List.length_map, List.take_length]
        exact nodup_some dnod
      · rw [hsl, List.length_map, hyl2]
end
end K09
namespace K09
open PySem PySem.Spec PyProof.Rows L2 IqX RvT LwB EnS TL
section
variable {P : Program} {w : World} {K : PySem.W.Frag} {mg : Str → Option Value} {base : Heap}
theorem ok__law_event_row (D : Df K mg "_law_event_row" s__law_event_row ["_law_box_here", "_law_tags", "_law_most"]) (B : Bn mg) (OT : Ok P w K mg base 1 "_law_take" ["_law_box_here", "_law_size_so"] spTake) (OO : Ok P w K mg base 2 "_law_of" ["_law_box_here", "_law_goods_so"] spOf) :
    Ok P w K mg base 3 "_law_event_row" ["_law_box_here", "_law_tags", "_law_most"] spRow := by
  refine D.ok sc__law_event_row (fun vs H Q E h => ?_) (fun f cdv A outer s H vs Q E hr h => ?_)
  · obtain ⟨_, _, _, _, _, rfl, _⟩ := h
    rfl
  · obtain ⟨b, l, n, m, ss, rfl, hb, hn, hlb, hl, hsl, hs0, hm, q⟩ := h
    have nd := sc__law_event_row.nd
    have hr1 : Room 1 _ := hr.mono (by decide)
    refine ⟨_, pss_one (ps_ret (pe_tupQ B.tuple (pa_cons (pe_lc (own := [("_law_turn", 3)]) (g := gName 3) (by rfl) nd (pi_range1 (by rfl) B.range (pa_cons (pe_c OT hr1 (pa_cons (pv 0) (pa_cons (pe_op op_add (pv 2) pe_int) pa_nil))) pa_nil))
        (blkOk_by (N := ["_law_box_here", "_law_tags", "_law_most", "_law_turn"]) (sc := defScope s__law_event_row) (by decide +kernel))
        (fun _ _ _ _ _ => pg_name (i := 3) nd rfl (.inl rfl)) (fun _ _ _ _ _ => pts_nil) (fun _ _ _ _ _ => pe_c OO hr (pa_cons (pv 0) (pa_cons (pv 1) pa_nil)))) pa_nil))), ?_⟩
    refine ⟨_, rfl, _, rfl, _, _, rfl, rfl, b, n, _, rfl, hb, by omega, by omega, by omega, fun H1 t f1 b1 t0 t1 => ?_⟩
    refine ⟨t, rfl, by omega, by omega, fun L nL => ?_⟩
    have hLb : L ≠ b := b1.ne_new nL
    have nL0 : H L = none := f1.free hLb nL
    refine lc_range (lo := 0) (n := t.toNat) (fun u H2 => LwB.Fr b H H2 ∧ Bx (n + 1 + u) H2 b ∧ ∃ es : List Str, H2 L = some (.lst (es.map V.str)) ∧ es.length = u ∧ ∀ e ∈ es, e ∈ ss)
      ⟨f1.young nL0, b1.new nL, [], upd_same, rfl, fun c h => nomatch h⟩ ?_ ?_
    · rintro u H2 hu ⟨fr2, bx2, es, e2, hl2, hc2⟩
      refine ⟨rfl, ?_⟩
      show tCall spOf [] E0 (tCons (tVar 0) (tCons (tVar 1) tNil)) _ _ _
      refine ⟨_, rfl, _, rfl, b, n + 1 + u, _, _, rfl, bx2, by omega, .inr ⟨true, l, rfl, hlb, fr2.sq hlb hl, by rw [List.length_map]; exact hsl⟩, by rw [List.length_map]; exact hs0, fun H3 x fr3 bx3 hx => ?_⟩
      obtain ⟨e, he, rfl⟩ := List.mem_map.mp hx
      refine ⟨_, fr3 _ _ e2 hLb, ?_, (fr2.trans fr3).young nL0, ?_, es ++ [e], ?_, ?_, ?_⟩
      · rw [List.length_map, hl2]
        exact small1000 (by omega)
      · exact (bx3.mono (by omega)).upd hLb
      · rw [upd_same, List.map_append]
        rfl
      · rw [List.length_append, List.length_singleton, hl2]
      · intro c' h'
        rcases List.mem_append.mp h' with h' | h'
        · exact hc2 c' h'
        · rw [List.mem_singleton.mp h']
          exact he
    rintro H2 ⟨fr2, bx2, es, e2, hl2, hc2⟩
    refine ⟨true, L, _, rfl, .lst e2, fun H3 p s3 hp => ?_⟩
    have b3 : Bx (n + 1 + m) H3 b := (bx2.mono (by omega)).same s3
    exact q H3 p es (fr2.trans (Fr.same s3)) b3 hp (hp.ne_box b3) (by omega) hc2
end
end K09
namespace K09
open PySem PySem.Spec PyProof.Rows L2 IqX RvT LwB EnS TL NsT
section
variable {P : Program} {w : World} {K : PySem.W.Frag} {mg : Str → Option Value} {base : Heap}
theorem one_lt (a b : Nat) : ([a] : List Nat) < [b] ↔ a < b := by
  constructor
  · intro h
    cases h with
    | rel h => exact h
    | cons h => cases h
  · intro h
    exact List.Lex.rel h
theorem low_cmp (c : Nat) : ((!decide ((Str.mk #[c]).cps.toList < (Str.mk #[97]).cps.toList)) && (!decide ((Str.mk #[122]).cps.toList < (Str.mk #[c]).cps.toList))) = isLow c := by
  unfold isLow
  have h1 : decide ((Str.mk #[c]).cps.toList < (Str.mk #[97]).cps.toList) = decide (c < 97) := by
    refine decide_eq_decide.mpr ?_
    exact one_lt c 97
  have h2 : decide ((Str.mk #[122]).cps.toList < (Str.mk #[c]).cps.toList) = decide (122 < c) := by
    refine decide_eq_decide.mpr ?_
    exact one_lt 122 c
  rw [h1, h2, Bool.eq_iff_iff]
  simp
theorem ok_is_name (D : Df K mg "is_name" s_is_name ["value"]) (B : Bn mg) : Ok P w K mg base 1 "is_name" ["value"] spIsName := by
  refine D.ok sc_is_name (fun vs H Q E h => ?_) (fun f cdv A outer s H vs Q E hr h => ?_)
  · obtain ⟨_, _, _, rfl, _⟩ := h
    rfl
  · obtain ⟨v, n, t, rfl, i1, hsz, q⟩ := h
    have nd := sc_is_name.nd
    refine ⟨_, pss_cons (ps_if (pt_not (pt_val (pe_isQ B.isinstance (pa_cons (pv 0) (pa_cons (pe_ty (n := "str") B.str) pa_nil))))) (pss_one (ps_ret pe_bl)) pss_nil)
      (pss_one (ps_ret (pe_and (pe_chain op_le op_le pe_int (pe_callB call_len_str (by rfl) B.len PySem.boot_len (pa_cons (pv 0) pa_nil)) pe_int) (pe_one (pe_callB (cr_all rfl) (by rfl) B.all (by decide +kernel) (pa_cons
        (pe_lc (own := [("letter", 1)]) (g := gName 1) (by rfl) nd (pi_str (pv 0)) (blkOk_by (N := ["value", "letter"]) (sc := defScope s_is_name) (by decide +kernel))
          (fun _ _ _ _ _ => pg_name (i := 1) nd rfl (.inl rfl)) (fun _ _ _ _ _ => pts_nil) (fun _ _ _ _ _ => pe_chain op_le_str op_le_str pe_str (pv 1) pe_str)) pa_nil)))))), ?_⟩
    cases t with
    | non =>
      have e := i1.non_eq
      subst e
      exact ⟨_, rfl, _, "str", "NoneType", false, rfl, .base .non, (by decide +kernel), _, rfl, iteT (q _ (Same.refl H))⟩
    | bl b =>
      have e := i1.bl_eq
      subst e
      exact ⟨_, rfl, _, "str", "bool", false, rfl, .base (.bl _), (by decide +kernel), _, rfl, iteT (q _ (Same.refl H))⟩
    | int i =>
      have e := i1.int_eq
      subst e
      exact ⟨_, rfl, _, "str", "int", false, rfl, .base (.int _), (by decide +kernel), _, rfl, iteT (q _ (Same.refl H))⟩
    | sq t ts =>
      obtain ⟨m, a1, xs, en, e1, ⟨h1, _⟩, l1, p1⟩ := i1.sq_eq
      subst e1
      have hk : kitB (if t = true then "list" else "tuple") "str" = some false := by cases t <;> decide +kernel
      exact ⟨_, rfl, _, "str", _, false, rfl, h1.ty, hk, _, rfl, iteT (q _ (Same.refl H))⟩
    | str z =>
      have e := i1.str_eq
      subst e
      have hz := hsz z rfl
      refine ⟨_, rfl, _, "str", "str", true, rfl, .base (.str _), (by decide +kernel), _, rfl, iteF ?_⟩
      refine ⟨_, rfl, z, rfl, Nat.le_trans hz (by decide), 1, (z.length : Int), rfl, rfl, _, rfl, ?_⟩
      have key : ∀ (b : Bool) (H1 : Hp), Same H H1 → (b = (tl z).all isLow) → Q (.bl ((decide (1 ≤ z.length) && decide (z.length ≤ 8)) && b)) H1 := fun b H1 s1 hb => by
        have := q H1 s1
        rw [hb]
        exact this
      refine ite2 (fun h1 => ?_) (fun h1 => ?_)
      · refine ⟨_, _, rfl, rfl, _, rfl, ite2 (fun h2 => ?_) (fun h2 => ?_)⟩
        · refine ⟨_, rfl, z, rfl, fun L nL => ?_⟩
          refine lc_it (n := z.cps.size) walk_str (fun i H' => Same H H' ∧ ∃ bs : List Bool, H' L = some (.lst (bs.map V.bl)) ∧ bs = ((tl z).take i).map isLow)
            ⟨same_new nL, [], upd_same, rfl⟩ (fun _ _ _ _ => trivial) ?_ ?_
          · rintro i x H1 H1' hi ⟨sm, bs, eL, eb⟩ ⟨rfl, c, hc, rfl⟩
            have hc' : (tl z)[i]? = some c := by
              show z.cps.toList[i]? = some c
              rw [Array.getElem?_toList]
              exact hc
            have hbl : bs.length ≤ i := by
              rw [eb, List.length_map, List.length_take]
              omega
            have hzz : z.cps.size ≤ 1000000 := hz
            have push : ∀ (r : Bool), r = isLow c → ∃ acc, H1' L = some (.lst acc) ∧ acc.length < sizeLine ∧ (Same H (upd H1' L (.lst (acc ++ [V.bl r]))) ∧ ∃ bs : List Bool, upd H1' L (.lst (acc ++ [V.bl r])) L = some (.lst (bs.map V.bl)) ∧ bs = ((tl z).take (i + 1)).map isLow) := fun r hr' => by
              refine ⟨_, eL, ?_, Same.young sm nL, bs ++ [r], ?_, ?_⟩
              · rw [List.length_map]
                exact Nat.lt_of_lt_of_le (by omega : bs.length < 1000000) (by decide)
              · rw [upd_same, List.map_append]
                rfl
              · rw [eb, hr', take_snoc hc', List.map_append]
                rfl
            refine ⟨rfl, ?_⟩
            have hlow := low_cmp c
            refine ⟨_, rfl, _, _, rfl, rfl, _, rfl, ?_⟩
            refine ite2 (fun h3 => ?_) (fun h3 => ?_)
            · refine ⟨_, _, rfl, rfl, push _ ?_⟩
              rw [← hlow]
              show _ = ((!decide _) && _)
              rw [show (!decide ((Str.mk #[c]).cps.toList < (Str.mk #[97]).cps.toList)) = true from h3]
              rfl
            · refine push _ ?_
              rw [← hlow]
              rw [show (!decide ((Str.mk #[c]).cps.toList < (Str.mk #[97]).cps.toList)) = false from Bool.eq_false_iff.mpr h3]
              rfl
          · rintro H1 ⟨sm, bs, eL, eb⟩
            refine ⟨L, bs, rfl, SqL.of eL, ?_⟩
            have hb : bs.all id = (tl z).all isLow := by
              rw [eb, show z.cps.size = (tl z).length from Array.length_toList.symm, List.take_length, List.all_map]
              rfl
            have := key _ H1 sm hb
            have g1 : decide (1 ≤ z.length) = true := by
              have := of_decide_eq_true h1
              exact decide_eq_true (by omega)
            have g2 : decide (z.length ≤ 8) = true := by
              have := of_decide_eq_true h2
              exact decide_eq_true (by omega)
            rw [g1, g2] at this
            exact this
        · have g2 : decide (z.length ≤ 8) = false := by
            refine decide_eq_false fun g => h2 (decide_eq_true ?_)
            omega
          have e : isNameT (.str z) = false := by
            show (decide (1 ≤ z.length) && decide (z.length ≤ 8) && (tl z).all isLow) = false
            rw [g2, Bool.and_false, Bool.false_and]
          have := q H (Same.refl H)
          rw [e] at this
          exact this
      · have g1 : decide (1 ≤ z.length) = false := by
          refine decide_eq_false fun g => h1 (decide_eq_true ?_)
          omega
        have e : isNameT (.str z) = false := by
          show (decide (1 ≤ z.length) && decide (z.length ≤ 8) && (tl z).all isLow) = false
          rw [g1, Bool.false_and, Bool.false_and]
        have := q H (Same.refl H)
        rw [e] at this
        exact ⟨_, rfl, iteF this⟩
theorem ok_is_log (D : Df K mg "is_log" s_is_log ["thing"]) (B : Bn mg) (ON : Ok P w K mg base 1 "is_name" ["value"] spIsName) : Ok P w K mg base 2 "is_log" ["thing"] spIsLog := by
  refine D.ok sc_is_log (fun vs H Q E h => ?_) (fun f cdv A outer s H vs Q E hr h => ?_)
  · obtain ⟨_, _, _, rfl, _⟩ := h
    rfl
  · obtain ⟨v, n, t, rfl, i1, hsz, q⟩ := h
    have nd := sc_is_log.nd
    refine ⟨_, pss_one (ps_ret (pe_and (pe_isQ B.isinstance (pa_cons (pv 0) (pa_cons (pe_ty (n := "tuple") B.tuple) pa_nil))) (pe_one (pe_callB (cr_all rfl) (by rfl) B.all (by decide +kernel) (pa_cons
        (pe_lc (own := [("event", 1)]) (g := gName 1) (by rfl) nd (pi_seq (pv 0)) (blkOk_by (N := ["thing", "event"]) (sc := defScope s_is_log) (by decide +kernel))
          (fun _ _ _ _ _ => pg_name (i := 1) nd rfl (.inl rfl)) (fun _ _ _ _ _ => pts_nil) (fun _ _ _ _ _ => pe_c ON hr (pa_cons (pv 1) pa_nil))) pa_nil))))), ?_⟩
    cases t with
    | non =>
      have e := i1.non_eq
      subst e
      exact ⟨_, rfl, _, "tuple", "NoneType", false, rfl, .base .non, (by decide +kernel), _, rfl, iteF (q _ (Same.refl H))⟩
    | bl b =>
      have e := i1.bl_eq
      subst e
      exact ⟨_, rfl, _, "tuple", "bool", false, rfl, .base (.bl _), (by decide +kernel), _, rfl, iteF (q _ (Same.refl H))⟩
    | int i =>
      have e := i1.int_eq
      subst e
      exact ⟨_, rfl, _, "tuple", "int", false, rfl, .base (.int _), (by decide +kernel), _, rfl, iteF (q _ (Same.refl H))⟩
    | str z =>
      have e := i1.str_eq
      subst e
      exact ⟨_, rfl, _, "tuple", "str", false, rfl, .base (.str _), (by decide +kernel), _, rfl, iteF (q _ (Same.refl H))⟩
    | sq t ts =>
      obtain ⟨m, a1, xs, en, e1, ⟨h1, _⟩, l1, p1⟩ := i1.sq_eq
      subst e1
      cases t with
      | true => exact ⟨_, rfl, _, "tuple", "list", false, rfl, h1.ty, (by decide +kernel), _, rfl, iteF (q _ (Same.refl H))⟩
      | false =>
        refine ⟨_, rfl, _, "tuple", "tuple", true, rfl, h1.ty, (by decide +kernel), _, rfl, iteT ?_⟩
        refine ⟨_, rfl, false, a1, rfl, ⟨xs, h1.B⟩, fun L nL => ?_⟩
        refine lc_mf (K := K) ts (fun z => some (isNameT z)) (fun _ (b : Bool) v => v = .bl b) nL h1 l1 (paired_len p1) (fun _ _ _ _ _ r => r) (fun _ _ _ _ _ _ _ r => r) ?_ ?_
        · intro i z x H1 C C0 hz hx sm _ yes no
          refine ⟨rfl, _, rfl, x, m, z, rfl, (paired_both p1 hz hx).same sm, fun z' e => hsz _ _ z' rfl (by rw [← e]; exact List.mem_of_getElem? hz), fun H2 s2 => yes _ _ _ s2 rfl rfl⟩
        · intro H1 ys sm eL pr1 hyl
          have em : ts.filterMap (fun z => some (isNameT z)) = ts.map isNameT := by
            rw [show (fun z => some (isNameT z)) = some ∘ isNameT from rfl, List.filterMap_eq_map]
          rw [em] at pr1
          have ey : ys = (ts.map isNameT).map V.bl := by
            clear eL hyl em
            generalize ts.map isNameT = bs at pr1
            induction pr1 with
            | nil => rfl
            | cons r t ih => rw [List.map_cons, r, ih]
          rw [ey] at eL
          refine ⟨L, ts.map isNameT, rfl, SqL.of eL, ?_⟩
          rw [List.all_map]
          exact q _ sm
theorem ok_places (D : Df K mg "places" s_places ["word", "log"]) (B : Bn mg) (OE : Ok P w K mg base 1 "_early_places" ["word", "log"] spEarly) : Ok P w K mg base 2 "places" ["word", "log"] spPlaces := by
  refine D.ok sc_places (fun vs H Q E h => ?_) (fun f cdv A outer s H vs Q E hr h => ?_)
  · obtain ⟨_, _, _, _, _, _, rfl, _⟩ := h
    rfl
  · obtain ⟨b1, b2, a, c, ws, es, rfl, hw, he, hlen, q⟩ := h
    have nd := sc_places.nd
    refine ⟨_, pss_cons (ps_set (i := 2) nd rfl (.inl rfl) (pe_c OE hr (pa_cons (pv 0) (pa_cons (pv 1) pa_nil))))
      (pss_one (ps_ret (pe_ifExp (pt_cmpR op_eq (pe_len B.len (pa_cons (pv 2) pa_nil)) (pe_len B.len (pa_cons (pv 0) pa_nil)) (nomark _)) (pe_tupQ B.tuple (pa_cons (pv 2) pa_nil)) pe_non))), ?_⟩
    refine ⟨_, rfl, _, rfl, b1, b2, a, c, ws, es, rfl, hw, he, hlen, fun H1 p n1 => ?_⟩
    have hp : Sq true H1 p (nats (early ws es 0)) := .lst n1.2.2
    have hlo := early_len es ws 0
    have hnl : (nats (early ws es 0)).length = (early ws es 0).length := List.length_map _
    refine ⟨_, rfl, true, p, _, rfl, hp, _, rfl, b1, a, _, rfl, n1.1.sq hw, rfl, _, rfl, ite2 (fun h1 => ?_) (fun h1 => ?_)⟩
    · have e := V.int.inj (of_decide_eq_true h1)
      rw [hnl, List.length_map] at e
      have e' : (early ws es 0).length = ws.length := by omega
      refine ⟨_, rfl, true, p, _, rfl, hp, fun H2 p2 s2 h2 => q H2 _ (n1.1.trans s2) ?_⟩
      unfold placesT
      rw [if_pos e']
      exact Is.of_nats (.tup h2) (by omega)
    · refine q H1 _ n1.1 ?_
      have e' : ¬ (early ws es 0).length = ws.length := fun e => h1 (decide_eq_true (by rw [hnl, List.length_map, e]))
      unfold placesT
      rw [if_neg e']
      exact .non
theorem ok_ways (D : Df K mg "ways" s_ways ["word", "log"]) (B : Bn mg) : Ok P w K mg base 1 "ways" ["word", "log"] spWays := by
  refine D.ok sc_ways (fun vs H Q E h => ?_) (fun f cdv A outer s H vs Q E hr h => ?_)
  · obtain ⟨_, _, _, _, _, _, rfl, _⟩ := h
    rfl
  · obtain ⟨b1, b2, a, c, ws, es, rfl, hw, he, hlen, q⟩ := h
    have nd := sc_ways.nd
    refine ⟨_, pss_cons (ps_set (i := 2) nd rfl (.inl rfl) (pe_op op_cat (pe_lst (pa_cons pe_int pa_nil)) (pe_op op_rep (pe_lst (pa_cons pe_int pa_nil)) (pe_len B.len (pa_cons (pv 0) pa_nil)))))
      (pss_cons (ps_for PassesOwn.never rfl (pi_seq (pv 1)) (pg_name (i := 3) nd rfl (.inl rfl))
        (pss_one (ps_for PassesOwn.never rfl (pi_range3 (by rfl) B.range (pa_cons (pe_len B.len (pa_cons (pv 0) pa_nil)) (pa_cons pe_int (pa_cons (pe_un un_neg pe_int) pa_nil)))) (pg_name (i := 4) nd rfl (.inl rfl))
          (pss_one (ps_if (pt_cmpR op_eq (pe_ix ix_sq (pv 0) (pe_op op_sub (pv 4) pe_int) (fun _ _ => rfl)) (pv 3) (nomark _))
            (pss_one (ps_augS (pv 2) (pv 4) get_n (pe_ix ix_sq (pv 2) (pe_op op_sub (pv 4) pe_int) (fun _ _ => rfl)) ip_add set_list)) pss_nil)))))
      (pss_one (ps_ret (pe_ix ix_sq (pv 2) (pe_un un_neg pe_int) (fun _ _ => rfl))))), ?_⟩
    have hlen63 : ((ws.length : Nat) : Int) < 2 ^ 62 := by
      have : (1000 : Int) < 2 ^ 62 := by decide
      omega
    have hA : -(2 ^ 63) ≤ (((ws.map V.str).length : Nat) : Int) := by
      have : -(2 ^ 63) ≤ (0 : Int) := by decide
      omega
    have hB : (((ws.map V.str).length : Nat) : Int) < 2 ^ 63 := by
      have : (1000 : Int) < 2 ^ 63 := by decide
      rw [List.length_map]
      omega
    refine ⟨(by show 1 ≤ sizeLine; decide), fun p1 n1 => ⟨(by show 1 ≤ sizeLine; decide), fun p2 n2 => ?_⟩⟩
    have s1 := same_new (o := HO.lst [V.int 1]) n1
    have s2 := same_new (o := HO.lst [V.int 0]) n2
    refine ⟨.ref a, rfl, b1, a, _, rfl, s2.sq (s1.sq hw), p2, _, _, rfl, rfl, upd_same, hA, hB, ?_, fun p3 n3 => ?_⟩
    · rw [List.length_map]
      show 1 * ((ws.length : Nat) : Int).toNat ≤ sizeLine
      rw [Int.toNat_natCast, sizeLine_eq]
      omega
    have eL : (((ws.map V.str).length : Nat) : Int).toNat = ws.length := by rw [List.length_map, Int.toNat_natCast]
    rw [eL]
    have s3 := same_new (o := HO.lst (List.replicate ws.length [V.int 0]).flatten) n3
    refine ⟨p1, p3, _, _, rfl, rfl, s3 _ _ (s2 _ _ upd_same), upd_same, ?_, fun o no => ?_⟩
    · rw [List.length_flatten, List.map_replicate, List.sum_replicate_nat, sizeLine_eq]
      show 1 + ws.length * 1 ≤ _
      omega
    have s4 := same_new (o := HO.lst ([V.int 1] ++ (List.replicate ws.length [V.int 0]).flatten)) no
    have sH := s1.trans (s2.trans (s3.trans s4))
    have nH : H o = none := (s1.trans (s2.trans s3)).free no
    have eo : upd (upd (upd (upd H p1 (.lst [V.int 1])) p2 (.lst [V.int 0])) p3 (.lst (List.replicate ws.length [V.int 0]).flatten)) o (.lst ([V.int 1] ++ (List.replicate ws.length [V.int 0]).flatten)) o = some (.lst ([V.int 1] ++ (List.replicate ws.length [V.int 0]).flatten)) := upd_same
    rw [tab_first] at eo sH ⊢
    generalize upd (upd (upd (upd H p1 (.lst [V.int 1])) p2 (.lst [V.int 0])) p3 (.lst (List.replicate ws.length [V.int 0]).flatten)) o (.lst (tab (ws.length + 1) fun k => if k = 0 then 1 else 0)) = H0 at eo sH ⊢
    have c0 : (tab (ws.length + 1) fun k => if k = 0 then 1 else 0) = tab (ws.length + 1) fun k => ((LwB.cnt (ws.take k) (es.take 0) : Nat) : Int) := tab_ext fun k hk => by
      cases k with
      | zero => rw [List.take_zero, LwB.cnt_nil]; rfl
      | succ k =>
        rw [if_neg (by omega)]
        cases ws with
        | nil => exact absurd hk (by simp)
        | cons u r => rfl
    rw [c0] at eo
    refine ⟨.ref c, rfl, b2, c, rfl, ⟨_, (sH.sq he).B⟩, for_seq (K := K) (b := b2) (a := c) (xs := es.map V.str)
      (fun i σ H' => ∃ x3 x4 : Option V, σ = [some (.ref a), some (.ref c), some (.ref o), x3, x4] ∧ Same H H' ∧ H' o = some (.lst (tab (ws.length + 1) fun k => ((LwB.cnt (ws.take k) (es.take i) : Nat) : Int))))
      ⟨none, none, rfl, sH, eo⟩ (fun i σ H' _ ⟨_, _, _, sm, _⟩ => (sm.sq he).B) ?_ ?_⟩
    · rintro i x σ H' hi ⟨x3, x4, rfl, sm, ho⟩
      obtain ⟨e, hei, rfl⟩ := map_get hi
      refine ⟨.ref a, rfl, b1, a, _, rfl, sm.sq hw, _, rfl, ((ws.map V.str).length : Nat), 0, -1, ws.length, rfl, ?_, ?_⟩
      · have hC : -(2 ^ 62) ≤ (((ws.map V.str).length : Nat) : Int) := by
          have : -(2 ^ 62) ≤ (0 : Int) := by decide
          omega
        have hD : (((ws.map V.str).length : Nat) : Int) < 2 ^ 62 := by
          rw [List.length_map]
          exact hlen63
        have := RgC.neg (i := ((ws.map V.str).length : Nat)) (j := 0) hC hD (by decide) (by decide)
        rw [List.length_map] at this ⊢
        have e1 : (((ws.length : Nat) : Int) - 0).toNat = ws.length := by omega
        rw [e1] at this
        exact this
      rw [List.length_map]
      refine for_rangeC (lo := ((ws.length : Nat) : Int)) (c := -1) (n := ws.length) (fun j σ' J => ∃ x4 : Option V, σ' = [some (.ref a), some (.ref c), some (.ref o), some (.str e), x4] ∧ Same H J ∧
          J o = some (.lst (tab (ws.length + 1) fun k => if ws.length - j < k then ((LwB.cnt (ws.take k) (es.take (i + 1)) : Nat) : Int) else ((LwB.cnt (ws.take k) (es.take i) : Nat) : Int))))
        ⟨x4, rfl, sm, ?_⟩ ?_ ?_
      · rw [ho]
        congr 2
        refine tab_ext fun k hk => ?_
        rw [if_neg (by omega)]
      · rintro j σ' J hj ⟨y4, rfl, smJ, hoJ⟩
        have e1 : ((ws.length : Nat) : Int) + (j : Nat) * (-1) = ((ws.length - j : Nat) : Int) := by omega
        have e2 : ((ws.length - j : Nat) : Int) - 1 = ((ws.length - j - 1 : Nat) : Int) := by omega
        rw [e1]
        have hlt : ws.length - j - 1 < ws.length := by omega
        have hu : ws[ws.length - j - 1]? = some ws[ws.length - j - 1] := List.getElem?_eq_getElem hlt
        generalize hue : ws[ws.length - j - 1] = u at hu
        have tk : ws.take (ws.length - j) = ws.take (ws.length - j - 1) ++ [u] := by
          have := take_snoc hu
          rw [show ws.length - j - 1 + 1 = ws.length - j by omega] at this
          exact this
        have te := take_snoc hei
        refine ⟨.ref a, rfl, _, rfl, _, _, rfl, rfl, ?_⟩
        show rIxQ _ (V.int (((ws.length - j : Nat) : Int) - 1)) _ _
        rw [e2]
        refine ⟨b1, a, _, _, .str u, rfl, rfl, smJ.sq hw, atI_nat (get_map hu), .str e, rfl, rfl, _, rfl, ite2 (fun heq => ?_) (fun hne => ?_)⟩
        · have eu : u = e := V.str.inj (of_decide_eq_true heq)
          refine ⟨.ref o, rfl, _, rfl, o, _, ws.length - j, _, rfl, rfl, hoJ, tab_get _ (by omega), .ref o, rfl, _, rfl, _, _, rfl, rfl, ?_⟩
          show rIxQ _ (V.int (((ws.length - j : Nat) : Int) - 1)) _ _
          rw [e2]
          refine ⟨true, o, _, _, _, rfl, rfl, .lst hoJ, atI_nat (tab_get _ (by omega)), _, _, rfl, rfl, o, _, _, ws.length - j, rfl, rfl, hoJ, by rw [tab_len]; exact ixN_nat (by omega), ?_⟩
          refine ⟨_, rfl, Same.young smJ nH, ?_⟩
          rw [upd_same, tab_set]
          congr 2
          refine tab_ext fun k hk => ?_
          rw [if_neg (by omega : ¬ ws.length - j < ws.length - j), if_neg (by omega : ¬ ws.length - j < ws.length - j - 1)]
          by_cases hk2 : k = ws.length - j
          · rw [if_pos hk2, if_pos (by omega), hk2, te, tk, LwB.cnt_snoc, if_pos eu.symm]
            dsimp only
            omega
          · rw [if_neg hk2]
            by_cases hk3 : ws.length - j < k
            · rw [if_pos hk3, if_pos (by omega)]
            · rw [if_neg hk3, if_neg (by omega)]
        · have eu : ¬ e = u := fun q' => hne (decide_eq_true (by rw [q']))
          refine ⟨_, rfl, smJ, ?_⟩
          rw [hoJ]
          congr 2
          refine tab_ext fun k hk => ?_
          by_cases hk2 : k = ws.length - j
          · rw [if_neg (by omega), if_pos (by omega), hk2, te, tk, LwB.cnt_snoc, if_neg eu]
            omega
          · by_cases hk3 : ws.length - j < k
            · rw [if_pos hk3, if_pos (by omega)]
            · rw [if_neg hk3, if_neg (by omega)]
      · rintro σ' J ⟨y4, rfl, smJ, hoJ⟩
        refine ⟨_, _, rfl, smJ, ?_⟩
        rw [hoJ]
        congr 2
        refine tab_ext fun k hk => ?_
        by_cases hk2 : 0 < k
        · rw [if_pos (by omega)]
        · have : k = 0 := by omega
          subst this
          rw [if_neg (by omega), List.take_zero, LwB.cnt_nil, LwB.cnt_nil]
    · rintro σ H' ⟨x3, x4, rfl, sm, ho⟩
      rw [List.length_map, List.take_length] at ho
      refine ⟨.ref o, rfl, 1, rfl, ?_⟩
      refine ⟨true, o, _, _, _, rfl, rfl, .lst ho, atI_last (n := ws.length) (tab_len _ _) (tab_get _ (by omega)), ?_⟩
      rw [List.take_length]
      exact q H' sm
end
end K09
namespace K09
open PySem PySem.Spec PyProof.Rows L2 IqX RvT LwB EnS TL NsT
section
variable {P : Program} {w : World} {K : PySem.W.Frag} {mg : Str → Option Value} {base : Heap}
theorem ok__law_counted (D : Df K mg "_law_counted" s__law_counted ["_law_verse", "_law_row"]) (B : Bn mg) : Ok P w K mg base 1 "_law_counted" ["_law_verse", "_law_row"] spCounted := by
  refine D.ok sc__law_counted (fun vs H Q E h => ?_) (fun f cdv A outer s H vs Q E hr h => ?_)
  · obtain ⟨_, _, _, _, rfl, _⟩ := h
    rfl
  · obtain ⟨a, c, ws, es, rfl, hw, he, hlen, q⟩ := h
    have nd := sc__law_counted.nd
    refine ⟨_, pss_cons (ps_set (i := 2) nd rfl (.inl rfl) (pe_op op_cat (pe_op op_rep (pe_lst (pa_cons pe_int pa_nil)) (pe_len B.len (pa_cons (pv 0) pa_nil))) (pe_lst (pa_cons pe_int pa_nil))))
      (pss_cons (ps_for PassesOwn.never rfl (pi_seq (pe_revS (pv 1))) (pg_name (i := 3) nd rfl (.inl rfl))
        (pss_one (ps_for PassesOwn.never rfl (pi_range1 (by rfl) B.range (pa_cons (pe_len B.len (pa_cons (pv 0) pa_nil)) pa_nil)) (pg_name (i := 4) nd rfl (.inl rfl))
          (pss_one (ps_asg (pe_op op_add (pe_ix ix_sq (pv 2) (pv 4) (fun _ _ => rfl)) (pe_op op_mul (pe_ix ix_sq (pv 2) (pe_op op_add (pv 4) pe_int) (fun _ _ => rfl))
            (pe_int1 B.int (pa_cons (pe_cmpR op_eq (pe_ix ix_sq (pv 0) (pv 4) (fun _ _ => rfl)) (pv 3) (nomark _)) pa_nil)))) (pg_sub (pv 2) (pv 4) set_list))))))
      (pss_one (ps_ret (pe_ix ix_sq (pv 2) pe_int (fun _ _ => rfl))))), ?_⟩
    have hA : -(2 ^ 63) ≤ (((ws.map V.str).length : Nat) : Int) := by
      have : -(2 ^ 63) ≤ (0 : Int) := by decide
      omega
    have hB : (((ws.map V.str).length : Nat) : Int) < 2 ^ 63 := by
      have : (1000 : Int) < 2 ^ 63 := by decide
      rw [List.length_map]
      omega
    have eL : (((ws.map V.str).length : Nat) : Int).toNat = ws.length := by rw [List.length_map, Int.toNat_natCast]
    refine ⟨(by show 1 ≤ sizeLine; decide), fun p1 n1 => ?_⟩
    have s1 := same_new (o := HO.lst [V.int 0]) n1
    refine ⟨.ref a, rfl, false, a, _, rfl, s1.sq hw, p1, _, _, rfl, rfl, upd_same, hA, hB, ?_, fun p3 n3 => ?_⟩
    · rw [eL]
      show 1 * ws.length ≤ sizeLine
      rw [sizeLine_eq]
      omega
    rw [eL]
    have s3 := same_new (o := HO.lst (List.replicate ws.length [V.int 0]).flatten) n3
    refine ⟨(by show 1 ≤ sizeLine; decide), fun p4 n4 => ?_⟩
    have s5 := same_new (o := HO.lst [V.int 1]) n4
    refine ⟨p3, p4, _, _, rfl, rfl, s5 _ _ upd_same, upd_same, ?_, fun o no => ?_⟩
    · rw [List.length_flatten, List.map_replicate, List.sum_replicate_nat, sizeLine_eq]
      show ws.length * 1 + 1 ≤ _
      omega
    have s4 := same_new (o := HO.lst ((List.replicate ws.length [V.int 0]).flatten ++ [V.int 1])) no
    have sH := s1.trans (s3.trans (s5.trans s4))
    have nH : H o = none := (s1.trans (s3.trans s5)).free no
    have eo : upd (upd (upd (upd H p1 (.lst [V.int 0])) p3 (.lst (List.replicate ws.length [V.int 0]).flatten)) p4 (.lst [V.int 1])) o (.lst ((List.replicate ws.length [V.int 0]).flatten ++ [V.int 1])) o = some (.lst ((List.replicate ws.length [V.int 0]).flatten ++ [V.int 1])) := upd_same
    rw [tab_end] at eo sH ⊢
    generalize upd (upd (upd (upd H p1 (.lst [V.int 0])) p3 (.lst (List.replicate ws.length [V.int 0]).flatten)) p4 (.lst [V.int 1])) o (.lst (tab (ws.length + 1) fun k => if k = ws.length then 1 else 0)) = H0 at eo sH ⊢
    have c0 : (tab (ws.length + 1) fun k => if k = ws.length then 1 else 0) = tab (ws.length + 1) fun k => ((LwB.cnt (ws.drop k) (es.reverse.take 0).reverse : Nat) : Int) := tab_ext fun k hk => by
      rw [List.take_zero, List.reverse_nil]
      by_cases h : k = ws.length
      · rw [if_pos h, h, List.drop_length, LwB.cnt_nil]
        rfl
      · rw [if_neg h]
        have hl : k < ws.length := by omega
        rw [List.drop_eq_getElem_cons hl]
        rfl
    rw [c0] at eo
    refine ⟨.ref c, rfl, false, c, _, rfl, (sH.sq he).B, fun pr nr => ?_⟩
    have sr := same_new (o := if false = true then HO.lst (es.map V.str).reverse else HO.tup (es.map V.str).reverse) nr
    have sR := sH.trans sr
    have er : Sq false (upd H0 pr (if false = true then .lst (es.map V.str).reverse else .tup (es.map V.str).reverse)) pr (es.reverse.map V.str) := by
      rw [List.map_reverse]
      exact .tup upd_same
    have eo' := sr _ _ eo
    generalize upd H0 pr (if false = true then .lst (es.map V.str).reverse else .tup (es.map V.str).reverse) = H1 at sr sR er eo' ⊢
    refine ⟨false, pr, rfl, ⟨_, er.B⟩, for_seq (K := K) (b := false) (a := pr) (xs := es.reverse.map V.str)
      (fun i σ H' => ∃ x3 x4 : Option V, σ = [some (.ref a), some (.ref c), some (.ref o), x3, x4] ∧ Same H H' ∧ Sq false H' pr (es.reverse.map V.str) ∧ H' o = some (.lst (tab (ws.length + 1) fun k => ((LwB.cnt (ws.drop k) (es.reverse.take i).reverse : Nat) : Int))))
      ⟨none, none, rfl, sR, er, eo'⟩ (fun i σ H' _ ⟨_, _, _, _, e, _⟩ => e.B) ?_ ?_⟩
    · rintro i x σ H' hi ⟨x3, x4, rfl, sm, erJ, ho⟩
      obtain ⟨e, hei, rfl⟩ := map_get hi
      have te : (es.reverse.take (i + 1)).reverse = e :: (es.reverse.take i).reverse := by
        rw [take_snoc hei, List.reverse_append]
        rfl
      refine ⟨.ref a, rfl, false, a, _, rfl, sm.sq hw, _, rfl, by rw [List.length_map]; omega, by rw [List.length_map]; omega, ?_⟩
      rw [eL]
      refine for_range (lo := 0) (n := ws.length) (fun j σ' J => ∃ x4 : Option V, σ' = [some (.ref a), some (.ref c), some (.ref o), some (.str e), x4] ∧ Same H J ∧ Sq false J pr (es.reverse.map V.str) ∧
          J o = some (.lst (tab (ws.length + 1) fun k => if k < j then ((LwB.cnt (ws.drop k) (es.reverse.take (i + 1)).reverse : Nat) : Int) else ((LwB.cnt (ws.drop k) (es.reverse.take i).reverse : Nat) : Int))))
        ⟨x4, rfl, sm, erJ, ?_⟩ ?_ ?_
      · rw [ho]
        congr 2
      · rintro j σ' J hj ⟨y4, rfl, smJ, erK, hoJ⟩
        have e1 : (0 : Int) + (j : Nat) = ((j : Nat) : Int) := by omega
        rw [e1]
        have hu : ws[j]? = some ws[j] := List.getElem?_eq_getElem hj
        generalize hue : ws[j] = u at hu
        refine ⟨.ref o, rfl, _, rfl, true, o, _, _, _, rfl, rfl, .lst hoJ, atI_nat (tab_get _ (by omega)), ?_⟩
        refine ⟨.ref o, rfl, _, rfl, _, _, rfl, rfl, ?_⟩
        show rIxQ _ (V.int (((j : Nat) : Int) + 1)) _ _
        rw [show ((j : Nat) : Int) + 1 = ((j + 1 : Nat) : Int) by omega]
        refine ⟨true, o, _, _, _, rfl, rfl, .lst hoJ, atI_nat (tab_get _ (by omega)), ?_⟩
        refine ⟨.ref a, rfl, _, rfl, false, a, _, _, .str u, rfl, rfl, smJ.sq hw, atI_nat (get_map hu), .str e, rfl, rfl, .inr ⟨_, rfl, _, _, rfl, rfl, .inr (by split <;> omega), _, _, rfl, rfl, ?_⟩⟩
        refine ⟨.ref o, rfl, _, rfl, o, _, _, j, rfl, rfl, hoJ, by rw [tab_len]; exact ixN_nat (by omega), ?_⟩
        refine ⟨_, rfl, Same.young smJ nH, ?_, ?_⟩
        · refine erK.mv fun oo eo2 => ?_
          rw [upd_ne]
          · exact eo2
          · rintro rfl
            rcases erK with h | ⟨o', h⟩
            · rw [h] at hoJ
              cases hoJ
            · rw [h] at hoJ
              cases hoJ
        rw [upd_same, tab_set]
        congr 2
        refine tab_ext fun k hk => ?_
        rw [if_neg (by omega : ¬ j < j), if_neg (by omega : ¬ j + 1 < j)]
        by_cases hk2 : k = j
        · subst hk2
          rw [if_pos rfl, if_pos (show k < k + 1 by omega), te, drop_at hu, LwB.cnt_cons]
          by_cases hv : u = e
          · subst hv
            rw [decide_eq_true rfl, if_pos rfl, if_pos rfl]
            omega
          · rw [decide_eq_false (fun q' => hv (V.str.inj q')), if_neg (by decide), if_neg (fun q' => hv q'.symm)]
            omega
        · rw [if_neg hk2]
          by_cases hk3 : k < j
          · rw [if_pos hk3, if_pos (by omega)]
          · rw [if_neg hk3, if_neg (by omega)]
      · rintro σ' J ⟨y4, rfl, smJ, erK, hoJ⟩
        refine ⟨_, _, rfl, smJ, erK, ?_⟩
        rw [hoJ]
        congr 2
        refine tab_ext fun k hk => ?_
        by_cases hk2 : k < ws.length
        · rw [if_pos hk2]
        · have : k = ws.length := by omega
          subst this
          rw [if_neg hk2, List.drop_length, LwB.cnt_nil, LwB.cnt_nil]
    · rintro σ H' ⟨x3, x4, rfl, sm, erJ, ho⟩
      rw [List.length_map, List.take_length, List.reverse_reverse] at ho
      refine ⟨.ref o, rfl, true, o, _, 0, _, rfl, rfl, .lst ho, atI_nat (j := 0) (tab_get _ (by omega)), ?_⟩
      exact q H' sm
theorem ok__law_least_spots (D : Df K mg "_law_least_spots" s__law_least_spots ["_law_verse", "_law_row"]) (B : Bn mg) : Ok P w K mg base 1 "_law_least_spots" ["_law_verse", "_law_row"] spLeastS := by
  refine D.ok sc__law_least_spots (fun vs H Q E h => ?_) (fun f cdv A outer s H vs Q E hr h => ?_)
  · obtain ⟨_, _, _, _, rfl, _⟩ := h
    rfl
  · obtain ⟨a, c, ws, es, rfl, hw, he, hlen, hel, q⟩ := h
    have nd := sc__law_least_spots.nd
    refine ⟨_, pss_cons (ps_par (i := 2) (j := 3) (by rfl) nd rfl rfl (by decide) rfl rfl (pa_cons (pe_lst pa_nil) (pa_cons pe_int pa_nil)) (by rfl))
      (pss_cons (ps_for PassesOwn.never rfl (pi_seq (pv 0)) (pg_name (i := 4) nd rfl (.inr rfl))
        (pss_cons (ps_setLc (i := 5) (own := [("_law_k", 6)]) (g := gName 6) rfl nd rfl rfl (sw_true rfl rfl rfl (by decide +kernel)) (pi_range2 (by rfl) B.range (pa_cons (pv 3) (pa_cons (pe_len B.len (pa_cons (pv 1) pa_nil)) pa_nil)))
            (blkOk_by (N := ["_law_verse", "_law_row", "_law_found", "_law_first", "_law_own", "_law_can", "_law_k"]) (sc := defScope s__law_least_spots) (by decide +kernel))
            (fun _ _ _ _ _ => pg_name (i := 6) nd rfl (.inl rfl)) (fun _ _ _ _ _ => pts_one (pt_cmpR op_eq (pe_ix ix_sq (pv 1) (pv 6) (fun _ _ => rfl)) (pv 4) (nomark _))) (fun _ _ _ _ _ => pv 6))
        (pss_cons (ps_if (pt_cmpR (op_eqE hr.units) (pv 5) (pe_lst pa_nil) (nomark _)) (pss_one (ps_ret pe_non)) pss_nil)
        (pss_cons (ps_expr (pe_bm PySem.F.plainAttrs_list PySem.F.slot_list_append PySem.F.type_list_append mt_append (pv 2) (pa_cons (pe_ix ix_sq (pv 5) pe_int (fun _ _ => rfl)) pa_nil)))
        (pss_one (ps_set (i := 3) nd rfl (.inl rfl) (pe_op op_add (pe_ix ix_sq (pv 5) pe_int (fun _ _ => rfl)) pe_int)))))))
      (pss_one (ps_ret (pe_tupQ B.tuple (pa_cons (pv 2) pa_nil))))), ?_⟩
    refine ⟨(by show 0 ≤ sizeLine; decide), fun o no => ⟨_, _, rfl, ?_⟩⟩
    have s1 := same_new (o := HO.lst []) no
    refine ⟨.ref a, rfl, false, a, rfl, ⟨_, (s1.sq hw).B⟩, for_seq (K := K) (b := false) (a := a) (xs := ws.map V.str)
      (fun i σ H' => ∃ (acc : List Nat) (fst : Nat) (x4 x5 x6 : Option V), σ = [some (.ref a), some (.ref c), some (.ref o), some (.int fst), x4, x5, x6] ∧ Same H H' ∧ H' o = some (.lst (nats acc)) ∧ acc.length = i ∧ early ws es 0 = acc ++ early (ws.drop i) (es.drop fst) fst ∧ fst ≤ es.length)
      ⟨[], 0, none, none, none, rfl, s1, upd_same, rfl, rfl, Nat.zero_le _⟩ (fun i σ H' _ ⟨_, _, _, _, _, _, sm, _⟩ => (sm.sq hw).B) ?_ ?_⟩
    · rintro i x σ H' hi ⟨acc, fst, x4, x5, x6, rfl, sm, ho, hacc, em, hfl⟩
      obtain ⟨u, hu, rfl⟩ := map_get hi
      have hul := (List.getElem?_eq_some_iff.mp hu).1
      rw [drop_at hu] at em
      have hp62 : (1000 : Int) < 2 ^ 62 := by decide
      have hR1 : -(2 ^ 62) ≤ (fst : Int) := by
        have : -(2 ^ 62) ≤ (0 : Int) := by decide
        omega
      have hR2 : (fst : Int) < 2 ^ 62 := by omega
      have hR3 : -(2 ^ 62) ≤ (((es.map V.str).length : Nat) : Int) := by
        have : -(2 ^ 62) ≤ (0 : Int) := by decide
        omega
      have hR4 : (((es.map V.str).length : Nat) : Int) < 2 ^ 62 := by
        rw [List.length_map]
        omega
      refine ⟨_, rfl, _, rfl, false, c, _, rfl, sm.sq he, _, _, rfl, ⟨hR1, hR2, hR3, hR4⟩, fun L nL => ?_⟩
      have hLo : o ≠ L := ne_of_none ho nL
      refine lc_range (lo := (fst : Int)) (n := (((es.map V.str).length : Nat) - (fst : Int) : Int).toNat) (fun j J => Same H' J ∧ J L = some (.lst (nats ((List.range' fst j).filter fun k => decide (es[k]? = some u)))))
        ⟨same_new nL, upd_same⟩ ?_ ?_
      · rintro j J hj ⟨smJ, eJ⟩
        rw [List.length_map] at hj
        have hk : fst + j < es.length := by omega
        have hek : es[fst + j]? = some es[fst + j] := List.getElem?_eq_getElem hk
        refine ⟨rfl, _, rfl, _, rfl, ?_⟩
        rw [show (fst : Int) + (j : Int) = ((fst + j : Nat) : Int) by omega]
        refine ⟨false, c, _, _, _, rfl, rfl, (sm.trans smJ).sq he, atI_nat (get_map hek), _, rfl, rfl, _, rfl, ?_⟩
        have rng : List.range' fst (j + 1) = List.range' fst j ++ [fst + j] := by rw [List.range'_concat, Nat.one_mul]
        have hln : ((List.range' fst j).filter fun k => decide (es[k]? = some u)).length ≤ j := Nat.le_trans (List.length_filter_le _ _) (by rw [List.length_range']; exact Nat.le_refl _)
        refine ite2 (fun h1 => ?_) (fun h1 => ?_)
        · have eu : es[fst + j] = u := V.str.inj (of_decide_eq_true h1)
          refine ⟨_, rfl, _, eJ, ?_, Same.young smJ nL, ?_⟩
          · unfold nats
            rw [List.length_map]
            exact small1000 (by omega)
          · rw [upd_same, rng, List.filter_append, List.filter_cons_of_pos (by rw [hek, eu]; exact decide_eq_true rfl)]
            unfold nats
            rw [List.map_append]
            rfl
        · have eu : ¬ es[fst + j] = u := fun q' => h1 (decide_eq_true (by rw [q']))
          refine ⟨smJ, ?_⟩
          rw [eJ, rng, List.filter_append, List.filter_cons_of_neg (by rw [hek]; intro q'; exact eu (Option.some.inj (of_decide_eq_true q')))]
          show _ = some (HO.lst (nats (_ ++ [])))
          rw [List.append_nil]
      · rintro J ⟨smJ, eJ⟩
        have en : (((es.map V.str).length : Nat) - (fst : Int) : Int).toNat = es.length - fst := by rw [List.length_map]; omega
        rw [en] at eJ
        have eJ' : J L = some (.lst (nats (hits es u fst))) := eJ
        refine ⟨_, rfl, (by show 0 ≤ sizeLine; decide), fun p2 n2 => ?_⟩
        have s2 := same_new (o := HO.lst []) n2
        have eL2 := s2 _ _ eJ'
        refine ⟨true, L, p2, _, rfl, rfl, (Sq.lst eL2).B, (Sq.lst upd_same).B, _, rfl, ?_⟩
        have sall := sm.trans (smJ.trans s2)
        rcases hits_head (es := es) (w := u) (f := fst) with ⟨g1, g2⟩ | ⟨k, r, g1, g2, g3, g4, g5, g6⟩
        · rw [g1]
          refine iteT (q _ _ sall ?_)
          have hn : ¬ (early ws es 0).length = ws.length := by
            rw [em, early_no g2, List.append_nil, hacc]
            omega
          unfold placesT
          rw [if_neg hn]
          exact .non
        · rw [g1] at eL2 ⊢
          refine iteF ?_
          have ho2 := s2 _ _ (smJ _ _ ho)
          have hkl : k < es.length := by
            have h9 := (List.getElem?_eq_some_iff.mp g3).1
            rw [List.length_drop] at h9
            omega
          refine ⟨.ref o, rfl, .inl ⟨rfl, _, SqL.of ho2⟩, .ref L, rfl, true, L, _, 0, .int (k : Nat), rfl, rfl, .lst eL2, atI_nat (j := 0) rfl, o, _, _, rfl, rfl, ho2, ?_, ?_⟩
          · unfold nats
            rw [List.length_map]
            exact small1000 (by omega)
          have hLo2 : L ≠ o := hLo.symm
          refine ⟨.ref L, rfl, true, L, _, 0, .int (k : Nat), rfl, rfl, .lst (by rw [upd_ne hLo2]; exact eL2), atI_nat (j := 0) rfl, _, _, rfl, rfl, ?_⟩
          refine ⟨acc ++ [k], k + 1, _, _, _, rfl, Same.young sall no, ?_, by rw [List.length_append, hacc]; rfl, ?_, by omega⟩
          · rw [upd_same]
            unfold nats
            rw [List.map_append]
            rfl
          · rw [em, early_at g3 g4, show fst + (k - fst) = k by omega, List.drop_drop, show fst + (k - fst + 1) = k + 1 by omega, List.append_assoc]
            rfl
    · rintro σ H' ⟨acc, fst, x4, x5, x6, rfl, sm, ho, hacc, em, hfl⟩
      rw [List.length_map] at hacc em
      rw [List.drop_length, early_nil, List.append_nil] at em
      refine ⟨.ref o, rfl, true, o, _, rfl, .lst ho, fun H2 p2 s2 h2 => q H2 _ (sm.trans s2) ?_⟩
      unfold placesT
      rw [if_pos (by rw [em, hacc]), em]
      exact Is.of_nats (.tup h2) (by omega)
end
end K09
namespace K09
open PySem PySem.Spec PyProof.Rows L2 IqX RvT LwB EnS TL NsT
section
variable {P : Program} {w : World} {K : PySem.W.Frag} {mg : Str → Option Value} {base : Heap}
theorem ok__law_choices (D : Df K mg "_law_choices" s__law_choices ["_law_verse", "_law_row"]) (B : Bn mg) : Ok P w K mg base 1 "_law_choices" ["_law_verse", "_law_row"] spChoices := by
  refine D.ok sc__law_choices (fun vs H Q E h => ?_) (fun f cdv A outer s H vs Q E hr h => ?_)
  · obtain ⟨_, _, _, _, rfl, _⟩ := h
    rfl
  · obtain ⟨a, c, ws, es, rfl, hw, he, hlen, hel, q⟩ := h
    have nd := sc__law_choices.nd
    refine ⟨_, pss_cons (ps_set (i := 2) nd rfl (.inl rfl) (pe_lst (pa_cons (pe_tup (pa_cons (pe_tup pa_nil) (pa_cons pe_int pa_nil))) pa_nil)))
      (pss_cons (ps_for PassesOwn.never rfl (pi_seq (pv 0)) (pg_name (i := 3) nd rfl (.inr rfl))
        (pss_cons (ps_set (i := 4) nd rfl (.inl rfl) (pe_lst pa_nil))
        (pss_cons (ps_for PassesOwn.never rfl (pi_seq (pv 2)) (pg_tup rfl (pgs_cons (pg_name (i := 5) nd rfl (.inr rfl)) (pgs_cons (pg_name (i := 6) nd rfl (.inl rfl)) pgs_nil)))
          (pss_one (ps_set (i := 4) nd rfl (.inl rfl) (pe_op op_cat (pv 4) (pe_lc (own := [("_law_k", 7)]) (g := gName 7) (by rfl) nd (pi_range2 (by rfl) B.range (pa_cons (pv 6) (pa_cons (pe_len B.len (pa_cons (pv 1) pa_nil)) pa_nil)))
            (blkOk_by (N := ["_law_verse", "_law_row", "_law_found", "_law_own", "_law_wider_so", "_law_spots", "_law_first", "_law_k"]) (sc := defScope s__law_choices) (by decide +kernel))
            (fun _ _ _ _ _ => pg_name (i := 7) nd rfl (.inl rfl)) (fun _ _ _ _ _ => pts_one (pt_cmpR op_eq (pe_ix ix_sq (pv 1) (pv 7) (fun _ _ => rfl)) (pv 3) (nomark _)))
            (fun _ _ _ _ _ => pe_tup (pa_cons (pe_op op_catQ (pv 5) (pe_tup (pa_cons (pv 7) pa_nil))) (pa_cons (pe_op op_add (pv 7) pe_int) pa_nil))))))))
        (pss_one (ps_set (i := 2) nd rfl (.inl rfl) (pv 4))))))
      (pss_one (ps_ret (pe_lc (own := [("_law_spots", 5), ("_law_first", 6)]) (g := gTup K 2 (gCons (gName 5) (gCons (gName 6) gNil))) (by rfl) nd (pi_seq (pv 2))
        (blkOk_by (N := ["_law_verse", "_law_row", "_law_found", "_law_own", "_law_wider_so", "_law_spots", "_law_first", "_law_k"]) (sc := defScope s__law_choices) (by decide +kernel))
        (fun _ _ _ _ _ => pg_tup rfl (pgs_cons (pg_name (i := 5) nd rfl (.inl rfl)) (pgs_cons (pg_name (i := 6) nd rfl (.inl rfl)) pgs_nil))) (fun _ _ _ _ _ => pts_nil) (fun _ _ _ _ _ => pv 5))))), ?_⟩
    have hp62 : (1000 : Int) < 2 ^ 62 := by decide
    have hn62 : -(2 ^ 62) ≤ (0 : Int) := by decide
    refine ⟨(by show 0 ≤ sizeLine; decide), fun p0 n0 => ⟨(by show 2 ≤ sizeLine; decide), fun p1 n1 => ⟨(by show 1 ≤ sizeLine; decide), fun p2 n2 => ?_⟩⟩⟩
    have t0 := same_new (o := HO.tup []) n0
    have t1 := same_new (o := HO.tup [V.ref p0, V.int 0]) n1
    have t2 := same_new (o := HO.lst [V.ref p1]) n2
    have sH := t0.trans (t1.trans t2)
    have pf : Paired (PairN (upd (upd (upd H p0 (.tup [])) p1 (.tup [V.ref p0, V.int 0])) p2 (.lst [V.ref p1]))) (ch es (ws.take 0)) [V.ref p1] := by
      refine .cons ⟨p1, .ref p0, rfl, t2.sq (.tup upd_same), p0, rfl, t2.sq (t1.sq (.tup upd_same)), Nat.zero_le _⟩ .nil
    have ef : upd (upd (upd H p0 (.tup [])) p1 (.tup [V.ref p0, V.int 0])) p2 (.lst [V.ref p1]) p2 = some (.lst [V.ref p1]) := upd_same
    generalize upd (upd (upd H p0 (.tup [])) p1 (.tup [V.ref p0, V.int 0])) p2 (.lst [V.ref p1]) = H0 at sH pf ef ⊢
    refine ⟨.ref a, rfl, false, a, rfl, ⟨_, (sH.sq hw).B⟩, for_seq (K := K) (b := false) (a := a) (xs := ws.map V.str)
      (fun i σ H' => ∃ (fo : Addr) (ys : List V) (x3 x4 x5 x6 x7 : Option V), σ = [some (.ref a), some (.ref c), some (.ref fo), x3, x4, x5, x6, x7] ∧ Same H H' ∧ H' fo = some (.lst ys) ∧ Paired (PairN H') (ch es (ws.take i)) ys ∧ ∀ q ∈ ch es (ws.take i), Fine es i q)
      ⟨p2, _, none, none, none, none, none, rfl, sH, ef, pf, fun q hq => ?_⟩ (fun i σ H' _ ⟨_, _, _, _, _, _, _, _, sm, _⟩ => (sm.sq hw).B) ?_ ?_⟩
    · rw [List.mem_singleton.mp hq]
      exact ⟨Nat.zero_le _, rfl⟩
    · rintro i x σ H' hi ⟨fo, ys, x3, x4, x5, x6, x7, rfl, sm, hfo, pr, fine⟩
      obtain ⟨u, hu, rfl⟩ := map_get hi
      have hul := (List.getElem?_eq_some_iff.mp hu).1
      have hnext : ch es (ws.take (i + 1)) = stepL es (ch es (ws.take i)) u := by rw [take_snoc hu, ch_snoc]
      have hyl := paired_len pr
      have hsmall : (stepL es (ch es (ws.take i)) u).length ≤ 256 := by rw [← hnext]; exact ch_small hel
      refine ⟨(by show 0 ≤ sizeLine; decide), fun wo nwo => ?_⟩
      have tw := same_new (o := HO.lst []) nwo
      refine ⟨.ref fo, rfl, true, fo, rfl, ⟨ys, (tw.sq (.lst hfo)).B⟩, for_seq (K := K) (b := true) (a := fo) (xs := ys)
        (fun j σ' J => ∃ (wo : Addr) (zs : List V) (x5 x6 x7 : Option V), σ' = [some (.ref a), some (.ref c), some (.ref fo), some (.str u), some (.ref wo), x5, x6, x7] ∧ Same H' J ∧ J wo = some (.lst zs) ∧ Paired (PairN J) (((ch es (ws.take i)).take j).map (ext es u)).flatten zs)
        ⟨wo, [], x5, x6, x7, rfl, tw, upd_same, .nil⟩ (fun j σ' J _ ⟨_, _, _, _, _, _, smJ, _⟩ => (smJ.sq (.lst hfo)).B) ?_ ?_⟩
      · rintro j y σ' J hy ⟨wo, zs, y5, y6, y7, rfl, smJ, hwo, przs⟩
        obtain ⟨⟨sp, fst⟩, hq, rq⟩ := paired_get pr hy
        obtain ⟨hf1, hf2⟩ := fine _ (List.mem_of_getElem? hq)
        have hf1' : fst ≤ es.length := hf1
        have hf2' : sp.length = i := hf2
        obtain ⟨pp, xx, rfl, hpp, ps, rfl, hps, hpl⟩ := rq.same smJ
        refine ⟨pp, _, rfl, hpp.T, rfl, _, _, rfl, _, _, rfl, rfl, ?_⟩
        have hR1 : -(2 ^ 62) ≤ (fst : Int) := by omega
        have hR2 : (fst : Int) < 2 ^ 62 := by omega
        have hR3 : -(2 ^ 62) ≤ (((es.map V.str).length : Nat) : Int) := by omega
        have hR4 : (((es.map V.str).length : Nat) : Int) < 2 ^ 62 := by
          rw [List.length_map]
          omega
        refine ⟨.ref wo, rfl, _, rfl, _, rfl, false, c, _, rfl, (sm.trans smJ).sq he, _, _, rfl, ⟨hR1, hR2, hR3, hR4⟩, fun L nL => ?_⟩
        refine lc_range (lo := (fst : Int)) (n := (((es.map V.str).length : Nat) - (fst : Int) : Int).toNat) (fun t M => Same J M ∧ ∃ acc, M L = some (.lst acc) ∧ Paired (PairN M) (((List.range' fst t).filter fun k => decide (es[k]? = some u)).map fun k => (sp ++ [k], k + 1)) acc)
          ⟨same_new nL, [], upd_same, .nil⟩ ?_ ?_
        · rintro t M ht ⟨smM, acc, eM, prM⟩
          rw [List.length_map] at ht
          have hk : fst + t < es.length := by omega
          have hek : es[fst + t]? = some es[fst + t] := List.getElem?_eq_getElem hk
          refine ⟨rfl, _, rfl, _, rfl, ?_⟩
          rw [show (fst : Int) + (t : Int) = ((fst + t : Nat) : Int) by omega]
          refine ⟨false, c, _, _, _, rfl, rfl, (sm.trans (smJ.trans smM)).sq he, atI_nat (get_map hek), _, rfl, rfl, _, rfl, ?_⟩
          have rng : List.range' fst (t + 1) = List.range' fst t ++ [fst + t] := by rw [List.range'_concat, Nat.one_mul]
          have hacl : acc.length ≤ t := by
            have h1 := paired_len prM
            rw [List.length_map] at h1
            have h2 : ((List.range' fst t).filter fun k => decide (es[k]? = some u)).length ≤ t := Nat.le_trans (List.length_filter_le _ _) (by rw [List.length_range']; exact Nat.le_refl _)
            omega
          refine ite2 (fun h1 => ?_) (fun h1 => ?_)
          · have eu : es[fst + t] = u := V.str.inj (of_decide_eq_true h1)
            refine ⟨_, rfl, _, rfl, (by show 1 ≤ sizeLine; decide), fun q1 m1 => ?_⟩
            have k1 := same_new (o := HO.tup [V.int ((fst + t : Nat) : Int)]) m1
            refine ⟨ps, q1, _, _, rfl, rfl, k1.sq (smM.sq hps), .tup upd_same, by unfold nats; rw [List.length_map]; show sp.length + 1 ≤ 1000000; omega, fun M2 q2 k2 hq2 => ?_⟩
            refine ⟨_, rfl, _, _, rfl, rfl, (by show 2 ≤ sizeLine; decide), fun q3 m3 => ?_⟩
            have k3 := same_new (o := HO.tup [V.ref q2, V.int (((fst + t : Nat) : Int) + 1)]) m3
            have kall := k1.trans (k2.trans k3)
            have eM3 := kall _ _ eM
            refine ⟨acc, eM3, small1000 (by omega), Same.young (smM.trans kall) nL, _, upd_same, ?_⟩
            rw [rng, List.filter_append, List.filter_cons_of_pos (by rw [hek, eu]; exact decide_eq_true rfl), List.map_append]
            refine paired_snoc (paired_imp prM fun _ _ r => (r.same kall).put eM3) (PairN.put ⟨q3, .ref q2, rfl, .tup ?_, q2, rfl, ?_, by rw [List.length_append]; show sp.length + 1 ≤ 1000000; omega⟩ eM3)
            · rw [upd_same]
              rfl
            · have := k3.sq hq2
              unfold nats at this ⊢
              rw [List.map_append]
              exact this
          · have eu : ¬ es[fst + t] = u := fun q' => h1 (decide_eq_true (by rw [q']))
            refine ⟨smM, acc, eM, ?_⟩
            rw [rng, List.filter_append, List.filter_cons_of_neg (by rw [hek]; intro q'; exact eu (Option.some.inj (of_decide_eq_true q')))]
            show Paired (PairN M) ((_ ++ []).map _) acc
            rw [List.append_nil]
            exact prM
        · rintro M ⟨smM, acc, eM, prM⟩
          have en : (((es.map V.str).length : Nat) - (fst : Int) : Int).toNat = es.length - fst := by rw [List.length_map]; omega
          rw [en] at prM
          have prM' : Paired (PairN M) (ext es u (sp, fst)) acc := prM
          have prz' := paired_imp przs fun _ _ r => PairN.same smM r
          have tk := take_snoc hq
          have hcat : (((ch es (ws.take i)).take (j + 1)).map (ext es u)).flatten = (((ch es (ws.take i)).take j).map (ext es u)).flatten ++ ext es u (sp, fst) := by
            rw [tk, List.map_append, List.flatten_append]
            show _ ++ (ext es u (sp, fst) ++ []) = _
            rw [List.append_nil]
          have hl3 := flat_take (es := es) (u := u) (ch es (ws.take i)) (j + 1)
          rw [hcat, List.length_append] at hl3
          have hl4 := paired_len prM'
          have hl5 := paired_len prz'
          refine ⟨wo, L, zs, acc, rfl, rfl, smM _ _ hwo, eM, Nat.le_trans (by omega : _ ≤ 1000) (by decide), fun w2 n3 => ?_⟩
          have k4 := same_new (o := HO.lst (zs ++ acc)) n3
          refine ⟨w2, _, _, _, _, rfl, smJ.trans (smM.trans k4), upd_same, ?_⟩
          rw [hcat]
          exact paired_append (paired_imp prz' fun _ _ r => PairN.same k4 r) (paired_imp prM' fun _ _ r => PairN.same k4 r)
      · rintro σ' J ⟨wo, zs, y5, y6, y7, rfl, smJ, hwo, przs⟩
        rw [← hyl, List.take_length] at przs
        refine ⟨_, rfl, wo, zs, _, _, _, _, _, rfl, sm.trans smJ, hwo, ?_, ?_⟩
        · rw [hnext]
          exact przs
        · rw [hnext]
          exact fine_step fine
    · rintro σ H' ⟨fo, ys, x3, x4, x5, x6, x7, rfl, sm, hfo, pr, fine⟩
      rw [List.length_map, List.take_length] at pr
      have hyl := paired_len pr
      have hsm := ch_small (ws := ws) hel
      refine ⟨.ref fo, rfl, true, fo, rfl, ⟨ys, (Sq.lst hfo).B⟩, fun L nL => ?_⟩
      refine lc_mf (K := K) (ch es ws) (fun q => some q.1) NatAt nL (.lst hfo) (by omega) hyl (fun _ _ _ _ s r => r.same s) (fun _ _ _ _ _ _ e r => r.put e) ?_ ?_
      · intro i z x J C C0 hz hx smJ _ yes no
        obtain ⟨pp, xx, rfl, hpp, rn⟩ := (paired_both pr hz hx).same smJ
        exact ⟨pp, _, rfl, hpp.T, rfl, _, _, rfl, _, _, rfl, rfl, rfl, _, rfl, yes _ _ _ (Same.refl J) rfl rn⟩
      · intro J zs smJ eL pr1 hyl1
        have em : (ch es ws).filterMap (fun q => some q.1) = (ch es ws).map (·.1) := by
          rw [show (fun q : List Nat × Nat => some q.1) = some ∘ (·.1) from rfl, List.filterMap_eq_map]
        rw [em] at pr1
        exact q J L zs (sm.trans smJ) (sm.free nL) eL pr1
end
end K09
namespace K09
open PySem PySem.Spec PyProof.Rows L2 IqX RvT LwB EnS TL NsT
section
variable {P : Program} {w : World} {K : PySem.W.Frag} {mg : Str → Option Value} {base : Heap}
theorem kw_part : Kw2 "is_part" s_is_part ["word", "log"] ["log", "word"] := fun _ _ _ _ _ _ _ _ => rfl
theorem kw_places : Kw2 "places" s_places ["word", "log"] ["log", "word"] := fun _ _ _ _ _ _ _ _ => rfl
theorem kw_ways : Kw2 "ways" s_ways ["word", "log"] ["log", "word"] := fun _ _ _ _ _ _ _ _ => rfl
theorem non_zero (ws es : List Str) : isNonT (placesT ws es) = decide (((LwB.cnt ws es : Nat) : Int) = 0) := by
  have h1 := early_full ws es
  have h2 := cnt_pos es ws
  unfold placesT
  by_cases h : (early ws es 0).length = ws.length
  · rw [if_pos h]
    have := h2.mpr (h1.mp h)
    exact (decide_eq_false (by omega)).symm
  · rw [if_neg h]
    have h3 : ¬ 0 < LwB.cnt ws es := fun q => h (h1.mpr (h2.mp q))
    exact (decide_eq_true (by omega)).symm
/-- all choices, where they are asked for -/
def someL (ws es : List Str) : List (List Nat) := if decide (((es.length : Nat) : Int) < 9) = true then (ch es ws).map (·.1) else []
theorem some_cases (ws es : List Str) : (someL ws es).map natT = [] ∨ ∃ ns, someL ws es = early ws es 0 :: ns ∧ (∀ m ∈ ns, Paired (fun a b : Nat => a ≤ b) (early ws es 0) m) ∧ placesT ws es = natT (early ws es 0) := by
  unfold someL
  split
  · rcases ch_head es ws with ⟨h, _⟩ | ⟨acc, f, rest, h1, h2, h3, h4⟩
    · left
      rw [h]
      rfl
    · right
      rw [List.drop_length, early_nil, List.append_nil] at h3
      refine ⟨rest.map (·.1), by rw [h1, h3]; rfl, fun m hm => ?_, ?_⟩
      · obtain ⟨q, hq, rfl⟩ := List.mem_map.mp hm
        rw [h3]
        exact (h4 q hq).2
      · unfold placesT
        rw [if_pos (by rw [h3]; exact h2)]
  · exact .inl rfl
theorem trs_len (t : Bool) (ws : List Str) : (ws.map Tr.str).length = ws.length := List.length_map _
theorem ok__law_word_right (D : Df K mg "_law_word_right" s__law_word_right ["_law_verse", "_law_row"]) (B : Bn mg) (OC : Ok P w K mg base 1 "_law_counted" ["_law_verse", "_law_row"] spCounted) (OL : Ok P w K mg base 1 "_law_least_spots" ["_law_verse", "_law_row"] spLeastS) (OH : Ok P w K mg base 1 "_law_choices" ["_law_verse", "_law_row"] spChoices)
    (OP : Ok P w K mg base 1 "is_part" ["word", "log"] spPart) (DP : Df K mg "is_part" s_is_part ["word", "log"]) (OQ : Ok P w K mg base 2 "places" ["word", "log"] spPlaces) (DQ : Df K mg "places" s_places ["word", "log"]) (OW : Ok P w K mg base 1 "ways" ["word", "log"] spWays) (DW : Df K mg "ways" s_ways ["word", "log"])
    (OS : Ok P w K mg base 3 "_law_same" ["_law_got", "_law_due"] (spSame 3)) : Ok P w K mg base 4 "_law_word_right" ["_law_verse", "_law_row"] spWordR := by
  refine D.ok sc__law_word_right (fun vs H Q E h => ?_) (fun f cdv A outer s H vs Q E hr h => ?_)
  · obtain ⟨_, _, _, _, rfl, _⟩ := h
    rfl
  · obtain ⟨a, c, ws, es, rfl, hw, he, lw, le, q⟩ := h
    have nd := sc__law_word_right.nd
    have hr1 : Room 1 _ := hr.mono (by decide)
    have hr2 : Room 2 _ := hr.mono (by decide)
    have hcl : (((ch es ws).map (·.1)).map natT).length = LwB.cnt ws es := by rw [List.length_map, List.length_map, ch_len]
    refine ⟨_, st_par (N := 8) (env := [(0, trs false ws), (1, trs false es)]) (i := 2) (j := 3) (T1 := .int (LwB.cnt ws es : Nat)) (T2 := placesT ws es) (env' := [(0, trs false ws), (1, trs false es)]) (by rfl) nd rfl rfl (by decide) rfl rfl
        (les_cons (le_c OC hr1 (les_cons (le_var (pv 0) in0) (les_cons (le_var (pv 1) in1) les_nil)) rfl (kp_counted lw)) (les_cons (le_c OL hr1 (les_cons (le_var (pv 0) in0) (les_cons (le_var (pv 1) in1) les_nil)) (placesT_nol _ _) (kp_leastS lw le)) les_nil)) (by rfl)
      (st_if (kn_cmp (T1 := .bl (isNonT (placesT ws es))) (T2 := .bl (decide (((LwB.cnt ws es : Nat) : Int) = 0))) (c := false) op_ne (le_cmp op_isN (le_var (pv 3) in0) le_non r_isN (nomark _)) (le_cmp op_eq (le_var (pv 2) in1) le_int r_eqI (nomark _))
          (fun H x y Q h1 h2 q => r_neB H x y Q h1 h2 (by rw [non_zero, decide_eq_true rfl]; exact q)) (nomark _)) (pss_one (ps_ret pe_bl))
      (st_set (i := 4) (T := .sq true ((someL ws es).map natT)) (env' := [(3, placesT ws es), (2, .int (LwB.cnt ws es : Nat)), (0, trs false ws), (1, trs false es)]) nd rfl (.inl rfl)
          (le_eq (le_if (p := decide (((es.length : Nat) : Int) < 9)) (T1 := .sq true (((ch es ws).map (·.1)).map natT)) (T2 := .sq true []) (kn_cmp (T1 := .int ((es.map Tr.str).length : Nat)) (T2 := .int 9) op_lt (le_len B.len (le_var (T := trs false es) (pv 1) in3)) le_int (fun H x y Q h1 h2 q => r_lt H x y Q h1 h2 (by rw [List.length_map]; exact q)) (nomark _))
            (fun hp => le_cL OH hr1 (les_cons (le_var (pv 0) in2) (les_cons (le_var (pv 1) in3) les_nil)) (nats_nolAll _) (kp_choices lw (by have := of_decide_eq_true hp; omega))) (fun _ => le_lst les_nil)) ?someEq)
      (st_if (kn_or (p := false) (q := false) (kn_eq (kn_and (p := decide (((es.length : Nat) : Int) < 9)) (q := !decide ((((someL ws es).map natT).length : Int) = (LwB.cnt ws es : Nat))) (kn_cmp (T1 := .int ((es.map Tr.str).length : Nat)) (T2 := .int 9) op_lt (le_len B.len (le_var (T := trs false es) (pv 1) in4)) le_int (fun H x y Q h1 h2 q => r_lt H x y Q h1 h2 (by rw [List.length_map]; exact q)) (nomark _))
            (fun _ => kn_cmp op_ne (le_len B.len (le_var (pv 4) in0)) (le_var (pv 2) in2) r_neI (nomark _))) ?and1)
          (fun _ => kn_eq (kn_and (p := !((someL ws es).map natT).isEmpty) (q := false) (kn_cmp (op_neEK K hr.units) (le_var (pv 4) in0) (le_lst les_nil) r_neE (nomark _)) ?minT) (by rw [Bool.and_false]))) (pss_one (ps_ret pe_bl))
      (st_par (i := 5) (j := 6) (T1 := trs true ws) (T2 := trs true es) (env' := [(3, placesT ws es), (2, .int (LwB.cnt ws es : Nat)), (0, trs false ws), (1, trs false es)]) (by rfl) nd rfl rfl (by decide) rfl rfl (les_cons (le_of (lf_list B.list (le_var (pv 0) in3))) (les_cons (le_of (lf_list B.list (le_var (pv 1) in4))) les_nil)) (by rfl)
      (st_set (i := 7) (T := .sq true [.bl (isPart ws es), .bl (isPart ws es), placesT ws es, placesT ws es]) (env' := [(6, trs true es), (5, trs true ws), (3, placesT ws es), (2, .int (LwB.cnt ws es : Nat)), (0, trs false ws), (1, trs false es)]) nd rfl (.inl rfl)
          (le_lst (les_cons (le_c OP hr1 (les_cons (le_var (pv 0) in4) (les_cons (le_var (pv 1) in5) les_nil)) rfl kp_part) (les_cons (le_kw2 OP DP kw_part hr1 (lek_cons (le_var (pv 6) in0) (lek_cons (le_var (pv 5) in1) lek_nil)) rfl kp_part) (les_cons (le_c OQ hr2 (les_cons (le_var (pv 0) in4) (les_cons (le_var (pv 1) in5) les_nil)) (placesT_nol _ _) (kp_places lw)) (les_cons (le_kw2 OQ DQ kw_places hr2 (lek_cons (le_var (pv 6) in0) (lek_cons (le_var (pv 5) in1) lek_nil)) (placesT_nol _ _) (kp_places lw)) les_nil)))))
      (st_set (i := 7) (T := .sq true ([.bl (isPart ws es), .bl (isPart ws es), placesT ws es, placesT ws es] ++ [.int (LwB.cnt ws es : Nat), .int (LwB.cnt ws es : Nat)])) (env' := [(6, trs true es), (5, trs true ws), (3, placesT ws es), (2, .int (LwB.cnt ws es : Nat)), (0, trs false ws), (1, trs false es)]) nd rfl (.inl rfl)
          (le_cat (le_var (pv 7) in0) (le_lst (les_cons (le_c OW hr1 (les_cons (le_var (pv 0) in5) (les_cons (le_var (pv 1) (.tail _ in5)) les_nil)) rfl (kp_ways lw)) (les_cons (le_kw2 OW DW kw_ways hr1 (lek_cons (le_var (pv 6) in1) (lek_cons (le_var (pv 5) in2) lek_nil)) rfl (kp_ways lw)) les_nil))))
      (st_ret (le_c OS hr (les_cons (le_cat (Us := [trs true ws, trs true es]) (le_var (pv 7) in0) (le_lst (les_cons (le_var (pv 5) in2) (les_cons (le_var (pv 6) in1) les_nil)))) (les_cons (le_cat (le_cat (le_cat (le_rep (le_lst (les_cons (le_cmp (c := decide ((0 : Int) < (LwB.cnt ws es : Nat))) op_gt (le_var (pv 2) in4) le_int r_gt (nomark _)) les_nil))) (le_rep (le_lst (les_cons (le_var (pv 3) in3) les_nil)))) (le_rep (le_lst (les_cons (le_var (pv 2) in4) les_nil)))) (le_lst (les_cons (le_of (lf_list B.list (le_var (T := trs false ws) (pv 0) in5))) (les_cons (le_of (lf_list B.list (le_var (T := trs false es) (pv 1) (.tail _ in5)))) les_nil)))) les_nil))
          rfl (kp_same ?same ?dep))) (by decide) (by simp) (by simp)) (by decide) (by simp) (by simp)) (by decide) (by decide) (by simp) (by simp) (by simp))) (by decide) (by simp) (by simp))) (by decide) (by decide) (by simp) (by simp) (by simp), ?_⟩
    case someEq =>
      unfold someL
      split <;> rfl
    case and1 =>
      unfold someL
      by_cases h : decide (((es.length : Nat) : Int) < 9) = true
      · rw [if_pos h, h, hcl, decide_eq_true rfl]
        rfl
      · rw [Bool.eq_false_iff.mpr h]
        rfl
    case minT =>
      intro hne
      rcases some_cases ws es with h0 | ⟨ns, h1, h2, h3⟩
      · rw [h0] at hne
        exact absurd hne (by decide)
      · refine kn_cmp (T1 := natT (early ws es 0)) (T2 := natT (early ws es 0)) (c := false) (op_neK hr.units) (le_min (ns := ns) rfl hr.units B.min (le_eq (le_var (pv 4) in0) (by rw [h1])) h2 (natT_nol _)) (le_eq (le_var (pv 3) in1) h3) (fun H x y Q g1 g2 q => r_neN H x y Q g1 g2 (by rw [decide_eq_true rfl]; exact q)) (nomark _)
    case same =>
      have h2 := cnt_pos es ws
      have h3 : decide ((0 : Int) < (LwB.cnt ws es : Nat)) = isPart ws es := by
        cases hb : isPart ws es with
        | true =>
          have := h2.mpr hb
          exact decide_eq_true (by omega)
        | false =>
          refine decide_eq_false fun q => ?_
          have : 0 < LwB.cnt ws es := by omega
          rw [h2.mp this] at hb
          cases hb
      rw [h3]
      rfl
    case dep =>
      have h1 := trs_dep true ws
      have h2 := trs_dep true es
      have h3 := placesT_dep ws es
      show max 0 (max 0 (max (placesT ws es).dep (max (placesT ws es).dep (max 0 (max 0 (max (trs true ws).dep (max (trs true es).dep 0))))))) + 1 ≤ 2
      omega
    · refine ⟨H, Vw.refl H, ⟨rfl, fun p hp => ?_⟩, q⟩
      rcases List.mem_cons.mp hp with rfl | hp
      · exact ⟨_, rfl, 1, .strs (.tup hw) (by omega)⟩
      · rw [List.mem_singleton.mp hp]
        exact ⟨_, rfl, 1, .strs (.tup he) (by omega)⟩
end
end K09
namespace K09
open PySem PySem.Spec PyProof.Rows L2 IqX RvT LwB EnS TL NsT
def rowB : List Str := ["a", "b", "a", "c", "b"]
def wordsB : List (List Str) := [[], ["a"], ["a", "b"], ["b", "a"], ["a", "a"], ["b", "b", "b"], ["a", "c", "b"], ["c", "a"], rowB]
def got1 : List Tr := [placesT ["a", "b"] rowB, .int (LwB.cnt ["a", "b"] rowB : Nat), placesT ["c", "a"] rowB, .int (LwB.cnt ["c", "a"] rowB : Nat)]
def due1 : List Tr := [.sq false [.int 0, .int 1], .int 3, .non, .int 0]
def got2 : List Tr := [.bl (isPart ["ab"] ["a", "b"]), .bl (isPart ["a", "b"] ["ab"]), placesT ["b"] ["ab", "b"]]
def got3 : Tr := .int (LwB.cnt ["a", "bc"] ["ab", "c"] : Nat)
def due2 : List Tr := [.bl false, .bl false, .sq false [.int 1], .int 0]
def aN (n : Nat) : List Str := List.replicate n "a"
def got4 : List Tr := [placesT ["b", "c"] rowB, .int ((10 : Nat) : Int), .int ((76904685 : Nat) : Int)]
def someT : List Tr := [.sq false [], .sq false [.str "a", .str "abcdefgh"], .sq true [.str "a"], .sq false [.str "abcdefghi"], .sq false [.str ""], .sq false [.str "A"], .sq false [.str "a", .int 1], .str "a", .non, .sq false [.str "a1"], .sq false [.str "a b"]]
def moreT : List Tr := [.sq false [.sq false [.str "a"]]]
def FB (T : Tr) : Tr := .bl (isLogT T)
def abT : Tr := .sq false (List.replicate (50 : Int).toNat [Tr.str "a", .str "b"]).flatten
def longT : Tr := .sq false ((List.replicate (60 : Int).toNat [Tr.str "a"]).flatten ++ [.str (Txt.mul "a" 9)])
def gotA : List Tr := (got1 ++ got2) ++ [got3]
def gotB : List Tr := gotA ++ got4
def gotC : List Tr := gotB ++ [.bl (isPart ["a"] [])] ++ (someT ++ moreT).map FB ++ [.bl (isLogT (trs false ["zz"]))]
def due3 : List Tr := due1 ++ due2 ++ [.sq false [.int 1, .int 3], .int 10, .int 76904685, .bl false] ++ (List.replicate (2 : Int).toNat [Tr.bl true]).flatten ++ (List.replicate (10 : Int).toNat [Tr.bl false]).flatten ++ [.bl true, .bl true, .bl false]
theorem way1 : LwB.cnt (aN 3) (aN 5) = 10 := by
  rw [cnt_cntV]
  decide +kernel
theorem way2 : LwB.cnt (aN 8) (aN 40) = 76904685 := by
  rw [cnt_cntV]
  decide +kernel
theorem some_bnd : ∀ T ∈ someT ++ moreT, bndT T = true := List.all_eq_true.mp (by decide +kernel)
theorem words_ok : ∀ T ∈ wordsB.map (trs false), ∃ w : List Str, T = trs false w ∧ w.length ≤ 1000 := fun T h => by
  obtain ⟨w, hw, rfl⟩ := List.mem_map.mp h
  exact ⟨w, rfl, of_decide_eq_true (List.all_eq_true.mp (by decide +kernel : wordsB.all (fun w => decide (w.length ≤ 1000)) = true) w hw)⟩
theorem kw_log : Kw1 "is_log" s_is_log ["thing"] := fun _ _ _ _ _ _ _ => rfl
section
variable {P : Program} {w : World} {K : PySem.W.Frag} {mg : Str → Option Value} {base : Heap}
set_option maxHeartbeats 4000000 in
theorem ok__law_by_hand_right (D : Df K mg "_law_by_hand_right" s__law_by_hand_right []) (B : Bn mg) (OW : Ok P w K mg base 4 "_law_word_right" ["_law_verse", "_law_row"] spWordR) (OP : Ok P w K mg base 1 "is_part" ["word", "log"] spPart) (OQ : Ok P w K mg base 2 "places" ["word", "log"] spPlaces)
    (OY : Ok P w K mg base 1 "ways" ["word", "log"] spWays) (OG : Ok P w K mg base 2 "is_log" ["thing"] spIsLog) (DG : Df K mg "is_log" s_is_log ["thing"]) (OS : Ok P w K mg base 3 "_law_same" ["_law_got", "_law_due"] (spSame 3)) : Ok P w K mg base 5 "_law_by_hand_right" [] spTrue0 := by
  refine D.ok sc__law_by_hand_right (fun vs H Q E h => ?_) (fun f cdv A outer s H vs Q E hr h => ?_)
  · obtain ⟨rfl, _⟩ := h
    rfl
  · obtain ⟨rfl, q⟩ := h
    have nd := sc__law_by_hand_right.nd
    have hr1 : Room 1 _ := hr.mono (by decide)
    have hr2 : Room 2 _ := hr.mono (by decide)
    have hr3 : Room 3 _ := hr.mono (by decide)
    let R : Nat × Tr := (0, trs false rowB)
    refine ⟨_, st_set (N := 6) (env := []) (i := 0) (T := trs false rowB) (env' := []) nd rfl (.inr rfl) (le_eq (le_tup (les_cons (le_str) (les_cons (le_str) (les_cons (le_str) (les_cons (le_str) (les_cons (le_str) les_nil)))))) rfl)
      (st_set (i := 1) (T := .sq true (wordsB.map (trs false))) (env' := [R]) nd rfl (.inl rfl) (le_eq (le_lst (les_cons ((le_tup les_nil)) (les_cons ((le_tup (les_cons (le_str) les_nil))) (les_cons ((le_tup (les_cons (le_str) (les_cons (le_str) les_nil)))) (les_cons ((le_tup (les_cons (le_str) (les_cons (le_str) les_nil)))) (les_cons ((le_tup (les_cons (le_str) (les_cons (le_str) les_nil)))) (les_cons ((le_tup (les_cons (le_str) (les_cons (le_str) (les_cons (le_str) les_nil))))) (les_cons ((le_tup (les_cons (le_str) (les_cons (le_str) (les_cons (le_str) les_nil))))) (les_cons ((le_tup (les_cons (le_str) (les_cons (le_str) les_nil)))) (les_cons (le_var (pv 0) in0) les_nil)))))))))) rfl)
      (st_if (kn_or (p := false) (q := false) (kn_eq (kn_not (kn_val (le_all (bs := List.replicate 9 true) rfl B.all (le_eq (le_of (lf_lc (k := 5) (Pr := fun T => ∃ w : List Str, T = trs false w ∧ w.length ≤ 1000) (F := fun _ => Tr.bl true) rfl nd (le_var (pv 1) in0)
            (blkOk_by (N := ["_law_row", "_law_words_so", "_law_got", "_law_due", "_law_some", "_law_own"]) (sc := defScope s__law_by_hand_right) (by decide +kernel)) (by decide) (by decide) words_ok
            (fun _ _ _ _ _ => pg_name (i := 5) nd rfl (.inl rfl)) (fun _ _ _ _ _ => le_fam fun T hT => by
              obtain ⟨w, rfl, l⟩ := hT
              exact le_c OW (hr.mono (by decide)) (les_cons (le_var (pv 5) in0) (les_cons (le_var (T := trs false rowB) (pv 0) in2) les_nil)) rfl (kp_wordR l (by decide))))) rfl)))) rfl)
          (fun _ => kn_eq (kn_not (kn_val (le_c OW (hr.mono (by decide)) (les_cons ((le_tup les_nil)) (les_cons ((le_tup les_nil)) les_nil)) rfl (kp_wordR (ws := []) (es := []) (by decide) (by decide))))) rfl)) (pss_one (ps_ret pe_bl))
      (st_set (i := 2) (T := .sq true got1) (env' := [R]) nd rfl (.inl rfl) (le_eq (le_lst (les_cons (le_c OQ hr2 (les_cons ((le_tup (les_cons (le_str) (les_cons (le_str) les_nil)))) (les_cons (le_var (T := trs false rowB) (pv 0) in1) les_nil)) (placesT_nol _ _) (kp_places (t := false) (ws := ["a", "b"]) (es := rowB) (by decide))) (les_cons (le_c OY hr1 (les_cons ((le_tup (les_cons (le_str) (les_cons (le_str) les_nil)))) (les_cons (le_var (T := trs false rowB) (pv 0) in1) les_nil)) rfl (kp_ways (t := false) (ws := ["a", "b"]) (es := rowB) (by decide))) (les_cons (le_c OQ hr2 (les_cons ((le_tup (les_cons (le_str) (les_cons (le_str) les_nil)))) (les_cons (le_var (T := trs false rowB) (pv 0) in1) les_nil)) (placesT_nol _ _) (kp_places (t := false) (ws := ["c", "a"]) (es := rowB) (by decide))) (les_cons (le_c OY hr1 (les_cons ((le_tup (les_cons (le_str) (les_cons (le_str) les_nil)))) (les_cons (le_var (T := trs false rowB) (pv 0) in1) les_nil)) rfl (kp_ways (t := false) (ws := ["c", "a"]) (es := rowB) (by decide))) les_nil))))) rfl)
      (st_set (i := 3) (T := .sq true due1) (env' := [(2, .sq true got1), R]) nd rfl (.inl rfl) (le_eq (le_lst (les_cons ((le_tup (les_cons (le_int) (les_cons (le_int) les_nil)))) (les_cons (le_int) (les_cons (le_non) (les_cons (le_int) les_nil))))) rfl)
      (so_set (i := 2) (ts := got1 ++ got2) (env' := [(3, .sq true due1), R]) nd rfl (.inl rfl) (lf_cat (Us := got2) (le_var (pv 2) in1) (le_eq (le_lst (les_cons (le_c OP hr1 (les_cons ((le_tup (les_cons (le_str) les_nil))) (les_cons ((le_tup (les_cons (le_str) (les_cons (le_str) les_nil)))) les_nil)) rfl (kp_part (t := false) (u := false) (ws := ["ab"]) (es := ["a", "b"]))) (les_cons (le_c OP hr1 (les_cons ((le_tup (les_cons (le_str) (les_cons (le_str) les_nil)))) (les_cons ((le_tup (les_cons (le_str) les_nil))) les_nil)) rfl (kp_part (t := false) (u := false) (ws := ["a", "b"]) (es := ["ab"]))) (les_cons (le_c OQ hr2 (les_cons ((le_tup (les_cons (le_str) les_nil))) (les_cons ((le_tup (les_cons (le_str) (les_cons (le_str) les_nil)))) les_nil)) (placesT_nol _ _) (kp_places (t := false) (u := false) (ws := ["b"]) (es := ["ab", "b"]) (by decide))) les_nil)))) rfl))
      (so_grow (T := got3) (ps_expr (pe_bm PySem.F.plainAttrs_list PySem.F.slot_list_append PySem.F.type_list_append mt_append (pv 2) (pa_cons (le_c OY hr1 (les_cons ((le_tup (les_cons (le_str) (les_cons (le_str) les_nil)))) (les_cons ((le_tup (les_cons (le_str) (les_cons (le_str) les_nil)))) les_nil)) rfl (kp_ways (t := false) (u := false) (ws := ["a", "bc"]) (es := ["ab", "c"]) (by decide))) pa_nil))) (by decide)
      (so_end (st_set (i := 3) (T := .sq true (due1 ++ due2)) (env' := [(2, .sq true gotA), R]) nd rfl (.inl rfl) (le_cat (Us := due2) (le_var (pv 3) in1) (le_eq (le_lst (les_cons (le_bl) (les_cons (le_bl) (les_cons ((le_tup (les_cons (le_int) les_nil))) (les_cons (le_int) les_nil))))) rfl))
      (st_set (i := 2) (T := .sq true gotB) (env' := [(3, .sq true (due1 ++ due2)), R]) nd rfl (.inl rfl) (le_cat (Us := got4) (le_var (pv 2) in1) (le_eq (T := .sq true [placesT ["b", "c"] rowB, .int (LwB.cnt (aN 3) (aN 5) : Nat), .int (LwB.cnt (aN 8) (aN 40) : Nat)]) (le_lst (les_cons (le_c OQ hr2 (les_cons ((le_tup (les_cons (le_str) (les_cons (le_str) les_nil)))) (les_cons (le_var (T := trs false rowB) (pv 0) in2) les_nil)) (placesT_nol _ _) (kp_places (t := false) (ws := ["b", "c"]) (es := rowB) (by decide))) (les_cons (le_c OY hr1 (les_cons (le_eq (T' := trs false (aN 3)) (le_repT (K := K) (le_tup (les_cons (le_str) les_nil)) rfl (fun h => nomatch h)) (Tr.eq_of _ _ (by decide +kernel))) (les_cons (le_eq (T' := trs false (aN 5)) (le_repT (K := K) (le_tup (les_cons (le_str) les_nil)) rfl (fun h => nomatch h)) (Tr.eq_of _ _ (by decide +kernel))) les_nil)) rfl (kp_ways (by decide))) (les_cons (le_c OY hr1 (les_cons (le_eq (T' := trs false (aN 8)) (le_repT (K := K) (le_tup (les_cons (le_str) les_nil)) rfl (fun h => nomatch h)) (Tr.eq_of _ _ (by decide +kernel))) (les_cons (le_eq (T' := trs false (aN 40)) (le_repT (K := K) (le_tup (les_cons (le_str) les_nil)) rfl (fun h => nomatch h)) (Tr.eq_of _ _ (by decide +kernel))) les_nil)) rfl (kp_ways (by decide))) les_nil)))) (by rw [way1, way2]; rfl)))
      (st_set (i := 4) (T := .sq true someT) (env' := [(2, .sq true gotB), (3, .sq true (due1 ++ due2)), R]) nd rfl (.inl rfl) (le_eq (le_lst (les_cons ((le_tup les_nil)) (les_cons ((le_tup (les_cons (le_str) (les_cons (le_str) les_nil)))) (les_cons ((le_lst (les_cons (le_str) les_nil))) (les_cons ((le_tup (les_cons (le_str) les_nil))) (les_cons ((le_tup (les_cons (le_str) les_nil))) (les_cons ((le_tup (les_cons (le_str) les_nil))) (les_cons ((le_tup (les_cons (le_str) (les_cons (le_int) les_nil)))) (les_cons (le_str) (les_cons (le_non) (les_cons ((le_tup (les_cons (le_str) les_nil))) (les_cons ((le_tup (les_cons (le_str) les_nil))) les_nil)))))))))))) rfl)
      (st_set (i := 2) (T := .sq true gotC) (env' := [(3, .sq true (due1 ++ due2)), R]) nd rfl (.inl rfl) (le_cat (Us := [.bl (isLogT (trs false ["zz"]))]) (le_cat (Us := (someT ++ moreT).map FB) (le_cat (Us := [.bl (isPart ["a"] [])]) (le_var (T := .sq true gotB) (pv 2) in1) (le_lst (les_cons (le_c OP hr1 (les_cons ((le_tup (les_cons (le_str) les_nil))) (les_cons ((le_tup les_nil)) les_nil)) rfl (kp_part (t := false) (u := false) (ws := ["a"]) (es := []))) les_nil)))
          (le_of (lf_lc (k := 5) (Pr := fun T => bndT T = true) (F := FB) rfl nd (le_cat (Us := moreT) (le_var (T := .sq true someT) (pv 4) in0) (le_eq (le_lst (les_cons ((le_tup (les_cons ((le_tup (les_cons (le_str) les_nil))) les_nil))) les_nil)) rfl))
            (blkOk_by (N := ["_law_row", "_law_words_so", "_law_got", "_law_due", "_law_some", "_law_own"]) (sc := defScope s__law_by_hand_right) (by decide +kernel)) (by decide) (by decide) some_bnd
            (fun _ _ _ _ _ => pg_name (i := 5) nd rfl (.inl rfl)) (fun _ _ _ _ _ => le_fam fun T hT => le_c OG hr2 (les_cons (le_var (pv 5) in0) les_nil) rfl (kp_log hT)))))
          (le_lst (les_cons (le_kw1 (T := trs false ["zz"]) OG DG kw_log hr2 (lek_cons (le_eq (le_tup (les_cons (le_str) les_nil)) rfl) lek_nil) rfl (kp_log (by decide +kernel))) les_nil)))
      (st_set (i := 3) (T := .sq true due3) (env' := [(2, .sq true gotC), R]) nd rfl (.inl rfl) (le_cat (Us := [.bl true, .bl true, .bl false]) (le_cat (le_cat (le_cat (Us := [.sq false [.int 1, .int 3], .int 10, .int 76904685, .bl false]) (le_var (T := .sq true (due1 ++ due2)) (pv 3) in1) (le_lst (les_cons ((le_tup (les_cons (le_int) (les_cons (le_int) les_nil)))) (les_cons (le_int) (les_cons (le_int) (les_cons (le_bl) les_nil))))))
          (le_rep (Ts := [.bl true]) (le_lst (les_cons (le_bl) les_nil)))) (le_rep (Ts := [.bl false]) (le_lst (les_cons (le_bl) les_nil)))) (le_lst (les_cons (le_bl) (les_cons (le_bl) (les_cons (le_bl) les_nil)))))
      (st_ret (le_c OS hr3 (les_cons (le_cat (Us := [.bl (isLogT abT), .bl (isLogT longT)]) (le_var (T := .sq true gotC) (pv 2) in1) (le_lst (les_cons (le_c OG hr2 (les_cons (le_repT (K := K) (Ts := [.str "a", .str "b"]) (le_tup (les_cons (le_str) (les_cons (le_str) les_nil))) rfl (fun h => nomatch h)) les_nil) rfl (kp_log (T := abT) (by decide +kernel))) (les_cons (le_c OG hr2 (les_cons (le_catT (le_repT (K := K) (Ts := [.str "a"]) (le_tup (les_cons (le_str) les_nil)) rfl (fun h => nomatch h)) (le_tup (les_cons (le_mulS le_str (by unfold MulOk; decide +kernel)) les_nil)) rfl) les_nil) rfl (kp_log (T := longT) (by decide +kernel))) les_nil)))) (les_cons (le_var (T := .sq true due3) (pv 3) in0) les_nil)) rfl (kp_same (n := 2) (Tr.eq_of _ _ (by decide +kernel)) (by decide +kernel))))
      (by decide) (by simp [R, gotA]) (by simp [R, gotA])) (by decide) (by simp [R, gotA]) (by simp [R, gotA])) (by decide) (by simp [R, gotA]) (by simp [R, gotA])) (by decide) (by simp [R, gotA]) (by simp [R, gotA])) (by decide) (by simp [R, gotA]) (by simp [R, gotA])))) (by decide) (by simp [R, gotA]) (by simp [R, gotA])) (by decide) (by simp [R, gotA]) (by simp [R, gotA])) (by decide) (by simp [R, gotA]) (by simp [R, gotA]))) (by decide) (by simp [R, gotA]) (by simp [R, gotA])) (by decide) (by simp [R, gotA]) (by simp [R, gotA]), ?_⟩
    exact ⟨H, Vw.refl H, ⟨rfl, fun p hp => nomatch hp⟩, fun H' s => q H' s⟩
end
end K09
namespace K09
open PySem PySem.Spec PyProof.Rows L2 IqX RvT LwB EnS TL NsT
def evAt (es : List Str) (k : Nat) : Str := es.getD k (Str.ofString "")
theorem sub_of : ∀ (es : List Str) (of0 : Nat) (ks : List Nat), ks.Pairwise (· < ·) → (∀ k ∈ ks, of0 ≤ k ∧ k < of0 + es.length) → (ks.map fun k => evAt es (k - of0)).Sublist es
  | _, _, [], _, _ => List.nil_sublist _
  | [], of0, k :: ks, _, h => by
    have := h k (.head _)
    rw [List.length_nil] at this
    omega
  | e :: es, of0, k :: ks, hp, h => by
    have hk := h k (.head _)
    have hp2 := List.pairwise_cons.mp hp
    have step : ∀ {ms : List Nat}, (∀ m ∈ ms, of0 + 1 ≤ m ∧ m < of0 + (e :: es).length) → ms.map (fun k => evAt (e :: es) (k - of0)) = ms.map (fun k => evAt es (k - (of0 + 1))) := by
      intro ms hm
      refine List.map_congr_left fun m hmm => ?_
      have h1 := hm m hmm
      show (e :: es).getD (m - of0) _ = es.getD (m - (of0 + 1)) _
      rw [show m - of0 = (m - (of0 + 1)) + 1 by omega, List.getD_cons_succ]
    have low : ∀ {ms : List Nat}, (∀ m ∈ ms, of0 + 1 ≤ m ∧ m < of0 + (e :: es).length) → ∀ m ∈ ms, of0 + 1 ≤ m ∧ m < of0 + 1 + es.length := by
      intro ms hm m hmm
      have h1 := hm m hmm
      rw [List.length_cons] at h1
      omega
    by_cases hko : k = of0
    · have ht : ∀ m ∈ ks, of0 + 1 ≤ m ∧ m < of0 + (e :: es).length := fun m hm => by
        have h1 := hp2.1 m hm
        have h2 := h m (.tail _ hm)
        omega
      rw [List.map_cons, step ht, hko, Nat.sub_self]
      exact .cons₂ e (sub_of es (of0 + 1) ks hp2.2 (low ht))
    · have ht : ∀ m ∈ k :: ks, of0 + 1 ≤ m ∧ m < of0 + (e :: es).length := fun m hm => by
        rcases List.mem_cons.mp hm with rfl | hm
        · omega
        · have h1 := hp2.1 m hm
          have h2 := h m (.tail _ hm)
          omega
      rw [step ht]
      exact .cons e (sub_of es (of0 + 1) (k :: ks) hp (low ht))
/-- drawn places, put in order, are those of a part -/
theorem part_of {es : List Str} {zs : List Int} {ys rest : List V} (hperm : (ys ++ rest).Perm (rgV 0 (es.length : Nat))) (hz : (zs.map V.int).Perm ys) (hs : zs.Pairwise (· ≤ ·)) :
    (∀ z ∈ zs, 0 ≤ z ∧ z < (es.length : Nat)) ∧ isPart (zs.map fun z => evAt es z.toNat) es = true := by
  have nd : (rgV 0 (es.length : Nat)).Nodup := by
    unfold rgV
    refine List.Pairwise.map _ (fun a b (h : a ≠ b) => ?_) List.nodup_range
    intro q
    have := V.int.inj q
    omega
  have nd2 : (ys ++ rest).Nodup := hperm.nodup_iff.mpr nd
  have nd3 : (zs.map V.int).Nodup := hz.nodup_iff.mpr (List.nodup_append.mp nd2).1
  have bd : ∀ z ∈ zs, 0 ≤ z ∧ z < (es.length : Nat) := fun z h => by
    have h1 : V.int z ∈ rgV 0 (es.length : Nat) := hperm.mem_iff.mp (List.mem_append_left _ (hz.mem_iff.mp (List.mem_map.mpr ⟨z, h, rfl⟩)))
    unfold rgV at h1
    obtain ⟨i, hi, e⟩ := List.mem_map.mp h1
    have := V.int.inj e
    have h2 := List.mem_range.mp hi
    omega
  refine ⟨bd, (isPart_iff _ _).mpr ?_⟩
  have lt : zs.Pairwise (· < ·) := by
    have h1 := List.pairwise_map.mp nd3
    refine (hs.and h1).imp fun {a b} ⟨h2, h3⟩ => ?_
    have : a ≠ b := fun q => h3 (by rw [q])
    omega
  have := sub_of es 0 (zs.map Int.toNat) (List.pairwise_map.mpr (lt.imp_of_mem fun {a b} ha hb h => by
    have := bd a ha
    have := bd b hb
    omega)) (fun k hk => by
    obtain ⟨z, h, rfl⟩ := List.mem_map.mp hk
    have := bd z h
    omega)
  rw [List.map_map] at this
  exact this
theorem ints_of : ∀ {ys : List V}, (∀ y ∈ ys, ∃ i : Int, y = V.int i) → ∃ ns : List Int, ys = ns.map V.int
  | [], _ => ⟨[], rfl⟩
  | y :: ys, h => by
    obtain ⟨i, rfl⟩ := h y (.head _)
    obtain ⟨ns, rfl⟩ := ints_of fun z hz => h z (.tail _ hz)
    exact ⟨i :: ns, rfl⟩
theorem rg_ints {n : Nat} {ys rest : List V} (hperm : (ys ++ rest).Perm (rgV 0 (n : Nat))) : ∃ ns : List Int, ys = ns.map V.int :=
  ints_of fun y hy => by
    have h1 := hperm.mem_iff.mp (List.mem_append_left _ hy)
    unfold rgV at h1
    obtain ⟨i, _, e⟩ := List.mem_map.mp h1
    exact ⟨_, e.symm⟩
theorem six_cases {x : V} (h : x ∈ [V.int 0, V.int 3, V.int 6, V.int 8, V.int 10, V.int 40]) : ∃ m : Nat, x = .int (m : Nat) ∧ m ≤ 40 := by
  simp only [List.mem_cons, List.not_mem_nil, or_false] at h
  rcases h with rfl | rfl | rfl | rfl | rfl | rfl
  · exact ⟨0, rfl, by decide⟩
  · exact ⟨3, rfl, by decide⟩
  · exact ⟨6, rfl, by decide⟩
  · exact ⟨8, rfl, by decide⟩
  · exact ⟨10, rfl, by decide⟩
  · exact ⟨40, rfl, by decide⟩
theorem ev_at {rs : List Str} {z : Int} (h0 : 0 ≤ z) (h1 : z < (rs.length : Nat)) : atI (rs.map V.str) z = some (V.str (evAt rs z.toNat)) := by
  obtain ⟨k, rfl⟩ := Int.eq_ofNat_of_zero_le h0
  have hk : k < rs.length := by omega
  refine atI_nat ?_
  rw [List.getElem?_map, List.getElem?_eq_getElem hk]
  show some (V.str rs[k]) = some (V.str (rs.getD k _))
  rw [List.getD_eq_getElem?_getD, List.getElem?_eq_getElem hk]
  rfl
end K09
namespace K09
open PySem PySem.Spec PyProof.Rows L2 IqX RvT LwB EnS TL NsT
section
variable {P : Program} {w : World} {K : PySem.W.Frag} {mg : Str → Option Value} {base : Heap}
def spRightB : Sp := fun vs H Q _ => ∃ (b : Addr), vs = [.ref b] ∧ Bx 0 H b ∧ ∀ H', LwB.Fr b H H' → Q (.bl true) H'
theorem ok__law_right (D : Df K mg "_law_right" s__law_right ["_law_box_here"]) (B : Bn mg) (OH : Ok P w K mg base 5 "_law_by_hand_right" [] spTrue0) (OT : Ok P w K mg base 1 "_law_take" ["_law_box_here", "_law_size_so"] spTake) (OO : Ok P w K mg base 2 "_law_of" ["_law_box_here", "_law_goods_so"] spOf)
    (OK : Ok P w K mg base 2 "_law_pick" ["_law_box_here", "_law_goods_so", "_law_count_so"] spPick) (ON : Ok P w K mg base 3 "_law_names" ["_law_box_here", "_law_much_so"] spNames) (OE : Ok P w K mg base 3 "_law_event_row" ["_law_box_here", "_law_tags", "_law_most"] spRow)
    (OW : Ok P w K mg base 4 "_law_word_right" ["_law_verse", "_law_row"] spWordR) (OP : Ok P w K mg base 1 "is_part" ["word", "log"] spPart) : Ok P w K mg base 6 "_law_right" ["_law_box_here"] spRightB := by
  refine D.ok sc__law_right (fun vs H Q E h => ?_) (fun f cdv A outer s H vs Q E hr h => ?_)
  · obtain ⟨_, rfl, _⟩ := h
    rfl
  · obtain ⟨b, rfl, hb, q⟩ := h
    have nd := sc__law_right.nd
    have hr1 : Room 1 _ := hr.mono (by decide)
    have hr2 : Room 2 _ := hr.mono (by decide)
    have hr3 : Room 3 _ := hr.mono (by decide)
    have hr4 : Room 4 _ := hr.mono (by decide)
    refine ⟨_, pss_cons (ps_if (pt_not (pt_val (pe_c0 OH hr))) (pss_one (ps_ret pe_bl)) pss_nil)
      (pss_cons (ps_for PassesOwn.never rfl (pi_range1 (by rfl) B.range (pa_cons pe_int pa_nil)) (pg_name (i := 1) nd rfl (.inl rfl))
        (pss_cons (ps_set (i := 2) nd rfl (.inr rfl) (pe_c ON hr3 (pa_cons (pv 0) (pa_cons (pe_op op_add pe_int (pe_c OT hr1 (pa_cons (pv 0) (pa_cons pe_int pa_nil)))) pa_nil))))
        (pss_cons (ps_set (i := 3) nd rfl (.inr rfl) (pe_tupQ B.tuple (pa_cons (pe_lc (own := [("_law_k", 9)]) (g := gName 9) (by rfl) nd (pi_range1 (by rfl) B.range (pa_cons (pe_c OO hr2 (pa_cons (pv 0) (pa_cons (pe_lst (pa_cons pe_int (pa_cons pe_int (pa_cons pe_int (pa_cons pe_int (pa_cons pe_int (pa_cons pe_int pa_nil))))))) pa_nil))) pa_nil))
            (blkOk_by (N := ["_law_box_here", "_law_turn", "_law_tags", "_law_row", "_law_spots", "_law_verse", "_law_at_so", "_law_own", "_law_bent", "_law_k"]) (sc := defScope s__law_right) (by decide +kernel))
            (fun _ _ _ _ _ => pg_name (i := 9) nd rfl (.inl rfl)) (fun _ _ _ _ _ => pts_nil) (fun _ _ _ _ _ => pe_c OO hr2 (pa_cons (pv 0) (pa_cons (pv 2) pa_nil)))) pa_nil)))
        (pss_cons (ps_set (i := 4) nd rfl (.inl rfl) (pe_callB cr_sortedI (by rfl) B.sorted (by decide +kernel) (pa_cons (pe_c OK hr2 (pa_cons (pv 0) (pa_cons (pe_listRg (by rfl) (by rfl) B.list (prg_1 (by rfl) B.range (pe_len B.len (pa_cons (pv 3) pa_nil)))) (pa_cons (pe_c OT hr1 (pa_cons (pv 0) (pa_cons pe_int pa_nil))) pa_nil)))) pa_nil)))
        (pss_cons (ps_set (i := 5) nd rfl (.inl rfl) (pe_tupQ B.tuple (pa_cons (pe_lc (own := [("_law_k", 9)]) (g := gName 9) (by rfl) nd (pi_seqK (K := K) (pv 4))
            (blkOk_by (N := ["_law_box_here", "_law_turn", "_law_tags", "_law_row", "_law_spots", "_law_verse", "_law_at_so", "_law_own", "_law_bent", "_law_k"]) (sc := defScope s__law_right) (by decide +kernel))
            (fun _ _ _ _ _ => pg_name (i := 9) nd rfl (.inl rfl)) (fun _ _ _ _ _ => pts_nil) (fun _ _ _ _ _ => pe_ix ix_sq (pv 3) (pv 9) (fun _ _ => rfl))) pa_nil)))
        (pss_cons (ps_if (PW.pt (pw_or (pt_not (pt_val (pe_c OW hr4 (pa_cons (pv 5) (pa_cons (pv 3) pa_nil))))) (pw_or1 (pt_not (pt_val (pe_c OP hr1 (pa_cons (pv 5) (pa_cons (pv 3) pa_nil)))))))) (pss_one (ps_ret pe_bl)) pss_nil)
        (pss_cons (ps_par (i := 6) (j := 7) (by rfl) nd rfl rfl (by decide) rfl rfl (pa_cons (pe_c OT hr1 (pa_cons (pv 0) (pa_cons (pe_op op_add (pe_len B.len (pa_cons (pv 5) pa_nil)) pe_int) pa_nil))) (pa_cons (pe_c OO hr2 (pa_cons (pv 0) (pa_cons (pv 2) pa_nil))) pa_nil)) (by rfl))
        (pss_cons (ps_set (i := 8) nd rfl (.inl rfl) (pe_slice sl_sq (pe_op op_catQ (pe_op op_catQ (pe_slice sl_sq (pv 5) po_none (po_some (pv 6))) (pe_tup (pa_cons (pv 7) pa_nil))) (pe_slice sl_sq (pv 5) (po_some (pe_op op_add (pv 6) pe_int)) po_none)) po_none (po_some pe_int)))
        (pss_one (ps_if (PW.pt (pw_or (pt_not (pt_val (pe_c OW hr4 (pa_cons (pv 8) (pa_cons (pv 3) pa_nil))))) (pw_or1 (pt_not (pt_val (pe_c OW hr4 (pa_cons (pe_c OE hr3 (pa_cons (pv 0) (pa_cons (pv 2) (pa_cons pe_int pa_nil)))) (pa_cons (pv 3) pa_nil)))))))) (pss_one (ps_ret pe_bl)) pss_nil))))))))))
      (pss_one (ps_ret pe_bl))), ?_⟩
    refine ⟨rfl, fun H1 s1 => ⟨true, rfl, iteF ?_⟩⟩
    refine ⟨6, rfl, by decide, by decide, for_range (lo := 0) (n := 6) (fun i σ H' => ∃ x1 x2 x3 x4 x5 x6 x7 x8 x9 : Option V, σ = [some (.ref b), x1, x2, x3, x4, x5, x6, x7, x8, x9] ∧ LwB.Fr b H H' ∧ Bx (1000 * i) H' b)
      ⟨none, none, none, none, none, none, none, none, none, rfl, Fr.same s1, hb.same s1⟩ ?_ ?_⟩
    · rintro i σ H2 hi ⟨x1, x2, x3, x4, x5, x6, x7, x8, x9, rfl, fr, bx⟩
      refine ⟨_, rfl, _, rfl, b, 1000 * i, 6, rfl, bx, by omega, by decide, by decide, fun H3 t f3 b3 t0 t1 => ?_⟩
      obtain ⟨t, rfl⟩ := Int.eq_ofNat_of_zero_le t0
      refine ⟨1, t, rfl, rfl, b, 1000 * i + 1, 1 + t, rfl, b3, by omega, by omega, fun H4 l ss f4 b4 nl el hn hl => ?_⟩
      have hlb : l ≠ b := b3.ne_new nl
      have hs0 : 0 < (ss.map V.str).length := by rw [List.length_map]; omega
      have hsl : (ss.map V.str).length ≤ 1000000 := by rw [List.length_map]; omega
      -- the row
      refine ⟨_, rfl, (by show 6 ≤ sizeLine; decide), fun g0 ng0 => ?_⟩
      have b4' := b4.same (same_new (o := HO.lst [V.int 0, V.int 3, V.int 6, V.int 8, V.int 10, V.int 40]) ng0)
      refine ⟨b, _, .ref g0, [V.int 0, V.int 3, V.int 6, V.int 8, V.int 10, V.int 40], rfl, b4', by omega, .inr ⟨true, g0, rfl, b4.ne_new ng0, .lst upd_same, by show 6 ≤ 1000000; decide⟩, by show 0 < 6; decide, fun H5 x5' f5 b5 hx5 => ?_⟩
      obtain ⟨m, rfl, hm⟩ := six_cases hx5
      have f5' : LwB.Fr b H4 H5 := (Fr.same (same_new ng0)).trans f5
      have tags5 : Sq true H5 l (ss.map V.str) := f5'.sq hlb (.lst el)
      have fA5 : LwB.Fr b H H5 := fr.trans (f3.trans (f4.trans f5'))
      clear f3 f4 f5 f5' b3 b4 b4' el bx fr
      refine ⟨m, rfl, by omega, by omega, fun L nL => ?_⟩
      have hLb : L ≠ b := b5.ne_new nL
      refine lc_range (lo := 0) (n := ((m : Nat) : Int).toNat) (fun u J => LwB.Fr b H5 J ∧ Bx (1000 * i + 402 + u) J b ∧ ∃ es : List Str, J L = some (.lst (es.map V.str)) ∧ es.length = u ∧ ∀ e ∈ es, e ∈ ss)
        ⟨Fr.same (same_new nL), (b5.new nL).mono (by omega), [], upd_same, rfl, fun c h => nomatch h⟩ ?_ ?_
      · rintro u J hu ⟨frJ, bxJ, es, eL, hlE, hcE⟩
        refine ⟨rfl, ?_⟩
        show tCall spOf [] E0 (tCons (tVar 0) (tCons (tVar 2) tNil)) _ _ _
        refine ⟨_, rfl, _, rfl, b, _, .ref l, ss.map V.str, rfl, bxJ, by omega, .inr ⟨true, l, rfl, hlb, frJ.sq hlb tags5, hsl⟩, hs0, fun J2 x fJ2 bJ2 hx => ?_⟩
        obtain ⟨e, he, rfl⟩ := List.mem_map.mp hx
        refine ⟨_, fJ2 _ _ eL hLb, ?_, (frJ.trans fJ2).young nL, ?_, es ++ [e], ?_, ?_, ?_⟩
        · rw [List.length_map, hlE]
          exact small1000 (by omega)
        · exact (bJ2.mono (by omega)).upd hLb
        · rw [upd_same, List.map_append]
          rfl
        · rw [List.length_append, List.length_singleton, hlE]
        · intro c' h'
          rcases List.mem_append.mp h' with h' | h'
          · exact hcE c' h'
          · rw [List.mem_singleton.mp h']
            exact he
      rintro J ⟨frJ, bxJ, es, eL, hlE, hcE⟩
      rw [Int.toNat_natCast] at hlE bxJ
      refine ⟨true, L, _, rfl, .lst eL, fun H6 p6 s6 h6 => ?_⟩
      have b6 := bxJ.same s6
      have n6 : p6 ≠ b := h6.ne_box b6
      have tags6 : Sq true H6 l (ss.map V.str) := s6.sq (frJ.sq hlb tags5)
      have fA6 : LwB.Fr b H H6 := fA5.trans (frJ.trans (Fr.same s6))
      clear frJ bxJ eL s6 tags5 fA5 b5 nL hLb
      -- the places
      refine ⟨_, rfl, _, rfl, false, p6, _, rfl, h6, _, rfl, RgOk.of_le (by omega) (by rw [List.length_map]; omega) (by omega) (by omega), fun q7 nq7 => ?_⟩
      have b7 := b6.same (same_new (o := HO.lst (rgV 0 ((es.map V.str).length : Nat))) nq7)
      refine ⟨_, rfl, b, _, 9, rfl, b7, by omega, by decide, by decide, fun H8 c f8 b8 c0 c1 => ?_⟩
      obtain ⟨c, rfl⟩ := Int.eq_ofNat_of_zero_le c0
      have h78 : H8 q7 = some (.lst (rgV 0 ((es.map V.str).length : Nat))) := f8 _ _ upd_same (b6.ne_new nq7)
      refine ⟨b, _, c, .ref q7, rgV 0 ((es.map V.str).length : Nat), rfl, b8, by omega, by omega, .inr ⟨true, q7, rfl, b6.ne_new nq7, .lst h78, by rw [rgV_length, List.length_map]; omega⟩, fun H9 p9 ys rest f9 b9 np9 ep9 perm9 len9 => ?_⟩
      rw [List.length_map] at perm9 len9
      rw [rgV_length] at len9
      obtain ⟨ns, rfl⟩ := rg_ints perm9
      refine ⟨p9, ns, rfl, SqL.of ep9, fun zs p10 hz hs np10 => ?_⟩
      have zlen : zs.length ≤ 8 := by
        have h1 := hz.length_eq
        rw [List.length_map] at len9
        omega
      obtain ⟨bd, hpart⟩ := part_of perm9 (hz.map V.int) hs
      have f69 : LwB.Fr b H6 H9 := (Fr.same (same_new nq7)).trans (f8.trans f9)
      have s10 := same_new (o := HO.lst (zs.map V.int)) np10
      have h10 : Sq false (upd H9 p10 (.lst (zs.map V.int))) p6 (es.map V.str) := s10.sq (f69.sq n6 h6)
      have tags10 : Sq true (upd H9 p10 (.lst (zs.map V.int))) l (ss.map V.str) := s10.sq (f69.sq hlb tags6)
      have b10 := b9.same s10
      have fA10 : LwB.Fr b H (upd H9 p10 (.lst (zs.map V.int))) := fA6.trans (f69.trans (Fr.same s10))
      have hsp : Sq true (upd H9 p10 (.lst (zs.map V.int))) p10 (zs.map V.int) := .lst upd_same
      generalize upd H9 p10 (.lst (zs.map V.int)) = H10 at h10 tags10 b10 fA10 hsp s10
      clear f69 s10 f8 f9 b7 b8 b9 h78 tags6 fA6 np10 ep9 np9 perm9 len9 nq7 b6
      -- the verse
      refine ⟨_, rfl, true, p10, rfl, ⟨_, hsp.B⟩, fun L2 nL2 => ?_⟩
      refine lc_seq (K := K) (b := true) (a := p10) (xs := zs.map V.int) (fun u J => Same H10 J ∧ J L2 = some (.lst ((zs.take u).map fun z => V.str (evAt es z.toNat)))) ⟨same_new nL2, upd_same⟩ (fun u J _ hp => (hp.1.sq hsp).B) ?_ ?_
      · rintro u x J hx ⟨sJ, eL⟩
        rw [List.getElem?_map] at hx
        obtain ⟨z, hz', rfl⟩ := Option.map_eq_some_iff.mp hx
        have hzm := List.mem_of_getElem? hz'
        refine ⟨rfl, _, rfl, _, rfl, false, p6, es.map V.str, z, _, rfl, rfl, sJ.sq h10, ev_at (bd z hzm).1 (bd z hzm).2, ?_⟩
        refine ⟨_, eL, ?_, Same.young sJ nL2, ?_⟩
        · rw [List.length_map, List.length_take]
          exact small1000 (by omega)
        · rw [upd_same, take_snoc hz', List.map_append]
          rfl
      rintro J ⟨sJ, eL⟩
      rw [List.length_map, List.take_length] at eL
      refine ⟨true, L2, _, rfl, .lst eL, fun H12 p12 s12 h12 => ?_⟩
      have vl : (zs.map fun z => evAt es z.toNat).length ≤ 8 := by rw [List.length_map]; exact zlen
      have ez : zs.map (fun z => V.str (evAt es z.toNat)) = (zs.map fun z => evAt es z.toNat).map V.str := by rw [List.map_map]; rfl
      rw [ez] at h12
      have sA : Same H10 H12 := sJ.trans s12
      have h6' := sA.sq h10
      have tags12 := sA.sq tags10
      have b12 := b10.same sA
      have fA12 : LwB.Fr b H H12 := fA10.trans (Fr.same sA)
      clear sA sJ s12 eL h10 tags10 b10 fA10 hsp ez bd hz hs nL2
      generalize (zs.map fun z => evAt es z.toNat) = vs at h12 hpart vl
      refine ⟨_, rfl, _, rfl, p12, p6, vs, es, rfl, h12, h6', by omega, by omega, fun H13 s13 => ⟨true, rfl, iteF ?_⟩⟩
      refine ⟨_, rfl, _, rfl, false, false, p12, p6, vs, es, rfl, s13.sq h12, s13.sq h6', fun H14 s14 => ⟨true, by rw [hpart], iteF ?_⟩⟩
      have sB := s13.trans s14
      have h14 := sB.sq h12
      have r14 := sB.sq h6'
      have tags14 := sB.sq tags12
      have b14 := b12.same sB
      have fA14 : LwB.Fr b H H14 := fA12.trans (Fr.same sB)
      clear sB s13 s14 h12 h6' tags12 b12 fA12
      have n14 : p12 ≠ b := h14.ne_box b14
      refine ⟨_, rfl, _, rfl, false, p12, _, rfl, h14, _, _, rfl, rfl, b, _, _, rfl, b14, by omega, ?_, ?_, fun H15 a f15 b15 a0 a1 => ?_⟩
      · show 0 < (((vs.map V.str).length : Nat) : Int) + 1
        omega
      · show (((vs.map V.str).length : Nat) : Int) + 1 < 1073741824
        rw [List.length_map]
        omega
      obtain ⟨a, rfl⟩ := Int.eq_ofNat_of_zero_le a0
      have tags15 := f15.sq hlb tags14
      refine ⟨_, rfl, _, rfl, b, _, .ref l, ss.map V.str, rfl, b15, by omega, .inr ⟨true, l, rfl, hlb, tags15, hsl⟩, hs0, fun H16 e f16 b16 he => ⟨_, _, rfl, ?_⟩⟩
      obtain ⟨e, hes, rfl⟩ := List.mem_map.mp he
      have fB := f15.trans f16
      have h16 := fB.sq n14 h14
      have r16 := fB.sq n6 r14
      have tags16 := fB.sq hlb tags14
      have fA16 : LwB.Fr b H H16 := fA14.trans fB
      clear fB f15 f16 h14 r14 tags14 tags15 b14 b15 fA14
      -- bent
      refine ⟨_, rfl, _, rfl, _, rfl, false, p12, _, rfl, h16, fun J1 q1 t1 _ k1 => ?_⟩
      rw [cut_to, ← List.map_take] at k1
      refine ⟨_, rfl, (by show 1 ≤ sizeLine; decide), fun q2 m2 => ?_⟩
      have t2 := same_new (o := HO.tup [V.str e]) m2
      refine ⟨q1, q2, _, _, rfl, rfl, t2.sq k1, .tup upd_same, by rw [List.length_map, List.length_take]; show min a vs.length + 1 ≤ 1000000; omega, fun J3 q3 t3 k3 => ?_⟩
      have tJ3 : Same H16 J3 := t1.trans (t2.trans t3)
      refine ⟨_, rfl, _, rfl, _, _, rfl, rfl, _, rfl, false, p12, _, rfl, tJ3.sq h16, fun J4 q4 t4 _ k4 => ?_⟩
      rw [show ((a : Nat) : Int) + 1 = ((a + 1 : Nat) : Int) from rfl, cut_from, ← List.map_drop] at k4
      refine ⟨q3, q4, _, _, rfl, rfl, t4.sq k3, k4, by rw [List.length_append, List.length_map, List.length_map, List.length_take, List.length_drop]; show min a vs.length + 1 + (vs.length - (a + 1)) ≤ 1000000; omega, fun J5 q5 t5 k5 => ?_⟩
      have ez : (vs.take a).map V.str ++ [V.str e] ++ (vs.drop (a + 1)).map V.str = (vs.take a ++ [e] ++ vs.drop (a + 1)).map V.str := by
        rw [List.map_append, List.map_append]
        rfl
      rw [ez] at k5
      refine ⟨_, rfl, false, q5, _, rfl, k5, fun J6 q6 t6 _ k6 => ?_⟩
      rw [show (8 : Int) = ((8 : Nat) : Int) from rfl, cut_to, ← List.map_take] at k6
      have tJ6 : Same H16 J6 := tJ3.trans (t4.trans (t5.trans t6))
      have bl8 : ((vs.take a ++ [e] ++ vs.drop (a + 1)).take 8).length ≤ 8 := by
        rw [List.length_take]
        omega
      refine ⟨_, rfl, _, rfl, q6, p6, _, es, rfl, k6, tJ6.sq r16, by omega, by omega, fun J7 s7 => ⟨true, rfl, iteF ?_⟩⟩
      have tJ7 := tJ6.trans s7
      have b17 := b16.same tJ7
      refine ⟨_, rfl, _, rfl, b, l, _, 8, ss, rfl, b17, by omega, hlb, tJ7.sq tags16, by omega, by omega, by decide, fun J8 p8 e8 f8 b8 h8 n8 l8 _ => ?_⟩
      refine ⟨_, rfl, p8, p6, e8, es, rfl, h8, f8.sq n6 (tJ7.sq r16), by omega, by omega, fun J9 s9 => ⟨true, rfl, iteF ?_⟩⟩
      exact ⟨_, _, _, _, _, _, _, _, _, rfl, fA16.trans ((Fr.same tJ7).trans (f8.trans (Fr.same s9))), (b8.same s9).mono (by omega)⟩
    · rintro σ H' ⟨x1, x2, x3, x4, x5, x6, x7, x8, x9, rfl, fr, bx⟩
      exact q H' fr
def spLaw (K : PySem.W.Frag) : Sp := fun vs H Q _ => ∃ (a : Addr) (ns : List Int), vs = [.ref a] ∧ SqL K H a (ns.map V.int) ∧ ns.length ≤ 63 ∧ ∀ H', Q (.bl true) H'
theorem fn_law {f : Addr} {fd : FuncData} (F : Fun K "law" "law" s_law f fd) (B : Bn mg) (OC : Ok P w K mg base 1 "_law_cells" ["_law_script", "_law_top_so"] (spCells K)) (OB : Ok P w K mg base 1 "_law_box" ["_law_script", "_law_k"] spBox) (OR : Ok P w K mg base 6 "_law_right" ["_law_box_here"] spRightB) :
    FnOk P w K mg base CX0 7 f fd ["_law_script"] (spLaw K) := by
  refine F.ok sc_law (fun vs H Q E h => ?_) (fun cdv A outer s H vs Q E hr h => ?_)
  · obtain ⟨_, _, rfl, _⟩ := h
    rfl
  · obtain ⟨a, ns, rfl, hS, hl, q⟩ := h
    have nd := sc_law.nd
    have hr1 : Room 1 _ := hr.mono (by decide)
    refine ⟨_, pss_cons (ps_set (i := 1) nd rfl (.inr rfl) (pe_c OC hr1 (pa_cons (pv 0) (pa_cons pe_int pa_nil))))
      (pss_one (ps_ret (pe_callB (cr_all rfl) (by rfl) B.all (by decide +kernel) (pa_cons
        (pe_lc (own := [("_law_k", 2)]) (g := gName 2) (by rfl) nd (pi_range1 (by rfl) B.range (pa_cons (pe_len B.len (pa_cons (pv 1) pa_nil)) pa_nil))
          (blkOk_by (N := ["_law_script", "_law_cells_so", "_law_k"]) (sc := defScope s_law) (by decide +kernel))
          (fun _ _ _ _ _ => pg_name (i := 2) nd rfl (.inl rfl)) (fun _ _ _ _ _ => pts_nil) (fun _ _ _ _ _ => pe_c OR hr (pa_cons (pe_c OB hr1 (pa_cons (pv 1) (pa_cons (pv 2) pa_nil))) pa_nil))) pa_nil)))), ?_⟩
    refine ⟨_, rfl, a, ns, 3, rfl, hS, by decide, by decide, hl, fun H1 c zs n1 z0 z1 => ?_⟩
    have hc : Sq true H1 c (zs.map V.int) := .lst n1.2.2
    refine ⟨_, rfl, true, c, _, rfl, hc, _, rfl, by rw [List.length_map]; omega, by rw [List.length_map]; omega, fun D nD => ?_⟩
    refine lc_range (lo := 0) (n := (((zs.map V.int).length : Nat) : Int).toNat) (fun i H' => Same H1 H' ∧ H' D = some (.lst ((List.replicate i true).map V.bl)))
      ⟨same_new nD, upd_same⟩ ?_ ?_
    · rintro i H2 hi ⟨sm, eD⟩
      rw [List.length_map] at hi
      refine ⟨rfl, ?_⟩
      show tCall spRightB [] E0 (tCons (tCall spBox [] E0 (tCons (tVar 1) (tCons (tVar 2) tNil))) tNil) _ _ _
      refine ⟨_, rfl, _, rfl, c, zs, i, (by rw [Int.zero_add]; rfl), sm.sq hc, by omega, fun H3 p s3 np bp => ?_⟩
      refine ⟨p, rfl, bp, fun H4 f4 => ?_⟩
      have k4 : Same H2 H4 := fun x o e => f4 x o (s3 x o e) (ne_of_none e np)
      refine ⟨_, k4 _ _ eD, ?_, Same.young (sm.trans k4) nD, ?_⟩
      · rw [List.length_map, List.length_replicate]
        exact small1000 (by omega)
      · rw [upd_same, List.replicate_succ', List.map_append]
        rfl
    · rintro H2 ⟨sm, eD⟩
      refine ⟨D, List.replicate _ true, rfl, SqL.of eD, ?_⟩
      have ea : ∀ n : Nat, (List.replicate n true).all id = true := fun n => by
        rw [List.all_eq_true]
        intro z hz
        exact (List.mem_replicate.mp hz).2
      rw [ea]
      exact q _
end
end K09
namespace K09
open PySem PySem.Spec PyProof.Rows L2 IqX RvT LwB EnS TL NsT
structure Facts (K : PySem.W.Frag) (mg : Str → Option Value) : Prop where
  d_is_name : Df K mg "is_name" s_is_name ["value"]
  d_is_log : Df K mg "is_log" s_is_log ["thing"]
  d_is_part : Df K mg "is_part" s_is_part ["word", "log"]
  d__early_places : Df K mg "_early_places" s__early_places ["word", "log"]
  d_places : Df K mg "places" s_places ["word", "log"]
  d_ways : Df K mg "ways" s_ways ["word", "log"]
  d__law_box : Df K mg "_law_box" s__law_box ["_law_script", "_law_k"]
  d__law_take : Df K mg "_law_take" s__law_take ["_law_box_here", "_law_size_so"]
  d__law_cells : Df K mg "_law_cells" s__law_cells ["_law_script", "_law_top_so"]
  d__law_of : Df K mg "_law_of" s__law_of ["_law_box_here", "_law_goods_so"]
  d__law_pick : Df K mg "_law_pick" s__law_pick ["_law_box_here", "_law_goods_so", "_law_count_so"]
  d__law_same : Df K mg "_law_same" s__law_same ["_law_got", "_law_due"]
  d__law_names : Df K mg "_law_names" s__law_names ["_law_box_here", "_law_much_so"]
  d__law_event_row : Df K mg "_law_event_row" s__law_event_row ["_law_box_here", "_law_tags", "_law_most"]
  d__law_choices : Df K mg "_law_choices" s__law_choices ["_law_verse", "_law_row"]
  d__law_counted : Df K mg "_law_counted" s__law_counted ["_law_verse", "_law_row"]
  d__law_least_spots : Df K mg "_law_least_spots" s__law_least_spots ["_law_verse", "_law_row"]
  d__law_word_right : Df K mg "_law_word_right" s__law_word_right ["_law_verse", "_law_row"]
  d__law_by_hand_right : Df K mg "_law_by_hand_right" s__law_by_hand_right []
  d__law_right : Df K mg "_law_right" s__law_right ["_law_box_here"]
  bn : Bn mg
  bs : Bs mg
theorem ok_law {P : Program} {w : World} {K : PySem.W.Frag} {mg : Str → Option Value} {base : Heap} {f : Addr} {fd : FuncData} (F : Fun K "law" "law" s_law f fd) (T : Facts K mg) : FnOk P w K mg base CX0 7 f fd ["_law_script"] (spLaw K) := by
  have OT := ok__law_take (P := P) (w := w) (base := base) T.d__law_take T.bn
  have OO := ok__law_of T.d__law_of T.bn OT
  have OPk := ok__law_pick T.d__law_pick T.bn OT
  have ON := ok__law_names T.d__law_names T.bn OT OO OPk
  have OE := ok__law_event_row T.d__law_event_row T.bn OT OO
  have OP := ok_is_part (P := P) (w := w) (base := base) T.d_is_part T.bn
  have OQ := ok_places T.d_places T.bn (ok__early_places (P := P) (w := w) (base := base) T.d__early_places T.bn)
  have OY := ok_ways (P := P) (w := w) (base := base) T.d_ways T.bn
  have OG := ok_is_log T.d_is_log T.bn (ok_is_name (P := P) (w := w) (base := base) T.d_is_name T.bn)
  have OS := ok__law_same (P := P) (w := w) (base := base) T.d__law_same T.bn 3
  have OW := ok__law_word_right T.d__law_word_right T.bn (ok__law_counted T.d__law_counted T.bn) (ok__law_least_spots T.d__law_least_spots T.bn) (ok__law_choices T.d__law_choices T.bn) OP T.d_is_part OQ T.d_places OY T.d_ways OS
  have OH := ok__law_by_hand_right T.d__law_by_hand_right T.bn OW OP OQ OY OG T.d_is_log OS
  have OX := ok__law_right T.d__law_right T.bn OH OT OO OPk ON OE OW OP
  exact fn_law F T.bn (ok__law_cells T.d__law_cells T.bn) (ok__law_box T.d__law_box T.bn) OX
theorem all_mk {l : PySem.W.OpenLaw} {w : World} {K : PySem.W.Frag} {h : Heap} {mg : Str → Option Value} {fa f0 f1 f2 f3 f4 f5 f6 f7 f8 f9 f10 f11 f12 f13 f14 f15 f16 f17 f18 f19 f20 : Addr} (X : K.In h) (G : h.Ns mainGlobals mg) (hfa : mg "law" = some (.ref fa))
    {od0 an0 od1 an1 od2 an2 od3 an3 od4 an4 od5 an5 od6 an6 od7 an7 od8 an8 od9 an9 od10 an10 od11 an11 od12 an12 od13 an13 od14 an14 od15 an15 od16 an16 od17 an17 od18 an18 od19 an19 od20 an20 : Option Addr} {sl0 sl1 sl2 sl3 sl4 sl5 sl6 sl7 sl8 sl9 sl10 sl11 sl12 sl13 sl14 sl15 sl16 sl17 sl18 sl19 sl20 : Array (Option Value)} {oc0 kV0 dc0 pm0 cd0 ct0 oc1 kV1 dc1 pm1 cd1 ct1 oc2 kV2 dc2 pm2 cd2 ct2 oc3 kV3 dc3 pm3 cd3 ct3 oc4 kV4 dc4 pm4 cd4 ct4 oc5 kV5 dc5 pm5 cd5 ct5 oc6 kV6 dc6 pm6 cd6 ct6 oc7 kV7 dc7 pm7 cd7 ct7 oc8 kV8 dc8 pm8 cd8 ct8 oc9 kV9 dc9 pm9 cd9 ct9 oc10 kV10 dc10 pm10 cd10 ct10 oc11 kV11 dc11 pm11 cd11 ct11 oc12 kV12 dc12 pm12 cd12 ct12 oc13 kV13 dc13 pm13 cd13 ct13 oc14 kV14 dc14 pm14 cd14 ct14 oc15 kV15 dc15 pm15 cd15 ct15 oc16 kV16 dc16 pm16 cd16 ct16 oc17 kV17 dc17 pm17 cd17 ct17 oc18 kV18 dc18 pm18 cd18 ct18 oc19 kV19 dc19 pm19 cd19 ct19 oc20 kV20 dc20 pm20 cd20 ct20 : Value}
    (a0 : PySem.W.nsIn K mainGlobals "is_name" = some (some (.ref f0))) (l0 : K.lookup f0 = some ⟨oc0, od0, .func (PySem.W.fnOf "is_name" "is_name" (defArgs s_is_name) (defBody s_is_name) (defScope s_is_name) .none kV0 dc0 pm0 an0 cd0 ct0), sl0⟩) (c0 : PySem.W.codeIn K cd0 "is_name" = true) (k0 : PySem.W.keepIn K (.ref f0) = true)
    (a1 : PySem.W.nsIn K mainGlobals "is_log" = some (some (.ref f1))) (l1 : K.lookup f1 = some ⟨oc1, od1, .func (PySem.W.fnOf "is_log" "is_log" (defArgs s_is_log) (defBody s_is_log) (defScope s_is_log) .none kV1 dc1 pm1 an1 cd1 ct1), sl1⟩) (c1 : PySem.W.codeIn K cd1 "is_log" = true) (k1 : PySem.W.keepIn K (.ref f1) = true)
    (a2 : PySem.W.nsIn K mainGlobals "is_part" = some (some (.ref f2))) (l2 : K.lookup f2 = some ⟨oc2, od2, .func (PySem.W.fnOf "is_part" "is_part" (defArgs s_is_part) (defBody s_is_part) (defScope s_is_part) .none kV2 dc2 pm2 an2 cd2 ct2), sl2⟩) (c2 : PySem.W.codeIn K cd2 "is_part" = true) (k2 : PySem.W.keepIn K (.ref f2) = true)
    (a3 : PySem.W.nsIn K mainGlobals "_early_places" = some (some (.ref f3))) (l3 : K.lookup f3 = some ⟨oc3, od3, .func (PySem.W.fnOf "_early_places" "_early_places" (defArgs s__early_places) (defBody s__early_places) (defScope s__early_places) .none kV3 dc3 pm3 an3 cd3 ct3), sl3⟩) (c3 : PySem.W.codeIn K cd3 "_early_places" = true) (k3 : PySem.W.keepIn K (.ref f3) = true)
    (a4 : PySem.W.nsIn K mainGlobals "places" = some (some (.ref f4))) (l4 : K.lookup f4 = some ⟨oc4, od4, .func (PySem.W.fnOf "places" "places" (defArgs s_places) (defBody s_places) (defScope s_places) .none kV4 dc4 pm4 an4 cd4 ct4), sl4⟩) (c4 : PySem.W.codeIn K cd4 "places" = true) (k4 : PySem.W.keepIn K (.ref f4) = true)
    (a5 : PySem.W.nsIn K mainGlobals "ways" = some (some (.ref f5))) (l5 : K.lookup f5 = some ⟨oc5, od5, .func (PySem.W.fnOf "ways" "ways" (defArgs s_ways) (defBody s_ways) (defScope s_ways) .none kV5 dc5 pm5 an5 cd5 ct5), sl5⟩) (c5 : PySem.W.codeIn K cd5 "ways" = true) (k5 : PySem.W.keepIn K (.ref f5) = true)
    (a6 : PySem.W.nsIn K mainGlobals "_law_box" = some (some (.ref f6))) (l6 : K.lookup f6 = some ⟨oc6, od6, .func (PySem.W.fnOf "_law_box" "_law_box" (defArgs s__law_box) (defBody s__law_box) (defScope s__law_box) .none kV6 dc6 pm6 an6 cd6 ct6), sl6⟩) (c6 : PySem.W.codeIn K cd6 "_law_box" = true) (k6 : PySem.W.keepIn K (.ref f6) = true)
    (a7 : PySem.W.nsIn K mainGlobals "_law_take" = some (some (.ref f7))) (l7 : K.lookup f7 = some ⟨oc7, od7, .func (PySem.W.fnOf "_law_take" "_law_take" (defArgs s__law_take) (defBody s__law_take) (defScope s__law_take) .none kV7 dc7 pm7 an7 cd7 ct7), sl7⟩) (c7 : PySem.W.codeIn K cd7 "_law_take" = true) (k7 : PySem.W.keepIn K (.ref f7) = true)
    (a8 : PySem.W.nsIn K mainGlobals "_law_cells" = some (some (.ref f8))) (l8 : K.lookup f8 = some ⟨oc8, od8, .func (PySem.W.fnOf "_law_cells" "_law_cells" (defArgs s__law_cells) (defBody s__law_cells) (defScope s__law_cells) .none kV8 dc8 pm8 an8 cd8 ct8), sl8⟩) (c8 : PySem.W.codeIn K cd8 "_law_cells" = true) (k8 : PySem.W.keepIn K (.ref f8) = true)
    (a9 : PySem.W.nsIn K mainGlobals "_law_of" = some (some (.ref f9))) (l9 : K.lookup f9 = some ⟨oc9, od9, .func (PySem.W.fnOf "_law_of" "_law_of" (defArgs s__law_of) (defBody s__law_of) (defScope s__law_of) .none kV9 dc9 pm9 an9 cd9 ct9), sl9⟩) (c9 : PySem.W.codeIn K cd9 "_law_of" = true) (k9 : PySem.W.keepIn K (.ref f9) = true)
    (a10 : PySem.W.nsIn K mainGlobals "_law_pick" = some (some (.ref f10))) (l10 : K.lookup f10 = some ⟨oc10, od10, .func (PySem.W.fnOf "_law_pick" "_law_pick" (defArgs s__law_pick) (defBody s__law_pick) (defScope s__law_pick) .none kV10 dc10 pm10 an10 cd10 ct10), sl10⟩) (c10 : PySem.W.codeIn K cd10 "_law_pick" = true) (k10 : PySem.W.keepIn K (.ref f10) = true)
    (a11 : PySem.W.nsIn K mainGlobals "_law_same" = some (some (.ref f11))) (l11 : K.lookup f11 = some ⟨oc11, od11, .func (PySem.W.fnOf "_law_same" "_law_same" (defArgs s__law_same) (defBody s__law_same) (defScope s__law_same) .none kV11 dc11 pm11 an11 cd11 ct11), sl11⟩) (c11 : PySem.W.codeIn K cd11 "_law_same" = true) (k11 : PySem.W.keepIn K (.ref f11) = true)
    (a12 : PySem.W.nsIn K mainGlobals "_law_names" = some (some (.ref f12))) (l12 : K.lookup f12 = some ⟨oc12, od12, .func (PySem.W.fnOf "_law_names" "_law_names" (defArgs s__law_names) (defBody s__law_names) (defScope s__law_names) .none kV12 dc12 pm12 an12 cd12 ct12), sl12⟩) (c12 : PySem.W.codeIn K cd12 "_law_names" = true) (k12 : PySem.W.keepIn K (.ref f12) = true)
    (a13 : PySem.W.nsIn K mainGlobals "_law_event_row" = some (some (.ref f13))) (l13 : K.lookup f13 = some ⟨oc13, od13, .func (PySem.W.fnOf "_law_event_row" "_law_event_row" (defArgs s__law_event_row) (defBody s__law_event_row) (defScope s__law_event_row) .none kV13 dc13 pm13 an13 cd13 ct13), sl13⟩) (c13 : PySem.W.codeIn K cd13 "_law_event_row" = true) (k13 : PySem.W.keepIn K (.ref f13) = true)
    (a14 : PySem.W.nsIn K mainGlobals "_law_choices" = some (some (.ref f14))) (l14 : K.lookup f14 = some ⟨oc14, od14, .func (PySem.W.fnOf "_law_choices" "_law_choices" (defArgs s__law_choices) (defBody s__law_choices) (defScope s__law_choices) .none kV14 dc14 pm14 an14 cd14 ct14), sl14⟩) (c14 : PySem.W.codeIn K cd14 "_law_choices" = true) (k14 : PySem.W.keepIn K (.ref f14) = true)
    (a15 : PySem.W.nsIn K mainGlobals "_law_counted" = some (some (.ref f15))) (l15 : K.lookup f15 = some ⟨oc15, od15, .func (PySem.W.fnOf "_law_counted" "_law_counted" (defArgs s__law_counted) (defBody s__law_counted) (defScope s__law_counted) .none kV15 dc15 pm15 an15 cd15 ct15), sl15⟩) (c15 : PySem.W.codeIn K cd15 "_law_counted" = true) (k15 : PySem.W.keepIn K (.ref f15) = true)
    (a16 : PySem.W.nsIn K mainGlobals "_law_least_spots" = some (some (.ref f16))) (l16 : K.lookup f16 = some ⟨oc16, od16, .func (PySem.W.fnOf "_law_least_spots" "_law_least_spots" (defArgs s__law_least_spots) (defBody s__law_least_spots) (defScope s__law_least_spots) .none kV16 dc16 pm16 an16 cd16 ct16), sl16⟩) (c16 : PySem.W.codeIn K cd16 "_law_least_spots" = true) (k16 : PySem.W.keepIn K (.ref f16) = true)
    (a17 : PySem.W.nsIn K mainGlobals "_law_word_right" = some (some (.ref f17))) (l17 : K.lookup f17 = some ⟨oc17, od17, .func (PySem.W.fnOf "_law_word_right" "_law_word_right" (defArgs s__law_word_right) (defBody s__law_word_right) (defScope s__law_word_right) .none kV17 dc17 pm17 an17 cd17 ct17), sl17⟩) (c17 : PySem.W.codeIn K cd17 "_law_word_right" = true) (k17 : PySem.W.keepIn K (.ref f17) = true)
    (a18 : PySem.W.nsIn K mainGlobals "_law_by_hand_right" = some (some (.ref f18))) (l18 : K.lookup f18 = some ⟨oc18, od18, .func (PySem.W.fnOf "_law_by_hand_right" "_law_by_hand_right" (defArgs s__law_by_hand_right) (defBody s__law_by_hand_right) (defScope s__law_by_hand_right) .none kV18 dc18 pm18 an18 cd18 ct18), sl18⟩) (c18 : PySem.W.codeIn K cd18 "_law_by_hand_right" = true) (k18 : PySem.W.keepIn K (.ref f18) = true)
    (a19 : PySem.W.nsIn K mainGlobals "_law_right" = some (some (.ref f19))) (l19 : K.lookup f19 = some ⟨oc19, od19, .func (PySem.W.fnOf "_law_right" "_law_right" (defArgs s__law_right) (defBody s__law_right) (defScope s__law_right) .none kV19 dc19 pm19 an19 cd19 ct19), sl19⟩) (c19 : PySem.W.codeIn K cd19 "_law_right" = true) (k19 : PySem.W.keepIn K (.ref f19) = true)
    (a20 : PySem.W.nsIn K mainGlobals "law" = some (some (.ref f20))) (l20 : K.lookup f20 = some ⟨oc20, od20, .func (PySem.W.fnOf "law" "law" (defArgs s_law) (defBody s_law) (defScope s_law) .none kV20 dc20 pm20 an20 cd20 ct20), sl20⟩) (c20 : PySem.W.codeIn K cd20 "law" = true) (k20 : PySem.W.keepIn K (.ref f20) = true)
    (z_len : PySem.W.nsIn K mainGlobals "len" = some none)
    (z_abs : PySem.W.nsIn K mainGlobals "abs" = some none)
    (z_int : PySem.W.nsIn K mainGlobals "int" = some none)
    (z_list : PySem.W.nsIn K mainGlobals "list" = some none)
    (z_tuple : PySem.W.nsIn K mainGlobals "tuple" = some none)
    (z_range : PySem.W.nsIn K mainGlobals "range" = some none)
    (z_min : PySem.W.nsIn K mainGlobals "min" = some none)
    (z_max : PySem.W.nsIn K mainGlobals "max" = some none)
    (z_enumerate : PySem.W.nsIn K mainGlobals "enumerate" = some none)
    (z_zip : PySem.W.nsIn K mainGlobals "zip" = some none)
    (z_isinstance : PySem.W.nsIn K mainGlobals "isinstance" = some none)
    (z_all : PySem.W.nsIn K mainGlobals "all" = some none)
    (z_bool : PySem.W.nsIn K mainGlobals "bool" = some none)
    (z_str : PySem.W.nsIn K mainGlobals "str" = some none)
    (z_iter : PySem.W.nsIn K mainGlobals "iter" = some none)
    (z_sorted : PySem.W.nsIn K mainGlobals "sorted" = some none)
    (z_set : PySem.W.nsIn K mainGlobals "set" = some none)
    (z_any : PySem.W.nsIn K mainGlobals "any" = some none)
    (fin : ∀ (fd : FuncData), Fun K "law" "law" s_law fa fd → Facts K mg → ∀ base : Heap, FnOk l.prog w K mg base CX0 7 fa fd ["_law_script"] (spLaw K)) :
    ∃ fd : FuncData, (∀ (s : Shared) (v : Value), BindsTo s fd ⟨[v], []⟩ [("_law_script", v)]) ∧ ∀ base : Heap, K.In base → base.Ns mainGlobals mg → FnOk l.prog w K mg base CX0 7 fa fd ["_law_script"] (spLaw K) := by
  have e := hfa.symm.trans (PySem.W.mg_of X G a20)
  cases e
  have F0 := fun_mk (st := s_is_name) l0 c0 k0
  have b0 := F0.binds (ps := ["value"]) fun _ _ _ _ _ _ us hl => match us, hl with | [_], _ => rfl
  have F1 := fun_mk (st := s_is_log) l1 c1 k1
  have b1 := F1.binds (ps := ["thing"]) fun _ _ _ _ _ _ us hl => match us, hl with | [_], _ => rfl
  have F2 := fun_mk (st := s_is_part) l2 c2 k2
  have b2 := F2.binds (ps := ["word", "log"]) fun _ _ _ _ _ _ us hl => match us, hl with | [_, _], _ => rfl
  have F3 := fun_mk (st := s__early_places) l3 c3 k3
  have b3 := F3.binds (ps := ["word", "log"]) fun _ _ _ _ _ _ us hl => match us, hl with | [_, _], _ => rfl
  have F4 := fun_mk (st := s_places) l4 c4 k4
  have b4 := F4.binds (ps := ["word", "log"]) fun _ _ _ _ _ _ us hl => match us, hl with | [_, _], _ => rfl
  have F5 := fun_mk (st := s_ways) l5 c5 k5
  have b5 := F5.binds (ps := ["word", "log"]) fun _ _ _ _ _ _ us hl => match us, hl with | [_, _], _ => rfl
  have F6 := fun_mk (st := s__law_box) l6 c6 k6
  have b6 := F6.binds (ps := ["_law_script", "_law_k"]) fun _ _ _ _ _ _ us hl => match us, hl with | [_, _], _ => rfl
  have F7 := fun_mk (st := s__law_take) l7 c7 k7
  have b7 := F7.binds (ps := ["_law_box_here", "_law_size_so"]) fun _ _ _ _ _ _ us hl => match us, hl with | [_, _], _ => rfl
  have F8 := fun_mk (st := s__law_cells) l8 c8 k8
  have b8 := F8.binds (ps := ["_law_script", "_law_top_so"]) fun _ _ _ _ _ _ us hl => match us, hl with | [_, _], _ => rfl
  have F9 := fun_mk (st := s__law_of) l9 c9 k9
  have b9 := F9.binds (ps := ["_law_box_here", "_law_goods_so"]) fun _ _ _ _ _ _ us hl => match us, hl with | [_, _], _ => rfl
  have F10 := fun_mk (st := s__law_pick) l10 c10 k10
  have b10 := F10.binds (ps := ["_law_box_here", "_law_goods_so", "_law_count_so"]) fun _ _ _ _ _ _ us hl => match us, hl with | [_, _, _], _ => rfl
  have F11 := fun_mk (st := s__law_same) l11 c11 k11
  have b11 := F11.binds (ps := ["_law_got", "_law_due"]) fun _ _ _ _ _ _ us hl => match us, hl with | [_, _], _ => rfl
  have F12 := fun_mk (st := s__law_names) l12 c12 k12
  have b12 := F12.binds (ps := ["_law_box_here", "_law_much_so"]) fun _ _ _ _ _ _ us hl => match us, hl with | [_, _], _ => rfl
  have F13 := fun_mk (st := s__law_event_row) l13 c13 k13
  have b13 := F13.binds (ps := ["_law_box_here", "_law_tags", "_law_most"]) fun _ _ _ _ _ _ us hl => match us, hl with | [_, _, _], _ => rfl
  have F14 := fun_mk (st := s__law_choices) l14 c14 k14
  have b14 := F14.binds (ps := ["_law_verse", "_law_row"]) fun _ _ _ _ _ _ us hl => match us, hl with | [_, _], _ => rfl
  have F15 := fun_mk (st := s__law_counted) l15 c15 k15
  have b15 := F15.binds (ps := ["_law_verse", "_law_row"]) fun _ _ _ _ _ _ us hl => match us, hl with | [_, _], _ => rfl
  have F16 := fun_mk (st := s__law_least_spots) l16 c16 k16
  have b16 := F16.binds (ps := ["_law_verse", "_law_row"]) fun _ _ _ _ _ _ us hl => match us, hl with | [_, _], _ => rfl
  have F17 := fun_mk (st := s__law_word_right) l17 c17 k17
  have b17 := F17.binds (ps := ["_law_verse", "_law_row"]) fun _ _ _ _ _ _ us hl => match us, hl with | [_, _], _ => rfl
  have F18 := fun_mk (st := s__law_by_hand_right) l18 c18 k18
  have b18 := F18.binds (ps := []) fun _ _ _ _ _ _ us hl => match us, hl with | [], _ => rfl
  have F19 := fun_mk (st := s__law_right) l19 c19 k19
  have b19 := F19.binds (ps := ["_law_box_here"]) fun _ _ _ _ _ _ us hl => match us, hl with | [_], _ => rfl
  have F20 := fun_mk (st := s_law) l20 c20 k20
  have FF : Facts K mg := ⟨⟨_, _, F0, PySem.W.mg_of X G a0, b0⟩, ⟨_, _, F1, PySem.W.mg_of X G a1, b1⟩, ⟨_, _, F2, PySem.W.mg_of X G a2, b2⟩, ⟨_, _, F3, PySem.W.mg_of X G a3, b3⟩, ⟨_, _, F4, PySem.W.mg_of X G a4, b4⟩, ⟨_, _, F5, PySem.W.mg_of X G a5, b5⟩, ⟨_, _, F6, PySem.W.mg_of X G a6, b6⟩, ⟨_, _, F7, PySem.W.mg_of X G a7, b7⟩, ⟨_, _, F8, PySem.W.mg_of X G a8, b8⟩, ⟨_, _, F9, PySem.W.mg_of X G a9, b9⟩, ⟨_, _, F10, PySem.W.mg_of X G a10, b10⟩, ⟨_, _, F11, PySem.W.mg_of X G a11, b11⟩, ⟨_, _, F12, PySem.W.mg_of X G a12, b12⟩, ⟨_, _, F13, PySem.W.mg_of X G a13, b13⟩, ⟨_, _, F14, PySem.W.mg_of X G a14, b14⟩, ⟨_, _, F15, PySem.W.mg_of X G a15, b15⟩, ⟨_, _, F16, PySem.W.mg_of X G a16, b16⟩, ⟨_, _, F17, PySem.W.mg_of X G a17, b17⟩, ⟨_, _, F18, PySem.W.mg_of X G a18, b18⟩, ⟨_, _, F19, PySem.W.mg_of X G a19, b19⟩, ⟨PySem.W.mg_none_of X G z_len, PySem.W.mg_none_of X G z_abs, PySem.W.mg_none_of X G z_int, PySem.W.mg_none_of X G z_list, PySem.W.mg_none_of X G z_tuple, PySem.W.mg_none_of X G z_range, PySem.W.mg_none_of X G z_min, PySem.W.mg_none_of X G z_max, PySem.W.mg_none_of X G z_enumerate, PySem.W.mg_none_of X G z_zip, PySem.W.mg_none_of X G z_isinstance, PySem.W.mg_none_of X G z_all, PySem.W.mg_none_of X G z_bool, PySem.W.mg_none_of X G z_str, PySem.W.mg_none_of X G z_iter, PySem.W.mg_none_of X G z_sorted⟩, ⟨PySem.W.mg_none_of X G z_set, PySem.W.mg_none_of X G z_any⟩⟩
  exact ⟨PySem.W.fnOf "law" "law" (defArgs s_law) (defBody s_law) (defScope s_law) .none kV20 dc20 pm20 an20 cd20 ct20, fun s v => .of_eq rfl, fun base _ _ => fin _ F20 FF base⟩
end K09
open PySem PySem.W PyProof.Rows
set_option maxRecDepth 100000 in
set_option maxHeartbeats 0 in
theorem PySem.Challenge.cw_moredone_k09_parts_and_places_holds : PySem.Challenge.rw_moredone_k09_parts_and_places.Holds := by
  w_on; o_law; k_head; (case hw => w_witness2)
  k_fill
  refine L2.walk_of (l := PySem.Challenge.rw_moredone_k09_parts_and_places) (n := 63) (k := 7) (x := "_law_script") (CX := fun _ => L2.CX0) (sp := fun w => K09.spLaw _) rfl (by decide) rfl ⟨rfl, by decide, by decide⟩ (fun w h Y => PySem.W.kIn_of Y) ?F (fun _ _ a ns hl _ hS => ⟨a, ns, rfl, hS, hl, fun _ => rfl⟩) (fun _ _ _ _ _ h => h)
  case F =>
    intro w mg fa h KX G hmg
    refine' K09.all_mk KX G hmg ?a0 ?l0 ?c0 ?k0 ?a1 ?l1 ?c1 ?k1 ?a2 ?l2 ?c2 ?k2 ?a3 ?l3 ?c3 ?k3 ?a4 ?l4 ?c4 ?k4 ?a5 ?l5 ?c5 ?k5 ?a6 ?l6 ?c6 ?k6 ?a7 ?l7 ?c7 ?k7 ?a8 ?l8 ?c8 ?k8 ?a9 ?l9 ?c9 ?k9 ?a10 ?l10 ?c10 ?k10 ?a11 ?l11 ?c11 ?k11 ?a12 ?l12 ?c12 ?k12 ?a13 ?l13 ?c13 ?k13 ?a14 ?l14 ?c14 ?k14 ?a15 ?l15 ?c15 ?k15 ?a16 ?l16 ?c16 ?k16 ?a17 ?l17 ?c17 ?k17 ?a18 ?l18 ?c18 ?k18 ?a19 ?l19 ?c19 ?k19 ?a20 ?l20 ?c20 ?k20 ?z_len ?z_abs ?z_int ?z_list ?z_tuple ?z_range ?z_min ?z_max ?z_enumerate ?z_zip ?z_isinstance ?z_all ?z_bool ?z_str ?z_iter ?z_sorted ?z_set ?z_any ?fin
    (case a0 => k_is); (case l0 => k_is); (case c0 => k_is); (case k0 => k_is)
    (case a1 => k_is); (case l1 => k_is); (case c1 => k_is); (case k1 => k_is)
    (case a2 => k_is); (case l2 => k_is); (case c2 => k_is); (case k2 => k_is)
    (case a3 => k_is); (case l3 => k_is); (case c3 => k_is); (case k3 => k_is)
    (case a4 => k_is); (case l4 => k_is); (case c4 => k_is); (case k4 => k_is)
    (case a5 => k_is); (case l5 => k_is); (case c5 => k_is); (case k5 => k_is)
    (case a6 => k_is); (case l6 => k_is); (case c6 => k_is); (case k6 => k_is)
    (case a7 => k_is); (case l7 => k_is); (case c7 => k_is); (case k7 => k_is)
    (case a8 => k_is); (case l8 => k_is); (case c8 => k_is); (case k8 => k_is)
    (case a9 => k_is); (case l9 => k_is); (case c9 => k_is); (case k9 => k_is)
    (case a10 => k_is); (case l10 => k_is); (case c10 => k_is); (case k10 => k_is)
    (case a11 => k_is); (case l11 => k_is); (case c11 => k_is); (case k11 => k_is)
    (case a12 => k_is); (case l12 => k_is); (case c12 => k_is); (case k12 => k_is)
    (case a13 => k_is); (case l13 => k_is); (case c13 => k_is); (case k13 => k_is)
    (case a14 => k_is); (case l14 => k_is); (case c14 => k_is); (case k14 => k_is)
    (case a15 => k_is); (case l15 => k_is); (case c15 => k_is); (case k15 => k_is)
    (case a16 => k_is); (case l16 => k_is); (case c16 => k_is); (case k16 => k_is)
    (case a17 => k_is); (case l17 => k_is); (case c17 => k_is); (case k17 => k_is)
    (case a18 => k_is); (case l18 => k_is); (case c18 => k_is); (case k18 => k_is)
    (case a19 => k_is); (case l19 => k_is); (case c19 => k_is); (case k19 => k_is)
    (case a20 => k_is); (case l20 => k_is); (case c20 => k_is); (case k20 => k_is)
    (case z_len => k_is)
    (case z_abs => k_is)
    (case z_int => k_is)
    (case z_list => k_is)
    (case z_tuple => k_is)
    (case z_range => k_is)
    (case z_min => k_is)
    (case z_max => k_is)
    (case z_enumerate => k_is)
    (case z_zip => k_is)
    (case z_isinstance => k_is)
    (case z_all => k_is)
    (case z_bool => k_is)
    (case z_str => k_is)
    (case z_iter => k_is)
    (case z_sorted => k_is)
    (case z_set => k_is)
    (case z_any => k_is)
    exact fun fd F FF base => K09.ok_law F FF
