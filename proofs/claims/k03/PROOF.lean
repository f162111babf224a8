import PyProof.Rows.All
import Wide.All
import OpenK.AllK
import Wide.FinOn
import HandS.ForMost
import HandS.SetKeys
import HandS.Strs
import HandS.Wide
import HandS.IsInst
import HandS.Evl
import HandS.Codes
import HandS.Walk
import HandS.TupAny
import HandS.Style
import HandS.TupLe
import PySem.Challenge.RW_loanpairs_k03_near_names
set_option Elab.async false
set_option linter.all false
set_option maxRecDepth 100000
namespace Lp
open PySem PySem.Spec PyProof.Rows L2

/-! ### the members of a list, each once -/
section
variable {α : Type} [DecidableEq α]
def dstep (acc : List α) (k : α) : List α := if k ∈ acc then acc else acc ++ [k]
def dist (ks : List α) : List α := ks.foldl dstep []
theorem dist_snoc (ks : List α) (k : α) : dist (ks ++ [k]) = dstep (dist ks) k := by
  unfold dist
  rw [List.foldl_append]
  rfl
theorem dstep_mem {acc : List α} {k j : α} : j ∈ dstep acc k ↔ j ∈ acc ∨ j = k := by
  unfold dstep
  by_cases h : k ∈ acc
  · rw [if_pos h]
    constructor
    · exact .inl
    · rintro (z | rfl)
      · exact z
      · exact h
  · rw [if_neg h, List.mem_append, List.mem_singleton]
theorem foldl_dstep_mem (j : α) : ∀ (ks acc : List α), j ∈ ks.foldl dstep acc ↔ j ∈ acc ∨ j ∈ ks
  | [], acc => by simp
  | k :: r, acc => by
    show j ∈ r.foldl dstep (dstep acc k) ↔ _
    rw [foldl_dstep_mem j r, dstep_mem, List.mem_cons, or_assoc]
theorem dist_mem {ks : List α} {j : α} : j ∈ dist ks ↔ j ∈ ks := by
  unfold dist
  rw [foldl_dstep_mem]
  simp
theorem foldl_dstep_le : ∀ (ks acc : List α), (ks.foldl dstep acc).length ≤ acc.length + ks.length
  | [], acc => by simp
  | k :: r, acc => by
    have ih := foldl_dstep_le r (dstep acc k)
    have h : (dstep acc k).length ≤ acc.length + 1 := by
      unfold dstep
      split
      · omega
      · rw [List.length_append, List.length_singleton]
        omega
    show (r.foldl dstep (dstep acc k)).length ≤ _
    rw [List.length_cons]
    omega
theorem dist_le (ks : List α) : (dist ks).length ≤ ks.length := by
  have h := foldl_dstep_le ks []
  unfold dist
  simpa using h
theorem foldl_dstep_eq : ∀ (ks acc : List α), (ks.foldl dstep acc).length = acc.length + ks.length ↔ (∀ k ∈ ks, k ∉ acc) ∧ ks.Nodup
  | [], acc => by simp
  | k :: r, acc => by
    show (r.foldl dstep (dstep acc k)).length = _ ↔ _
    rw [List.length_cons, List.nodup_cons]
    have le := foldl_dstep_le r (dstep acc k)
    by_cases h : k ∈ acc
    · have e : dstep acc k = acc := if_pos h
      rw [e] at le ⊢
      constructor
      · intro z
        omega
      · rintro ⟨z, _⟩
        exact absurd h (z k List.mem_cons_self)
    · have e : dstep acc k = acc ++ [k] := if_neg h
      rw [e, show acc.length + (r.length + 1) = (acc ++ [k]).length + r.length by rw [List.length_append, List.length_singleton]; omega, foldl_dstep_eq r (acc ++ [k])]
      constructor
      · rintro ⟨z1, z2⟩
        refine ⟨fun j hj => ?_, ?_, z2⟩
        · rcases List.mem_cons.mp hj with rfl | hj
          · exact h
          · exact fun q => z1 j hj (List.mem_append_left _ q)
        · exact fun q => z1 k q (List.mem_append_right _ (List.mem_singleton.mpr rfl))
      · rintro ⟨z1, z2, z3⟩
        refine ⟨fun j hj q => ?_, z3⟩
        rcases List.mem_append.mp q with q | q
        · exact z1 j (List.mem_cons_of_mem _ hj) q
        · rw [List.mem_singleton] at q
          subst q
          exact z2 hj
theorem dist_eq (ks : List α) : (dist ks).length = ks.length ↔ ks.Nodup := by
  have h := foldl_dstep_eq ks []
  simp only [List.length_nil, Nat.zero_add] at h
  unfold dist
  rw [h]
  simp
end

/-! ### set(xs) of a list or tuple of ints and texts -/
instance (priority := 5000) keyBeq : BEq Key := instBEqOfDecidableEq
section
variable {P : Program} {w : World} {A : Around} {R : Result → Shared → Prop} {I : Addr} {fp wr : List Addr} {G : Array GenState → Array GenState → Prop} {n : Nat} {Pv : Nat → Value → Prop} {St : Nat → Shared → Prop}
/-- what the set at c is to hold when the keys of ks have been added -/
abbrev SetHas (P : Program) (w : World) (h : Heap) (c : Addr) (ks : List Key) : Prop := h.SetOf (mixKind P w) c (fun j => decide (j ∈ ks)) (dist ks).length
theorem SetHas.moved {h h' : Heap} {c : Addr} {ks : List Key} (z : SetHas P w h c ks) (k : ∀ o, h.get? c = some o → h'.get? c = some o) : SetHas P w h' c ks := by
  obtain ⟨o, es, ep, t, ho, q⟩ := z
  exact ⟨o, es, ep, t, k o ho, q⟩
theorem loopKeys (W : WalksS P w A.in1 I fp wr G n Pv St) {c : Addr} (out : c ∉ fp) (ks : List Key) (len : ks.length = n) (few : n + 1 < scanBound)
    (hval : ∀ i v, Pv i v → ∃ k, ks[i]? = some k ∧ RelV (kV k) v) :
    ∀ (m i : Nat) (s : Shared), i + m = n → St i s → SetHas P w s.heap c (ks.take i) →
      (∀ z, Moved (c :: wr) G s z → SetHas P w z.heap c ks → R (.ok (.ret .none)) z) →
      codeAny (model P w) A (.builtin "set.update.loop" ⟨[.ref c, .ref I], []⟩) R s := by
  have outw : c ∉ wr := fun q => out (W.sub _ q)
  have wide : ∀ q ∈ wr, q ∈ c :: wr := fun q hq => List.mem_cons_of_mem _ hq
  intro m
  induction m with
  | zero =>
    intro i s him hst hold fin
    obtain rfl : i = n := by omega
    refine codeAny_builtin PyProof.Rows.F.entry_set_update_loop (?_ : _)
    rw [Around.under_plainId PyProof.Rows.F.plain_set_update_loop (_ : _)]
    show wpAny _ A.in1 (pyNext (Value.ref I) >>= _) _ _ s
    refine wpAny_bind (W.done s _ _ hst fun z mv => ?_)
    show wpAny _ A.in1 (ret (Value.none)) _ _ z
    have al : ks.take i = ks := List.take_of_length_le (by omega)
    rw [al] at hold
    exact wpAny_pure (fin z (mv.mono wide) (hold.moved fun o e => mv.heap c o outw e))
  | succ m ih =>
    intro i s him hst hold fin
    have below : i < n := by omega
    refine codeAny_builtin PyProof.Rows.F.entry_set_update_loop (?_ : _)
    rw [Around.under_plainId PyProof.Rows.F.plain_set_update_loop (_ : _)]
    show wpAny _ A.in1 (pyNext (Value.ref I) >>= _) _ _ s
    refine wpAny_bind (W.item i s _ _ below hst fun v z pv hst2 mv => ?_)
    obtain ⟨k, hk, rk⟩ := hval i v pv
    have hold2 : SetHas P w z.heap c (ks.take i) := hold.moved fun o e => mv.heap c o outw e
    show wpAny _ A.in1 (holding [v] (setAdd c v) >>= _) _ _ z
    refine wpAny_bind (wpAny_holding (?_ : _))
    unfold setAdd
    refine wpAny_holding (?_ : _)
    refine wpAny_bind ((mixKind P w).pyHash (k := k) (kV_is rk) (?_ : _))
    have room : (dist (ks.take i)).length + 1 < scanBound := by
      have a := dist_le (ks.take i)
      rw [List.length_take] at a
      omega
    refine wpAny_setAddHashed_of (knd := mixKind P w) (s := { z with toks := z.toks + 1 }) (kV_is rk) (key_scan rk) hold2 room fun h' same hold3 => ?_
    have next : SetHas P w h' c (ks.take (i + 1)) := by
      have e : ks.take (i + 1) = ks.take i ++ [k] := by
        rw [List.take_add_one, hk]
        rfl
      rw [e]
      refine SetOf_congr hold3 (fun j => (?_ : _)) (?_ : _)
      · rw [← Bool.decide_or]
        exact decide_eq_decide.mpr (by rw [List.mem_append, List.mem_singleton])
      · rw [dist_snoc]
        unfold dstep
        by_cases q : k ∈ ks.take i
        · rw [if_pos (decide_eq_true q), if_pos (dist_mem.mpr q)]
        · rw [if_neg (fun b => q (of_decide_eq_true b)), if_neg (fun b => q (dist_mem.mp b)), List.length_append, List.length_singleton]
    refine wpAny_pure ⟨plainId_quiet PyProof.Rows.F.plain_set_update_loop _, ih (i + 1) _ (by omega) (W.frame _ z _ _ hst2 (Nat.le_succ _) fun q hq o e => ?_) next fun y mv2 hold4 => ?_⟩
    · rw [same.2 q (fun z : q = c => out (z ▸ hq))]
      exact e
    · refine fin y (Moved.trans W.gtrans ((mv.mono wide).then_heap (Nat.le_succ _) fun q o hq e => ?_) mv2) hold4
      rw [same.2 q (fun z : q = c => hq (z ▸ List.mem_cons_self))]
      exact e
end
section
variable {P : Program} {w : World} {A : Around} {E : Value → Shared → Prop} {s : Shared}
/-- a set as it begins -/
abbrev noSet (led : Bool) : Obj := { cls := .type "set", dict := none, data := .set #[] 0 (.fresh 0 0 led) }

set_option maxHeartbeats 3200000 in
theorem set_of_list {l : Addr} {vs : List Value} {ks : List Key} {Q : Value → Shared → Prop} (calm : A.handled = none) (at_ : s.heap.IsList l vs.toArray)
    (rel : Vals (ks.map kV) vs) (few : ks.length + 1 < scanBound)
    (q : ∀ (h' : Heap) (tk : Nat), SetHas P w h' s.heap.objs.size ks → (∀ b o, s.heap.get? b = some o → h'.get? b = some o) → Q (.ref s.heap.objs.size) { s with heap := h', toks := tk }) :
    wpAny (model P w) A (call (.type "set") [.ref l]) Q E s := by
  have len : vs.toArray.size = ks.length := by
    rw [List.size_toArray, ← rel.length, List.length_map]
  obtain ⟨_, _, mro⟩ := PySem.F.called_set.mro
  have f1 := PySem.F.called_set.made
  have f2 := PySem.F.called_set.sub
  refine wpAny_call (codeAny_of_tree (?_ : _))
  show wpAny _ _ (callAny (Value.type "set") _) _ _ _
  refine wpAny_pure ⟨Code.quiet_builtin (_ : _) (by decide +kernel), codeAny_builtin PySem.F.entry_type_call (?_ : _)⟩
  rw [Around.under_plain (weight_type_call_type "set" [Value.ref l] []) rfl]
  have f3 := PySem.F.called_set.notType
  have f4 := PySem.F.called_set.canCreate
  have f5 := PySem.F.typeCall_set_1 (Value.ref l)
  repeat (any_goals (first | assumption | wp_step))
  refine codeAny_mono (code_set_new_1 (Value.ref l) (E := E) (Q₁ := fun r z => ∃ led : Bool, r = .ref s.heap.objs.size ∧ z = { s with heap := s.heap.push (noSet led) }) fun led => ⟨led, rfl, rfl⟩) fun r z hr => ?_
  cases r with
  | error e => exact hr
  | ok fl =>
    cases fl with
    | ret obj =>
      obtain ⟨led, rfl, rfl⟩ := hr
      have g0 : (s.heap.push (noSet led)).get? s.heap.objs.size = some (noSet led) := Heap.get?_push_size _ rfl
      have ty : Shared.TypeIs { s with heap := s.heap.push (noSet led) } (.ref s.heap.objs.size) "set" := ⟨_, g0, rfl⟩
      have f6 := PySem.F.called_set.init.lookup
      have f7 := PySem.F.called_set.init.bind (Value.ref s.heap.objs.size)
      repeat (any_goals (first | assumption | wp_step))
      refine codeAny_mono (codeAny_call_builtin (R := wants (fun r z => r = .none ∧ ∃ h' tk, z = { s with heap := h', toks := tk } ∧ SetHas P w h' s.heap.objs.size ks ∧
        (∀ b o, s.heap.get? b = some o → h'.get? b = some o)) E) PySem.F.called_set.init.plain PySem.F.entry_set_init (check_set_init_1 ty (?_ : _))) fun r2 z2 hr2 => ?_
      · obtain ⟨⟨oc, od, odt, osl⟩, ho, hc, nl, hd⟩ := at_
        simp only at hc hd
        subst hc
        subst hd
        have ho' : (s.heap.push (noSet led)).get? l = some { cls := .type "list", dict := od, data := .seq vs.toArray nl, slots := osl } := Heap.get?_push_of_some _ ho
        have f8 := PySem.F.sub_list_set
        have f9 := PySem.F.sub_list_frozenset
        have nd : (Value.type "list" == Value.type "dict") = false := by decide +kernel
        have at1 : (s.heap.push (noSet led)).IsList l vs.toArray := ⟨_, ho', rfl, nl, rfl⟩
        have nsd : noSet led = { cls := .type "set", dict := none, data := .set #[] 0 (.fresh 0 0 led) } := rfl
        unfold Builtin.«set.__init__» noKeywords Builtin.Frozenset.updateFrom
        generalize hPI : pyIter = PI
        wp_walk
        subst hPI
        refine wpAny_pyIter_list at1 (?_ : _)
        refine wpAny_bind (wpAny_runValue (?_ : _))
        have lo : l < s.heap.objs.size := Heap.lt_size ho
        have calm3 : A.in1.in1.in1.handled = none := by
          simp [calm]
        have apart : l ≠ (s.heap.push (noSet led)).objs.size := by
          rw [Heap.size_push]
          exact Nat.ne_of_lt (Nat.lt_succ_of_lt lo)
        have out : s.heap.objs.size ∉ [(s.heap.push (noSet led)).objs.size, l] := by
          rw [Heap.size_push]
          simp only [List.mem_cons, List.not_mem_nil, or_false, not_or]
          exact ⟨Nat.ne_of_lt (Nat.lt_succ_self _), (Nat.ne_of_lt lo).symm⟩
        refine loopKeys ((Walks.list calm3 _ l apart vs.toArray).toS) out ks len.symm (by omega) (fun i v hv => ?hv) vs.toArray.size 0 _ (by omega) ⟨⟨_, Heap.get?_push_size _ rfl, rfl, rfl⟩, (at1.push _)⟩ ?h0 ?h1
        case hv =>
          have hv2 : vs[i]? = some v := by simpa using hv
          cases e : ks[i]? with
          | none =>
            have b1 : ks.length ≤ i := List.getElem?_eq_none_iff.mp e
            have b2 := (List.getElem?_eq_some_iff.mp hv2).1
            rw [List.size_toArray] at len
            omega
          | some k =>
            obtain ⟨u, hu, ru⟩ := rel.get (i := i) (x := kV k) (by rw [List.getElem?_map, e] <;> rfl)
            rw [hv2] at hu
            cases hu
            exact ⟨k, rfl, ru⟩
        case h0 =>
          have gi : ((s.heap.push (noSet led)).push { cls := .type "list_iterator", data := .fields #[.ref l, .int 0 0] }).get? s.heap.objs.size = some (noSet led) := Heap.get?_push_of_some _ g0
          exact (setObjOf_fresh (knd := mixKind P w) led).setOf gi (by unfold scanBound; omega)
        case h1 =>
          intro z mv hold
          obtain ⟨h', g', d', tk', os'⟩ := z
          obtain rfl : g' = s.gens := mv.gens
          obtain rfl : d' = s.drawn := mv.drawn
          obtain rfl : os' = s.os := mv.os
          show wpAny _ _ _ _ _ _
          refine wpAny_pure (?_ : _)
          show wpAny _ _ (ret (Value.none)) _ _ _
          refine wpAny_pure ⟨rfl, h', tk', rfl, hold, fun b o e => ?_⟩
          have lb : b < s.heap.objs.size := Heap.lt_size e
          have e2 : ((s.heap.push (noSet led)).push { cls := .type "list_iterator", data := .fields #[.ref l, .int 0 0] }).get? b = some o := Heap.get?_push_of_some _ (Heap.get?_push_of_some _ e)
          refine mv.heap b o (?_ : _) e2
          rw [Heap.size_push]
          simp only [List.mem_cons, List.not_mem_nil, or_false, not_or]
          exact ⟨Nat.ne_of_lt lb, Nat.ne_of_lt (Nat.lt_succ_of_lt lb)⟩
      · cases r2 with
        | error e => exact hr2
        | ok fl2 =>
          cases fl2 with
          | ret r =>
            obtain ⟨rfl, h', tk, rfl, hold, keep⟩ := hr2
            repeat (any_goals (first | assumption | wp_step))
            exact q _ _ hold keep
          | _ => exact hr2.elim
    | _ => exact hr.elim

set_option maxHeartbeats 3200000 in
theorem set_of_tuple {l : Addr} {vs : List Value} {ks : List Key} {Q : Value → Shared → Prop} (calm : A.handled = none) (at_ : s.heap.IsTuple l vs.toArray)
    (rel : Vals (ks.map kV) vs) (few : ks.length + 1 < scanBound)
    (q : ∀ (h' : Heap) (tk : Nat), SetHas P w h' s.heap.objs.size ks → (∀ b o, s.heap.get? b = some o → h'.get? b = some o) → Q (.ref s.heap.objs.size) { s with heap := h', toks := tk }) :
    wpAny (model P w) A (call (.type "set") [.ref l]) Q E s := by
  have len : vs.toArray.size = ks.length := by
    rw [List.size_toArray, ← rel.length, List.length_map]
  obtain ⟨_, _, mro⟩ := PySem.F.called_set.mro
  have f1 := PySem.F.called_set.made
  have f2 := PySem.F.called_set.sub
  refine wpAny_call (codeAny_of_tree (?_ : _))
  show wpAny _ _ (callAny (Value.type "set") _) _ _ _
  refine wpAny_pure ⟨Code.quiet_builtin (_ : _) (by decide +kernel), codeAny_builtin PySem.F.entry_type_call (?_ : _)⟩
  rw [Around.under_plain (weight_type_call_type "set" [Value.ref l] []) rfl]
  have f3 := PySem.F.called_set.notType
  have f4 := PySem.F.called_set.canCreate
  have f5 := PySem.F.typeCall_set_1 (Value.ref l)
  repeat (any_goals (first | assumption | wp_step))
  refine codeAny_mono (code_set_new_1 (Value.ref l) (E := E) (Q₁ := fun r z => ∃ led : Bool, r = .ref s.heap.objs.size ∧ z = { s with heap := s.heap.push (noSet led) }) fun led => ⟨led, rfl, rfl⟩) fun r z hr => ?_
  cases r with
  | error e => exact hr
  | ok fl =>
    cases fl with
    | ret obj =>
      obtain ⟨led, rfl, rfl⟩ := hr
      have g0 : (s.heap.push (noSet led)).get? s.heap.objs.size = some (noSet led) := Heap.get?_push_size _ rfl
      have ty : Shared.TypeIs { s with heap := s.heap.push (noSet led) } (.ref s.heap.objs.size) "set" := ⟨_, g0, rfl⟩
      have f6 := PySem.F.called_set.init.lookup
      have f7 := PySem.F.called_set.init.bind (Value.ref s.heap.objs.size)
      repeat (any_goals (first | assumption | wp_step))
      refine codeAny_mono (codeAny_call_builtin (R := wants (fun r z => r = .none ∧ ∃ h' tk, z = { s with heap := h', toks := tk } ∧ SetHas P w h' s.heap.objs.size ks ∧
        (∀ b o, s.heap.get? b = some o → h'.get? b = some o)) E) PySem.F.called_set.init.plain PySem.F.entry_set_init (check_set_init_1 ty (?_ : _))) fun r2 z2 hr2 => ?_
      · obtain ⟨⟨oc, od, odt, osl⟩, ho, hc, nl, hd⟩ := at_
        simp only at hc hd
        subst hc
        subst hd
        have ho' : (s.heap.push (noSet led)).get? l = some { cls := .type "tuple", dict := od, data := .seq vs.toArray nl, slots := osl } := Heap.get?_push_of_some _ ho
        have f8 := PySem.F.sub_tuple_set
        have f9 := PySem.F.sub_tuple_frozenset
        have nd : (Value.type "tuple" == Value.type "dict") = false := by decide +kernel
        have at1 : (s.heap.push (noSet led)).IsTuple l vs.toArray := ⟨_, ho', rfl, nl, rfl⟩
        have nsd : noSet led = { cls := .type "set", dict := none, data := .set #[] 0 (.fresh 0 0 led) } := rfl
        unfold Builtin.«set.__init__» noKeywords Builtin.Frozenset.updateFrom
        generalize hPI : pyIter = PI
        wp_walk
        subst hPI
        refine wpAny_pyIter_tuple at1 (?_ : _)
        refine wpAny_bind (wpAny_runValue (?_ : _))
        have lo : l < s.heap.objs.size := Heap.lt_size ho
        have calm3 : A.in1.in1.in1.handled = none := by
          simp [calm]
        have apart : l ≠ (s.heap.push (noSet led)).objs.size := by
          rw [Heap.size_push]
          exact Nat.ne_of_lt (Nat.lt_succ_of_lt lo)
        have out : s.heap.objs.size ∉ [(s.heap.push (noSet led)).objs.size, l] := by
          rw [Heap.size_push]
          simp only [List.mem_cons, List.not_mem_nil, or_false, not_or]
          exact ⟨Nat.ne_of_lt (Nat.lt_succ_self _), (Nat.ne_of_lt lo).symm⟩
        refine loopKeys ((Walks.tuple calm3 _ l apart vs.toArray).toS) out ks len.symm (by omega) (fun i v hv => ?hv) vs.toArray.size 0 _ (by omega) ⟨⟨_, Heap.get?_push_size _ rfl, rfl, rfl⟩, (at1.push _)⟩ ?h0 ?h1
        case hv =>
          have hv2 : vs[i]? = some v := by simpa using hv
          cases e : ks[i]? with
          | none =>
            have b1 : ks.length ≤ i := List.getElem?_eq_none_iff.mp e
            have b2 := (List.getElem?_eq_some_iff.mp hv2).1
            rw [List.size_toArray] at len
            omega
          | some k =>
            obtain ⟨u, hu, ru⟩ := rel.get (i := i) (x := kV k) (by rw [List.getElem?_map, e] <;> rfl)
            rw [hv2] at hu
            cases hu
            exact ⟨k, rfl, ru⟩
        case h0 =>
          have gi : ((s.heap.push (noSet led)).push { cls := .type "tuple_iterator", data := .fields #[.ref l, .int 0 0] }).get? s.heap.objs.size = some (noSet led) := Heap.get?_push_of_some _ g0
          exact (setObjOf_fresh (knd := mixKind P w) led).setOf gi (by unfold scanBound; omega)
        case h1 =>
          intro z mv hold
          obtain ⟨h', g', d', tk', os'⟩ := z
          obtain rfl : g' = s.gens := mv.gens
          obtain rfl : d' = s.drawn := mv.drawn
          obtain rfl : os' = s.os := mv.os
          show wpAny _ _ _ _ _ _
          refine wpAny_pure (?_ : _)
          show wpAny _ _ (ret (Value.none)) _ _ _
          refine wpAny_pure ⟨rfl, h', tk', rfl, hold, fun b o e => ?_⟩
          have lb : b < s.heap.objs.size := Heap.lt_size e
          have e2 : ((s.heap.push (noSet led)).push { cls := .type "tuple_iterator", data := .fields #[.ref l, .int 0 0] }).get? b = some o := Heap.get?_push_of_some _ (Heap.get?_push_of_some _ e)
          refine mv.heap b o (?_ : _) e2
          rw [Heap.size_push]
          simp only [List.mem_cons, List.not_mem_nil, or_false, not_or]
          exact ⟨Nat.ne_of_lt lb, Nat.ne_of_lt (Nat.lt_succ_of_lt lb)⟩
      · cases r2 with
        | error e => exact hr2
        | ok fl2 =>
          cases fl2 with
          | ret r =>
            obtain ⟨rfl, h', tk, rfl, hold, keep⟩ := hr2
            repeat (any_goals (first | assumption | wp_step))
            exact q _ _ hold keep
          | _ => exact hr2.elim
    | _ => exact hr.elim

end
section
variable {X : Cx}
/-- set(xs): xs a list or tuple of ints and texts -/
def rSetOfK (K : PySem.W.Frag) (P : Program) (w : World) : List V → Hp → VK → Prop := fun vs H Q => ∃ (l : Addr) (ks : List Key), vs = [V.ref l] ∧ (SqL K H l (ks.map kV) ∨ SqT K H l (ks.map kV)) ∧ ks.length ≤ 4000 ∧
  ∀ p, H p = none → Q (.ref p) (upd H p (SetK P w p (fun j => decide (j ∈ ks)) (dist ks).length))
theorem cr_setOfK (hc : X.calm = true) : CallR X (.type "set") (rSetOfK X.K X.prog X.w) := by
  intro pins s σ H vs us Q I r h
  obtain ⟨l, ks, rfl, sq, few, q⟩ := h
  rw [Vals.ref1 r]
  have few2 : ks.length + 1 < scanBound := by
    unfold scanBound
    omega
  have fin : ∀ (h' : Heap) (tk : Nat), SetHas X.prog X.w h' s.heap.objs.size ks → (∀ b o, s.heap.get? b = some o → h'.get? b = some o) →
      ∃ y H2, Inv X pins σ H2 { s with heap := h', toks := tk } ∧ RelV y (.ref s.heap.objs.size) ∧ Q y H2 := fun h' tk hold keep =>
    ⟨.ref s.heap.objs.size, _, I.laid (t' := tk) keep (Nat.le_refl _) (setK_new hold), rfl, q _ (I.hok.fresh (Nat.le_refl _))⟩
  rcases sq with sq | sq
  · obtain ⟨its, rv, pl, _⟩ := I.list sq
    exact set_of_list (I.ok.hd hc) pl.isList rv few2 fin
  · obtain ⟨its, rv, pl, _⟩ := I.tuple sq
    exact set_of_tuple (I.ok.hd hc) pl rv few2 fin
/-- len of a set of ints and texts -/
theorem call_lenK : CallR X (.builtin "len") (fun vs H Q => ∃ (a : Addr) (S : Key → Bool) (n : Nat), vs = [V.ref a] ∧ H a = some (SetK X.prog X.w a S n) ∧ Q (.int n) H) := by
  intro pins s σ H vs us Q I r h
  obtain ⟨a, S, n, rfl, ha, q⟩ := h
  rw [Vals.ref1 r]
  obtain ⟨o, es, ep, t, ho, hex, hd, _, _, few, hf, hn⟩ := setK_get I ha
  unfold scanBound at few
  refine call_len_set ho hex hd hf (by omega) ⟨.int n, H, I.tok _, ⟨_, by rw [hn]⟩, q⟩
end
end Lp

namespace Lp
open PySem PySem.Spec PyProof.Rows L2

/-! ### further operators -/
def CPowW (i j : Int) : Prop := 0 ≤ j ∧ (Builtin.Int.intBits i : Int) * j ≤ 2 ^ 27
section
variable {X : Cx}
theorem op_powW : OpR X (binaryOp .Pow) (rI CPowW fun i j => .int (i ^ j.toNat)) := opI fun _ _ _ _ _ _ _ hc q => pow_int hc.1 hc.2 q
/-- a text k times -/
def txtRep (z : Str) (k : Nat) : Str := ⟨((List.replicate k z.cps.toList).flatten).toArray⟩
theorem txtRep_list (z : Str) (k : Nat) : (txtRep z k).cps.toList = (List.replicate k z.cps.toList).flatten := rfl
theorem fold_app (a : Array Nat) : ∀ (k : Nat) (acc : Array Nat), ((List.replicate k a).foldl (· ++ ·) acc).toList = acc.toList ++ (List.replicate k a.toList).flatten
  | 0, acc => by simp
  | k + 1, acc => by
    rw [List.replicate_succ, List.foldl_cons, fold_app a k (acc ++ a), List.replicate_succ, List.flatten_cons, Array.toList_append, List.append_assoc]
theorem op_repS : OpR X (binaryOp .Mult) (fun x y H Q => ∃ (z : Str) (k : Nat), x = .str z ∧ y = .int (k : Int) ∧ 2 ≤ k ∧ k ≤ 100000 ∧ 0 < z.length ∧ z.length * k ≤ 100000 ∧ Q (.str (txtRep z k)) H) := by
  intro pins s σ H x y v u Q I rx ry h
  obtain ⟨z, k, rfl, rfl, h2, hk, h0, hz, q⟩ := h
  obtain ⟨t, rfl⟩ := rx
  obtain ⟨t', rfl⟩ := ry
  have e1 : ¬ ((k : Int) < 1) := by omega
  have e2 : ((k : Int) == 1 || z.length == 0) = false := by
    rw [Bool.or_eq_false_iff]
    exact ⟨beq_eq_false_iff_ne.mpr (by omega), beq_eq_false_iff_ne.mpr (by omega)⟩
  refine PySem.P.mul_str ?_ (fun _ _ => ?_) (fun _ _ => ?_) ?_
  · rw [Bool.or_eq_false_iff]
    exact ⟨decide_eq_false (by omega), decide_eq_false (by omega)⟩
  · have a : (2 ^ 63 - 1 : Int) / k ≥ (2 ^ 63 - 1 : Int) / 100000 := by
      rw [ge_iff_le, Int.le_ediv_iff_mul_le (by omega), show (2 ^ 63 - 1 : Int) / 100000 = 92233720368547 by decide]
      omega
    have b : (2 ^ 63 - 1 : Int) / 100000 = 92233720368547 := by decide
    have c : z.length ≤ z.length * k := Nat.le_mul_of_pos_right _ (by omega)
    omega
  · show Builtin.Str.tooLong _ = false
    unfold Builtin.Str.tooLong
    have := sizeLine_eq
    exact decide_eq_false (by rw [Int.toNat_natCast]; omega)
  · rw [if_neg e1, if_neg (by rw [e2]; exact Bool.false_ne_true)]
    have e3 : (⟨(List.replicate (k : Int).toNat z.cps).foldl (· ++ ·) #[]⟩ : Str) = txtRep z k := by
      unfold txtRep
      congr 1
      apply Array.ext'
      rw [fold_app]
      simp
    rw [e3]
    dsimp only [Made.post]
    refine ⟨?_, .str (txtRep z k), H, I.tok _, ⟨_, rfl⟩, q⟩
    have e4 : (txtRep z k).length = k * z.length := by
      show (txtRep z k).cps.size = k * z.cps.size
      rw [← Array.length_toList, txtRep_list]
      simp only [List.length_flatten, List.map_replicate, List.sum_replicate_nat, Array.length_toList]
    rw [e4, Nat.mul_comm, sizeLine_eq]
    omega
end

/-! ### what stays, the bag -/
/-- all that is tracked stays, but at b -/
def Keep (b : Addr) (H H' : Hp) : Prop := ∀ a o, a ≠ b → H a = some o → H' a = some o
theorem Keep.refl (b : Addr) (H : Hp) : Keep b H H := fun _ _ _ h => h
theorem Keep.trans {b : Addr} {H H1 H2 : Hp} (k : Keep b H H1) (l : Keep b H1 H2) : Keep b H H2 := fun a o n h => l a o n (k a o n h)
theorem Keep.of {b : Addr} {H H' : Hp} (s : Same H H') : Keep b H H' := fun a o _ h => s a o h
theorem Keep.upd {b : Addr} {H : Hp} {o : HO} : Keep b H (upd H b o) := fun a u n h => by
  rw [upd_ne n]
  exact h
theorem same_upd {H : Hp} {p : Addr} {o : HO} (h : H p = none) : Same H (upd H p o) := fun b x e => by
  rw [upd_ne (ne_of_none e h)]
  exact e
theorem keep_new {b : Addr} {H : Hp} {p : Addr} {o : HO} (h : H p = none) : Keep b H (L2.upd H p o) := .of (same_upd h)
theorem Keep.snoc {b : Addr} {H H1 : Hp} {p : Addr} {o : HO} (k : Keep b H H1) (h : H1 p = none) : Keep b H (L2.upd H1 p o) := k.trans (keep_new h)
theorem same_snoc {H H1 : Hp} {p : Addr} {o : HO} (k : Same H H1) (h : H1 p = none) : Same H (L2.upd H1 p o) := k.trans (same_upd h)
/-- what was not there may change -/
theorem same_put {H : Hp} {p : Addr} {o : HO} {H1 : Hp} (k : Same H H1) (h : H p = none) : Same H (L2.upd H1 p o) := fun a u e => by
  rw [upd_ne (ne_of_none e h)]
  exact k a u e
theorem keep_put {b : Addr} {H : Hp} {p : Addr} {o : HO} {H1 : Hp} (k : Keep b H H1) (h : H p = none) : Keep b H (L2.upd H1 p o) := fun a u n e => by
  rw [upd_ne (ne_of_none e h)]
  exact k a u n e
theorem sqT_same {K : PySem.W.Frag} {H H' : Hp} {a : Addr} {xs : List V} (e : Same H H') (h : SqT K H a xs) : SqT K H' a xs := by
  rcases h with (h | ⟨o, h⟩) | h
  · exact .inl (.inl (e _ _ h))
  · exact .inl (.inr ⟨o, e _ _ h⟩)
  · exact .inr h
theorem sqL_keep {K : PySem.W.Frag} {b : Addr} {H H' : Hp} {a : Addr} {xs : List V} (e : Keep b H H') (n : a ≠ b) (h : SqL K H a xs) : SqL K H' a xs := by
  rcases h with (h | ⟨o, h⟩) | h
  · exact .inl (.inl (e _ _ n h))
  · exact .inl (.inr ⟨o, e _ _ n h⟩)
  · exact .inr h
theorem sqT_keep {K : PySem.W.Frag} {b : Addr} {H H' : Hp} {a : Addr} {xs : List V} (e : Keep b H H') (n : a ≠ b) (h : SqT K H a xs) : SqT K H' a xs := by
  rcases h with (h | ⟨o, h⟩) | h
  · exact .inl (.inl (e _ _ n h))
  · exact .inl (.inr ⟨o, e _ _ n h⟩)
  · exact .inr h
/-- a bag at b, out of which at most n rolls were drawn behind its number's end -/
def Bag (H : Hp) (b : Addr) (n : Nat) : Prop := ∃ x y z : Int, H b = some (.lst [.int x, .int y, .int z]) ∧ 0 ≤ z ∧ z ≤ n
theorem Bag.mono {H : Hp} {b : Addr} {n m : Nat} (g : Bag H b n) (h : n ≤ m) : Bag H b m := by
  obtain ⟨x, y, z, h1, h2, h3⟩ := g
  exact ⟨x, y, z, h1, h2, by omega⟩
theorem Bag.same {H H' : Hp} {b : Addr} {n : Nat} (g : Bag H b n) (k : Same H H') : Bag H' b n := by
  obtain ⟨x, y, z, h1, h2⟩ := g
  exact ⟨x, y, z, k _ _ h1, h2⟩
theorem Bag.put {H : Hp} {b p : Addr} {n : Nat} {o : HO} (g : Bag H b n) (h : b ≠ p) : Bag (upd H p o) b n := by
  obtain ⟨x, y, z, h1, h2⟩ := g
  exact ⟨x, y, z, by rw [upd_ne h]; exact h1, h2⟩
theorem Bag.new {H : Hp} {b p : Addr} {n : Nat} {o : HO} (g : Bag H b n) (h : H p = none) : Bag (upd H p o) b n := g.same (same_upd h)
theorem Bag.ne {H : Hp} {b p : Addr} {n : Nat} (g : Bag H b n) (h : H p = none) : b ≠ p := by
  obtain ⟨x, y, z, h1, _⟩ := g
  exact ne_of_none h1 h
/-- a list of texts is no bag -/
theorem Bag.strs {H : Hp} {b a : Addr} {n : Nat} {zs : List Str} (g : Bag H b n) (h : H a = some (.lst (zs.map V.str))) : a ≠ b := by
  obtain ⟨x, y, z, h1, _⟩ := g
  refine ne_of h h1 fun e => ?_
  cases zs with
  | nil => cases e
  | cons s r => cases e
theorem Bag.tup {H : Hp} {b a : Addr} {n : Nat} {xs : List V} (g : Bag H b n) (h : H a = some (.tup xs)) : a ≠ b := by
  obtain ⟨x, y, z, h1, _⟩ := g
  exact ne_of h h1 fun e => nomatch e
theorem Bag.dk {H : Hp} {b a : Addr} {n : Nat} {xs : List (Key × V)} (g : Bag H b n) (h : H a = some (.dK xs)) : a ≠ b := by
  obtain ⟨x, y, z, h1, _⟩ := g
  exact ne_of h h1 fun e => nomatch e
/-- most rolls that a bag may have given -/
def bagMost : Nat := 1000000000
/-! ### a def by its name -/
abbrev Cal (P : Program) (w : World) (K : PySem.W.Frag) (mg : Str → Option Value) (base : Heap) (k : Nat) (x : Str) (sp : Sp) : Prop := C8.Cal P w K mg base k x sp []
theorem mkCal {P : Program} {w : World} {K : PySem.W.Frag} {mg : Str → Option Value} {base : Heap} {k : Nat} {x : Str} {st : Stmt} {sp : Sp} {f : Addr} {fd : FuncData} {ps : List Str}
    (h : FnOk P w K mg base CX0 k f fd ps sp) (F : Fun K x x st f fd) (b : Binds K fd ps []) (g : mg x = some (.ref f)) : Cal P w K mg base k x sp := ⟨f, fd, ps, [], h, g, F.kp, b, .nil⟩
/-! ### rules with the written part named, for use within a comprehension -/
section
variable {X : Cx} {K : PySem.W.Frag}
theorem in_K (h : X.K = K) : OpR X (compareOp .In) (rIn K false) := h ▸ op_in_seq
theorem notIn_K (h : X.K = K) : OpR X (compareOp .NotIn) (rIn K true) := h ▸ op_notIn_seq
theorem ixL_K (h : X.K = K) : IxR X (rIxL K) := h ▸ ix_list
theorem ixT_K (h : X.K = K) : IxR X (rIxT K) := h ▸ ix_tup
theorem slL_K (h : X.K = K) : SlR X (rSlL K) := h ▸ sl_list
theorem len_K (h : X.K = K) : CallR X (.builtin "len") (fun xs H Q => ∃ p ys, xs = [.ref p] ∧ (SqL K H p ys ∨ SqT K H p ys) ∧ Q (.int ys.length) H) := h ▸ call_len_seq
theorem eqD_K (h : X.K = K) (hu : X.A.units + 64 < cLine) : OpR X (compareOp .Eq) (rEqD K) := h ▸ op_eqD hu
theorem neD_K (h : X.K = K) (hu : X.A.units + 64 < cLine) : OpR X (compareOp .NotEq) (rNeD K) := h ▸ op_neD hu
theorem isi_K (h : X.K = K) : CallR X (.builtin "isinstance") (rIsi K) := h ▸ call_isi
theorem all_K (h : X.K = K) (hc : X.calm = true) : CallR X (.builtin "all") (rAll K) := h ▸ cr_all hc
end
end Lp

namespace Lp
open PySem PySem.Spec PyProof.Rows L2

/-! ### texts as lists of codes -/
abbrev cs (z : Str) : List Nat := z.cps.toList
theorem cs_len (z : Str) : z.length = (cs z).length := by
  show z.cps.size = _
  rw [Array.length_toList]
theorem cs_ext {x y : Str} (h : cs x = cs y) : x = y := by
  cases x
  cases y
  congr 1
  exact Array.ext' h
theorem cs_iff {x y : Str} : x = y ↔ cs x = cs y := ⟨fun h => by rw [h], cs_ext⟩
theorem cs_app (x y : Str) : cs (x ++ y) = cs x ++ cs y := by
  show (x.cps ++ y.cps).toList = _
  rw [Array.toList_append]
theorem cs_one (c : Nat) : cs ⟨#[c]⟩ = [c] := rfl
theorem cs_mk (l : List Nat) : cs ⟨l.toArray⟩ = l := rfl
theorem cs_rep (z : Str) (k : Nat) : cs (txtRep z k) = (List.replicate k (cs z)).flatten := rfl
theorem fold_join (a : Array Nat) : ∀ (ys : List Str) (acc : Array Nat), (ys.foldl (fun acc p => acc ++ (Str.ofString "").cps ++ p.cps) acc).toList = acc.toList ++ (ys.map cs).flatten
  | [], acc => by simp
  | y :: r, acc => by
    rw [List.foldl_cons, fold_join a r, List.map_cons, List.flatten_cons, ← List.append_assoc]
    congr 1
    rw [Array.toList_append, Array.toList_append]
    show acc.toList ++ [] ++ _ = _
    rw [List.append_nil]
theorem cs_join (ys : List Str) : cs (Txt.join (Str.ofString "") ys) = (ys.map cs).flatten := by
  cases ys with
  | nil => rfl
  | cons y r =>
    show (r.foldl (fun acc p => acc ++ (Str.ofString "").cps ++ p.cps) y.cps).toList = _
    rw [fold_join #[], List.map_cons, List.flatten_cons]
theorem join_ones (ws : List Nat) : cs (Txt.join (Str.ofString "") (ws.map fun c => ⟨#[c]⟩)) = ws := by
  rw [cs_join, List.map_map]
  induction ws with
  | nil => rfl
  | cons c r ih =>
    rw [List.map_cons, List.flatten_cons, ih]
    rfl
theorem ones_sum (ws : List Nat) : ((ws.map fun c => (⟨#[c]⟩ : Str)).map (·.length)).sum = ws.length := by
  induction ws with
  | nil => rfl
  | cons c r ih =>
    rw [List.map_cons, List.map_cons, List.sum_cons, ih, List.length_cons]
    show 1 + r.length = _
    omega
theorem one_inj {a b : Nat} (h : (⟨#[a]⟩ : Str) = ⟨#[b]⟩) : a = b := by
  have e := congrArg cs h
  rw [cs_one, cs_one] at e
  exact List.cons.inj e |>.1

/-! ### names -/
def lettersL : List Nat := cs (Str.ofString "abcdefghijklmnopqrstuvwxyz")
def keywordsL : List Str := ["call", "copy", "def", "drop", "fields", "full", "lend", "look", "move", "new", "own", "put", "return", "skip", "take", "touch"]
/-- the document's names -/
def isName (z : Str) : Bool := decide (1 ≤ z.length) && decide (z.length ≤ 8) && !decide (z ∈ keywordsL) && (cs z).all fun c => decide (c ∈ lettersL)
/-- the document's fields -/
def FieldsOk (zs : List Str) : Prop := 1 ≤ zs.length ∧ zs.length ≤ 4 ∧ (∀ z ∈ zs, isName z = true) ∧ zs.Nodup
instance (zs : List Str) : Decidable (FieldsOk zs) := by
  unfold FieldsOk
  infer_instance
/-- the six letters of drawn words, the ten at their ends -/
def sixL : List Nat := cs (Str.ofString "abcxyz")
def endsL : List Nat := cs (Str.ofString "abcdghij")
def WordOk (z : Str) : Prop := 1 ≤ z.length ∧ z.length ≤ 7 ∧ ∀ c ∈ cs z, c ∈ sixL
/-- a drawn name: a front of drawn letters, of one to seven, and the letter that belongs to its turn -/
def NameOk (t : Nat) (z : Str) : Prop := ∃ front : List Nat, ∃ c, cs z = front ++ [c] ∧ 2 ≤ front.length ∧ front.length ≤ 7 ∧ (∀ d ∈ front, d ∈ sixL) ∧ endsL[t]? = some c
def looksDrawn (l : List Nat) : Bool := decide (3 ≤ l.length) && (l.dropLast.all fun c => decide (c ∈ sixL)) && (match l.getLast? with | some c => decide (c ∈ endsL) | none => false)
theorem six_letters : ∀ c ∈ sixL, c ∈ lettersL := by decide +kernel
theorem ends_letters : ∀ c ∈ endsL, c ∈ lettersL := by decide +kernel
theorem keywords_look : ∀ k ∈ keywordsL, looksDrawn (cs k) = false := by decide +kernel
theorem NameOk.looks {t : Nat} {z : Str} (h : NameOk t z) : looksDrawn (cs z) = true := by
  obtain ⟨f, c, e, h1, h2, h3, h4⟩ := h
  have hc : c ∈ endsL := List.mem_of_getElem? h4
  unfold looksDrawn
  rw [e, List.dropLast_concat, List.getLast?_concat, List.length_append, List.length_singleton]
  simp only [Bool.and_eq_true, decide_eq_true_eq, List.all_eq_true]
  exact ⟨⟨by omega, h3⟩, hc⟩
theorem NameOk.name {t : Nat} {z : Str} (h : NameOk t z) : isName z = true := by
  have look := h.looks
  obtain ⟨f, c, e, h1, h2, h3, h4⟩ := h
  have hc : c ∈ endsL := List.mem_of_getElem? h4
  have hl : z.length = f.length + 1 := by
    rw [cs_len, e, List.length_append, List.length_singleton]
  unfold isName
  simp only [Bool.and_eq_true, decide_eq_true_eq, Bool.not_eq_true', decide_eq_false_iff_not, List.all_eq_true]
  refine ⟨⟨⟨by omega, by omega⟩, fun hk => ?_⟩, fun d hd => ?_⟩
  · have q := keywords_look z hk
    rw [q] at look
    cases look
  · rw [e, List.mem_append, List.mem_singleton] at hd
    rcases hd with hd | rfl
    · exact six_letters d (h3 d hd)
    · exact ends_letters d hc
theorem ends_nodup : endsL.Nodup := by decide +kernel
theorem NameOk.inj {t u : Nat} {z : Str} (h : NameOk t z) (k : NameOk u z) : t = u := by
  obtain ⟨f, c, e, _, _, _, h4⟩ := h
  obtain ⟨f', c', e', _, _, _, k4⟩ := k
  rw [e] at e'
  have ec : c = c' := by
    have q := congrArg List.getLast? e'
    rw [List.getLast?_concat, List.getLast?_concat] at q
    exact Option.some.inj q
  subst ec
  exact nd_ix ends_nodup h4 k4
/-- the names of several turns -/
def NamesOk (zs : List Str) : Prop := ∀ i z, zs[i]? = some z → NameOk i z
theorem NamesOk.nodup {zs : List Str} (h : NamesOk zs) : zs.Nodup := by
  refine List.pairwise_iff_getElem.mpr fun i j hi hj hij e => ?_
  have a := List.getElem?_eq_getElem hj
  have b := h j _ a
  have c := h i _ (List.getElem?_eq_getElem hi)
  rw [e] at c
  exact absurd (c.inj b) (by omega)
theorem NamesOk.names {zs : List Str} (h : NamesOk zs) {z : Str} (m : z ∈ zs) : isName z = true := by
  obtain ⟨i, hi⟩ := List.mem_iff_getElem?.mp m
  exact (h i z hi).name
theorem NamesOk.snoc {zs : List Str} {z : Str} (h : NamesOk zs) (k : NameOk zs.length z) : NamesOk (zs ++ [z]) := fun i y e => by
  rw [List.getElem?_append] at e
  split at e
  · exact h i y e
  · rename_i hi
    rw [List.getElem?_singleton] at e
    split at e
    · cases e
      have : i = zs.length := by omega
      exact this ▸ k
    · cases e
end Lp

namespace Lp
open PySem PySem.Spec PyProof.Rows L2

/-! ### comprehensions whose turns leave all that stood -/
section
variable {J : It} {n : Nat} {G : Hp → Prop} {Y : Nat → Hp → V → Hp → Prop} {g : TG} {tt : TT} {te : TE} {vs : List Nat} {σ : L2.St} {H1 : Hp} {D : Addr} {Qd : Hp → Prop}
theorem lc_gen (w : Walk J n G Y) (r : Nat → List V) (r0 : r 0 = []) (rl : ∀ i, i < n → (r i).length ≤ 100000) (nD : H1 D = none) (hG : ∀ H', Same H1 H' → G H')
    (hs : ∀ (i : Nat) (x : V) (H2 H3 : Hp) (Ky : V → Hp → Prop) (Kn : Hp → Prop), i < n → Same H1 H2 → Y i H2 x H3 → (∀ y H4, Same H2 H4 → r (i + 1) = r i ++ [y] → Ky y H4) → (∀ H4, Same H2 H4 → r (i + 1) = r i → Kn H4) →
      g x (wipe σ vs) H3 fun σ2 H4 => wipe σ2 vs = wipe σ vs ∧ tt σ2 H4 fun b H5 => if b = true then te σ2 H5 Ky else Kn H5)
    (hd : ∀ H', Same H1 H' → H' D = some (.lst (r n)) → Qd H') :
    ∃ W : Nat → Nat → Hp → Prop, (∃ m, W 0 m (upd H1 D (.lst []))) ∧ ∀ i m H, W i m H →
      (J.stop i H ∧ Qd H) ∨ (J.go i H ∧ ∃ Nx : Hp → Prop, (∀ H', Nx H' → ∃ m', m' < m ∧ W (i + 1) m' H') ∧ ∀ x H', J.yld i H x H' → g x (wipe σ vs) H' fun σ2 H2 => wipe σ2 vs = wipe σ vs ∧ tt σ2 H2 fun b H3 =>
        if b = true then te σ2 H3 fun y H4 => ∃ acc, H4 D = some (.lst acc) ∧ acc.length < sizeLine ∧ Nx (upd H4 D (.lst (acc ++ [y]))) else Nx H3) := by
  refine lc_it w (fun i H' => Same H1 H' ∧ H' D = some (.lst (r i))) ⟨same_upd nD, by rw [upd_same, r0]⟩ (fun i H' _ p => hG H' p.1) (fun i x H2 H3 hi p y => ?_) (fun H' p => hd H' p.1 p.2)
  obtain ⟨sm, hD⟩ := p
  refine hs i x H2 H3 _ _ hi sm y (fun v H4 s4 e => ⟨r i, s4 D _ hD, Nat.lt_of_le_of_lt (rl i hi) (by decide), same_put (sm.trans s4) nD, ?_⟩) (fun H4 s4 e => ⟨sm.trans s4, ?_⟩)
  · rw [upd_same, e]
  · rw [e]
    exact s4 D _ hD
/-- over values that are known: f tells which give, v what -/
theorem lc_vals {vals : List V} (w : Walk J vals.length G (YAt vals)) (f : V → Bool) (v : V → V) (few : vals.length ≤ 100000) (nD : H1 D = none) (hG : ∀ H', Same H1 H' → G H')
    (hs : ∀ (x : V) (H2 : Hp) (Ky : V → Hp → Prop) (Kn : Hp → Prop), x ∈ vals → Same H1 H2 → (∀ H4, Same H2 H4 → f x = true → Ky (v x) H4) → (∀ H4, Same H2 H4 → f x = false → Kn H4) →
      g x (wipe σ vs) H2 fun σ2 H4 => wipe σ2 vs = wipe σ vs ∧ tt σ2 H4 fun b H5 => if b = true then te σ2 H5 Ky else Kn H5)
    (hd : ∀ H', Same H1 H' → H' D = some (.lst ((vals.filter f).map v)) → Qd H') :
    ∃ W : Nat → Nat → Hp → Prop, (∃ m, W 0 m (upd H1 D (.lst []))) ∧ ∀ i m H, W i m H →
      (J.stop i H ∧ Qd H) ∨ (J.go i H ∧ ∃ Nx : Hp → Prop, (∀ H', Nx H' → ∃ m', m' < m ∧ W (i + 1) m' H') ∧ ∀ x H', J.yld i H x H' → g x (wipe σ vs) H' fun σ2 H2 => wipe σ2 vs = wipe σ vs ∧ tt σ2 H2 fun b H3 =>
        if b = true then te σ2 H3 fun y H4 => ∃ acc, H4 D = some (.lst acc) ∧ acc.length < sizeLine ∧ Nx (upd H4 D (.lst (acc ++ [y]))) else Nx H3) := by
  refine lc_gen w (fun i => ((vals.take i).filter f).map v) rfl (fun i hi => ?_) nD hG (fun i x H2 H3 Ky Kn hi sm y k1 k0 => ?_) (fun H' sm e => hd H' sm ?_)
  · rw [List.length_map]
    have := List.length_filter_le f (vals.take i)
    rw [List.length_take] at this
    omega
  · obtain ⟨rfl, hx⟩ := y
    have tk : vals.take (i + 1) = vals.take i ++ [x] := by
      rw [List.take_add_one, hx]
      rfl
    refine hs x H3 Ky Kn (List.mem_of_getElem? hx) sm (fun H4 s4 e => k1 _ H4 s4 ?_) (fun H4 s4 e => k0 H4 s4 ?_)
    · show ((vals.take (i + 1)).filter f).map v = _
      rw [tk, List.filter_append, List.map_append, List.filter_cons, if_pos e]
      rfl
    · show ((vals.take (i + 1)).filter f).map v = _
      rw [tk, List.filter_append, List.map_append, List.filter_cons, if_neg (by rw [e]; exact Bool.false_ne_true)]
      show _ ++ [] = _
      rw [List.append_nil]
  · rw [e]
    show some (HO.lst (((vals.take vals.length).filter f).map v)) = _
    rw [List.take_length]
end
/-- the signs of a text, as values -/
def signs (z : Str) : List V := (cs z).map fun c => .str ⟨#[c]⟩
theorem signs_len (z : Str) : (signs z).length = (cs z).length := List.length_map _
theorem walk_signs {z : Str} : Walk (Its z) (signs z).length (fun _ => True) (YAt (signs z)) := by
  have w := walk_str (z := z)
  have e : z.cps.size = (signs z).length := by
    rw [signs_len, Array.length_toList]
  rw [e] at w
  refine w.mono (fun _ h => h) fun i H x H' hi _ y => ⟨y.1, ?_⟩
  obtain ⟨c, hc, rfl⟩ := y.2
  unfold signs
  rw [List.getElem?_map, Array.getElem?_toList, hc]
  rfl
/-- the numbers of a range, as values -/
def upto (n : Nat) : List V := (List.range n).map fun i : Nat => V.int (i : Int)
theorem upto_len (n : Nat) : (upto n).length = n := by
  unfold upto
  rw [List.length_map, List.length_range]
theorem walk_upto {n : Nat} : Walk (Itr 0 n) (upto n).length (fun _ => True) (YAt (upto n)) := by
  have w := walk_range (lo := 0) (n := n)
  rw [upto_len]
  refine w.mono (fun _ h => h) fun i H x H' hi _ y => ⟨y.1, ?_⟩
  rw [y.2]
  show (upto n)[i]? = some (V.int ((0 : Int) + (i : Int)))
  rw [Int.zero_add]
  unfold upto
  rw [List.getElem?_map, List.getElem?_range hi]
  rfl
end Lp
namespace Lp
open PySem PySem.Spec PyProof.Rows L2
/-! ### plain data -/
def Dat (H : Hp) : V → Prop
  | .non => True
  | .bl _ => True
  | .int _ => True
  | .str z => z.length ≤ 100000
  | .ref a => (∃ xs, H a = some (.lst xs)) ∨ (∃ xs, H a = some (.tup xs)) ∨ ∃ kvs, H a = some (.dK kvs)
  | _ => False
def nameV : V → Bool
  | .str z => isName z
  | _ => false
theorem Dat.same {H H' : Hp} {v : V} (k : Same H H') (d : Dat H v) : Dat H' v := by
  cases v with
  | ref a =>
    rcases d with ⟨xs, e⟩ | ⟨xs, e⟩ | ⟨xs, e⟩
    · exact .inl ⟨xs, k _ _ e⟩
    · exact .inr (.inl ⟨xs, k _ _ e⟩)
    · exact .inr (.inr ⟨xs, k _ _ e⟩)
  | _ => exact d
theorem dat_not_str {K : PySem.W.Frag} {H : Hp} {v : V} (d : Dat H v) (h : ¬ ∃ z, v = .str z) : ∃ t, TyX K H v (.type t) ∧ PySem.W.kitOne K (.type t) (.type "str") = some false := by
  cases v with
  | non => exact ⟨_, .base .non, kit_ty (by decide +kernel)⟩
  | bl b => exact ⟨_, .base (.bl b), kit_ty (by decide +kernel)⟩
  | int i => exact ⟨_, .base (.int i), kit_ty (by decide +kernel)⟩
  | str z => exact absurd ⟨z, rfl⟩ h
  | ref a =>
    rcases d with ⟨xs, e⟩ | ⟨xs, e⟩ | ⟨xs, e⟩
    · exact ⟨_, .base (.lst e), kit_ty (by decide +kernel)⟩
    · exact ⟨_, .base (.tup e), kit_ty (by decide +kernel)⟩
    · exact ⟨_, .base (.dK e), kit_ty (by decide +kernel)⟩
  | byt b => exact False.elim d
  | flt b => exact False.elim d
  | ty n => exact False.elim d
theorem dat_not_tup {K : PySem.W.Frag} {H : Hp} {v : V} (d : Dat H v) (h : ¬ ∃ a xs, v = .ref a ∧ H a = some (.tup xs)) : ∃ t, TyX K H v (.type t) ∧ PySem.W.kitOne K (.type t) (.type "tuple") = some false := by
  cases v with
  | non => exact ⟨_, .base .non, kit_ty (by decide +kernel)⟩
  | bl b => exact ⟨_, .base (.bl b), kit_ty (by decide +kernel)⟩
  | int i => exact ⟨_, .base (.int i), kit_ty (by decide +kernel)⟩
  | str z => exact ⟨_, .base (.str z), kit_ty (by decide +kernel)⟩
  | ref a =>
    rcases d with ⟨xs, e⟩ | ⟨xs, e⟩ | ⟨xs, e⟩
    · exact ⟨_, .base (.lst e), kit_ty (by decide +kernel)⟩
    · exact absurd ⟨a, xs, rfl, e⟩ h
    · exact ⟨_, .base (.dK e), kit_ty (by decide +kernel)⟩
  | byt b => exact False.elim d
  | flt b => exact False.elim d
  | ty n => exact False.elim d
/-- in, of a text among texts -/
theorem inV_strs (z : Str) (ks : List Str) : inV (.str z) (ks.map V.str) = decide (z ∈ ks) := by
  unfold inV
  rw [List.any_map]
  induction ks with
  | nil => rfl
  | cons k r ih =>
    rw [List.any_cons, ih]
    show ((k == z) || decide (z ∈ r)) = decide (z ∈ k :: r)
    by_cases e : k = z
    · subst e
      simp
    · have e2 : (k == z) = false := beq_eq_false_iff_ne.mpr e
      rw [e2, Bool.false_or]
      exact decide_eq_decide.mpr ⟨fun h => List.mem_cons_of_mem _ h, fun h => (List.mem_cons.mp h).resolve_left fun q => e q.symm⟩
theorem bools_all {xs : List V} {f : V → Bool} : ((xs.filter fun _ => true).map fun x => V.bl (f x)) = (xs.map f).map V.bl := by
  rw [List.filter_eq_self.mpr fun _ _ => rfl, List.map_map]
  rfl
theorem strs_all_flat (zs : List Str) : (zs.map V.str).all flatV = true := by
  rw [List.all_map]
  exact List.all_eq_true.mpr fun _ _ => rfl
def letterV : V → Bool
  | .str y => (cs y).all fun c => decide (c ∈ lettersL)
  | _ => false
theorem letterV_one (c : Nat) : letterV (.str ⟨#[c]⟩) = decide (c ∈ lettersL) := by
  show (cs ⟨#[c]⟩).all (fun c => decide (c ∈ lettersL)) = _
  rw [cs_one]
  simp
theorem letters_all (z : Str) : ((signs z).map letterV).all id = (cs z).all fun c => decide (c ∈ lettersL) := by
  unfold signs
  rw [List.map_map, List.all_map]
  congr 1
  funext c
  exact letterV_one c
/-- whether values are different names -/
def DiffOk (xs : List V) : Prop := ∃ zs : List Str, xs = zs.map V.str ∧ (∀ z ∈ zs, isName z = true) ∧ zs.Nodup
theorem all_names : ∀ {xs : List V}, (xs.map nameV).all id = true → ∃ zs : List Str, xs = zs.map V.str ∧ ∀ z ∈ zs, isName z = true
  | [], _ => ⟨[], rfl, fun _ h => nomatch h⟩
  | x :: r, h => by
    rw [List.map_cons, List.all_cons, Bool.and_eq_true] at h
    obtain ⟨zs, rfl, hz⟩ := all_names h.2
    cases x with
    | str z =>
      refine ⟨z :: zs, rfl, fun y hy => ?_⟩
      rcases List.mem_cons.mp hy with rfl | hy
      · exact h.1
      · exact hz y hy
    | _ => exact absurd (show false = true from h.1) Bool.false_ne_true
theorem names_all {zs : List Str} (h : ∀ z ∈ zs, isName z = true) : ((zs.map V.str).map nameV).all id = true := by
  rw [List.map_map, List.all_map]
  exact List.all_eq_true.mpr fun z hz => h z hz
theorem strs_inj : ∀ {a b : List Str}, a.map V.str = b.map V.str → a = b
  | [], [], _ => rfl
  | [], _ :: _, h => nomatch h
  | _ :: _, [], h => nomatch h
  | x :: r, y :: t, h => by
    rw [List.map_cons, List.map_cons] at h
    injection h with h1 h2
    injection h1 with h1
    rw [h1, strs_inj h2]
theorem nodup_inr {zs : List Str} : (zs.map (Sum.inr : Str → Key)).Nodup ↔ zs.Nodup := by
  unfold List.Nodup
  rw [List.pairwise_map]
  constructor
  · exact fun h => h.imp fun n e => n (congrArg _ e)
  · exact fun h => h.imp fun n e => n (Sum.inr.inj e)
end Lp

namespace Lp
open PySem PySem.Spec PyProof.Rows L2

/-! ### == of lists of texts, of lists of truths -/
def lowS (z : Str) : Prop := ∀ c ∈ cs z, c < 1114112
theorem lowS.ok {z : Str} (h : lowS z) : PyData.strOk z = true := by
  unfold PyData.strOk
  rw [Array.all_eq_true']
  intro c hc
  exact decide_eq_true (h c (Array.mem_toList_iff.mpr hc))
theorem letters_low : ∀ c ∈ lettersL, c < 1114112 := by decide +kernel
theorem name_low {z : Str} (h : isName z = true) : lowS z := by
  unfold isName at h
  simp only [Bool.and_eq_true, List.all_eq_true, decide_eq_true_eq] at h
  exact fun c hc => letters_low c (h.2 c hc)
theorem dp_strs {K : PySem.W.Frag} {H : Hp} : ∀ zs : List Str, DpAll K H (zs.map V.str) (zs.map PyData.str)
  | [] => .nil
  | z :: r => .cons (.str z) (dp_strs r)
theorem dp_bools {K : PySem.W.Frag} {H : Hp} : ∀ zs : List Bool, DpAll K H (zs.map V.bl) (zs.map PyData.bool)
  | [] => .nil
  | z :: r => .cons (.bl z) (dp_bools r)
theorem lay_strs : ∀ {zs : List Str}, (∀ z ∈ zs, lowS z) → PyData.canLayAll0 (zs.map PyData.str) = true ∧ PyData.depthAll (zs.map PyData.str) = 0
  | [], _ => ⟨rfl, rfl⟩
  | z :: r, h => by
    have ih := lay_strs (zs := r) fun y hy => h y (List.mem_cons_of_mem _ hy)
    have hz := (h z List.mem_cons_self).ok
    rw [List.map_cons]
    refine ⟨?_, ?_⟩
    · show (PyData.canLay0 (.str z) && PyData.canLayAll0 _) = true
      rw [ih.1, Bool.and_true]
      exact hz
    · show max (PyData.depth (.str z)) (PyData.depthAll _) = 0
      rw [ih.2]
      rfl
theorem lay_bools : ∀ (zs : List Bool), PyData.canLayAll0 (zs.map PyData.bool) = true ∧ PyData.depthAll (zs.map PyData.bool) = 0
  | [] => ⟨rfl, rfl⟩
  | z :: r => by
    have ih := lay_bools r
    rw [List.map_cons]
    refine ⟨?_, ?_⟩
    · show (PyData.canLay0 (.bool z) && PyData.canLayAll0 _) = true
      rw [ih.1, Bool.and_true]
      rfl
    · show max (PyData.depth (.bool z)) (PyData.depthAll _) = 0
      rw [ih.2]
      rfl
theorem shaped_of {ds : List PyData} (h : PyData.canLayAll0 ds = true ∧ PyData.depthAll ds = 0) : SeqAt.shaped (.list ds) = true ∧ SeqAt.shaped (.tuple ds) = true := by
  constructor
  · show (PyData.canLayAll0 ds && decide (PyData.depthAll ds + 1 ≤ 64)) = true
    rw [h.1, h.2]
    rfl
  · show (PyData.canLayAll0 ds && decide (PyData.depthAll ds + 1 ≤ 64)) = true
    rw [h.1, h.2]
    rfl
theorem eqv_strs : ∀ (zs ws : List Str), PyData.eqvAll (zs.map PyData.str) (ws.map PyData.str) = decide (zs = ws)
  | [], [] => rfl
  | [], _ :: _ => rfl
  | _ :: _, [] => rfl
  | x :: r, y :: t => by
    show (PyData.eqv (.str x) (.str y) && PyData.eqvAll (r.map PyData.str) (t.map PyData.str)) = _
    rw [eqv_strs r t]
    show ((x == y) && decide (r = t)) = _
    by_cases e : x = y
    · subst e
      rw [beq_self_eq_true, Bool.true_and]
      exact decide_eq_decide.mpr ⟨fun h => by rw [h], fun h => (List.cons.inj h).2⟩
    · rw [beq_eq_false_iff_ne.mpr e, Bool.false_and]
      exact (decide_eq_false fun h => e (List.cons.inj h).1).symm
theorem eqv_bools : ∀ (zs ws : List Bool), PyData.eqvAll (zs.map PyData.bool) (ws.map PyData.bool) = decide (zs = ws)
  | [], [] => rfl
  | [], _ :: _ => rfl
  | _ :: _, [] => rfl
  | x :: r, y :: t => by
    show (PyData.eqv (.bool x) (.bool y) && PyData.eqvAll (r.map PyData.bool) (t.map PyData.bool)) = _
    rw [eqv_bools r t]
    show ((x == y) && decide (r = t)) = _
    by_cases e : x = y
    · subst e
      rw [beq_self_eq_true, Bool.true_and]
      exact decide_eq_decide.mpr ⟨fun h => by rw [h], fun h => (List.cons.inj h).2⟩
    · rw [beq_eq_false_iff_ne.mpr e, Bool.false_and]
      exact (decide_eq_false fun h => e (List.cons.inj h).1).symm
section
variable {K : PySem.W.Frag} {H : Hp} {a b : Addr} {Q : VK}
theorem eq_strsL {zs ws : List Str} (ha : SqL K H a (zs.map V.str)) (hb : SqL K H b (ws.map V.str)) (la : ∀ z ∈ zs, lowS z) (lb : ∀ z ∈ ws, lowS z) (q : Q (.bl (decide (zs = ws))) H) : rEqD K (.ref a) (.ref b) H Q :=
  ⟨_, _, .lst ha (dp_strs zs), .lst hb (dp_strs ws), (shaped_of (lay_strs la)).1, (shaped_of (lay_strs lb)).1, by rw [show PyData.eqv (.list (zs.map PyData.str)) (.list (ws.map PyData.str)) = _ from eqv_strs zs ws]; exact q⟩
theorem ne_strsL {zs ws : List Str} (ha : SqL K H a (zs.map V.str)) (hb : SqL K H b (ws.map V.str)) (la : ∀ z ∈ zs, lowS z) (lb : ∀ z ∈ ws, lowS z) (q : Q (.bl (!decide (zs = ws))) H) : rNeD K (.ref a) (.ref b) H Q :=
  ⟨_, _, .lst ha (dp_strs zs), .lst hb (dp_strs ws), (shaped_of (lay_strs la)).1, (shaped_of (lay_strs lb)).1, by rw [show PyData.eqv (.list (zs.map PyData.str)) (.list (ws.map PyData.str)) = _ from eqv_strs zs ws]; exact q⟩
theorem eq_boolsL {zs ws : List Bool} (ha : SqL K H a (zs.map V.bl)) (hb : SqL K H b (ws.map V.bl)) (q : Q (.bl (decide (zs = ws))) H) : rEqD K (.ref a) (.ref b) H Q :=
  ⟨_, _, .lst ha (dp_bools zs), .lst hb (dp_bools ws), (shaped_of (lay_bools zs)).1, (shaped_of (lay_bools ws)).1, by rw [show PyData.eqv (.list (zs.map PyData.bool)) (.list (ws.map PyData.bool)) = _ from eqv_bools zs ws]; exact q⟩
theorem ne_boolsL {zs ws : List Bool} (ha : SqL K H a (zs.map V.bl)) (hb : SqL K H b (ws.map V.bl)) (q : Q (.bl (!decide (zs = ws))) H) : rNeD K (.ref a) (.ref b) H Q :=
  ⟨_, _, .lst ha (dp_bools zs), .lst hb (dp_bools ws), (shaped_of (lay_bools zs)).1, (shaped_of (lay_bools ws)).1, by rw [show PyData.eqv (.list (zs.map PyData.bool)) (.list (ws.map PyData.bool)) = _ from eqv_bools zs ws]; exact q⟩
end
end Lp
namespace Lp
open PySem PySem.Spec PyProof.Rows L2
/-- zs[:i] -/
theorem cut_to (zs : List Str) (i : Nat) : cutV (zs.map V.str) none (some (i : Int)) = (zs.take i).map V.str := by
  unfold cutV
  rw [HT.sIx_none, HT.sIx_nat, List.drop_zero, Nat.sub_zero, List.map_take, Nat.min_def]
  split
  · rfl
  · rw [List.take_length, List.take_of_length_le (by omega)]
end Lp
namespace Lp
open PySem PySem.Spec PyProof.Rows L2
theorem cut_strs (zs : List Str) (lo hi : Option Int) : ∃ ws : List Str, cutV (zs.map V.str) lo hi = ws.map V.str ∧ (∀ w ∈ ws, w ∈ zs) ∧ ws.length ≤ zs.length := by
  refine ⟨(zs.drop (HT.sIx (zs.map V.str).length 0 lo)).take (HT.sIx (zs.map V.str).length (zs.map V.str).length hi - HT.sIx (zs.map V.str).length 0 lo), ?_, fun w hw => List.mem_of_mem_drop (List.mem_of_mem_take hw), ?_⟩
  · unfold cutV
    rw [List.map_take, List.map_drop]
  · rw [List.length_take, List.length_drop]
    omega
end Lp

namespace Lp
open PySem PySem.Spec PyProof.Rows L2

/-! ### t[::-1] of a tuple -/
section
variable {prog : Program} {w : World} {A : Around} {E : Value → Shared → Prop} {s : Shared}
theorem apply_back {sl : Addr} {vk : Value} {n : Nat} {Q : Int × Int × Nat → Shared → Prop} (here : s.heap.IsSliceOf sl .none .none vk) (pk : IsPart vk (some (-1))) (q : Q (((n : Nat) : Int) - 1, -1, n) s) :
    wpAny (model prog w) A (Builtin.Slice.sliceApplied (.ref sl) (pure (n : Int))) Q E s := by
  obtain ⟨o, ho, _, hd⟩ := here
  unfold Builtin.Slice.sliceApplied Builtin.Slice.sliceFields
  refine wpAny_bind (wpAny_bind (wpAny_field ho hd (x := .none) rfl (wpAny_bind (wpAny_field ho hd (x := .none) rfl (wpAny_bind (wpAny_field ho hd (x := vk) rfl (wpAny_pure (?_ : _))))))))
  refine wpAny_bind (HT.slicePart_ pk (?_ : _))
  show wpAny _ _ (if ((-1 : Int) == 0) = true then _ else _) _ _ s
  rw [if_neg (by decide)]
  refine wpAny_bind (HT.slicePart_ .none (wpAny_bind (HT.slicePart_ .none (wpAny_bind (wpAny_pure (?_ : _))))))
  have places : Builtin.Slice.slicePlaces ((n : Int) - 1) (-1) (-1) = n := by
    unfold Builtin.Slice.slicePlaces
    rw [if_neg (by decide)]
    by_cases h : (n : Int) - 1 > -1
    · rw [if_pos h, show (- -1 : Int) = 1 by decide, Int.ediv_one]
      omega
    · rw [if_neg h]
      show (0 : Int).toNat = n
      omega
  show wpAny _ _ (pure ((n : Int) - 1, (-1 : Int), Builtin.Slice.slicePlaces ((n : Int) - 1) (-1) (-1))) _ _ s
  rw [places]
  exact wpAny_pure q
theorem pick_back (xs : Array Value) : ((List.range xs.size).filterMap fun (m : Nat) => xs[((xs.size : Int) - 1 + (m : Int) * -1).toNat]?).toArray = xs.toList.reverse.toArray := by
  have e1 : (List.range xs.size).filterMap (fun (m : Nat) => xs[((xs.size : Int) - 1 + (m : Int) * -1).toNat]?) = ((List.range xs.size).map fun k => xs.size - 1 - k).filterMap (xs[·]?) := by
    rw [List.filterMap_map]
    congr 1
    funext m
    have e2 : ((xs.size : Int) - 1 + (m : Int) * -1).toNat = xs.size - 1 - m := by omega
    rw [e2]
    rfl
  rw [e1, PySem.W.krv_range, List.filterMap_reverse, PySem.W.krv_all]
theorem item_back {t sl : Addr} {items : Array Value} {vk : Value} {Q : Value → Shared → Prop} (ht : IsTup s.heap t items) (here : s.heap.IsSliceOf sl .none .none vk) (pk : IsPart vk (some (-1))) (small : items.size ≤ sizeLine)
    (q : Q (.ref s.heap.objs.size) { s with heap := s.heap.push { cls := .type "tuple", data := .seq items.toList.reverse.toArray } }) : wpAny (model prog w) A (getItem (.ref t) (.ref sl)) Q E s := by
  obtain ⟨o, ho, hc, _⟩ := id here
  have ty : s.TypeIs (.ref sl) "slice" := ⟨o, ho, hc⟩
  have fits : sizeOk (.seq items.toList.reverse.toArray) := by
    show items.toList.reverse.toArray.size ≤ sizeLine
    rw [List.size_toArray, List.length_reverse, Array.length_toList]
    exact small
  unfold getItem
  refine wpAny_holding (?_ : _)
  refine wpAny_bind (wpAny_sequenceKey ht.typeIs (by decide) (?_ : _))
  refine wpAny_bind (wpAny_callSpecial?_slot (name := Str.ofString "__getitem__") ht.typeIs PyProof.Rows.slot_tuple_getitem (wpAny_call_entry PyProof.Rows.slot_tuple_getitem ht.typeIs entry_tuple_getitem (?_ : _) (args_tuple_getitem _ _)))
  show wpAny _ _ (Builtin.Tuple.tupleItemsOf (Value.ref t) >>= _) _ _ s
  refine wpAny_bind (tupleItemsOf_ ht (?_ : _))
  refine wpAny_bind (wpAny_typeOf ty (?_ : _))
  rw [if_pos (by decide)]
  refine wpAny_bind (apply_back here pk (?_ : _))
  show wpAny _ _ (if (((items.size : Int) - 1) == 0 && (-1 : Int) == 1 && items.size == items.size) = true then _ else _) _ _ s
  rw [if_neg (by simp), pick_back]
  first
    | exact wpAny_bind (m := Builtin.Tuple.tupleExact _) (wpAny_newObj_type (wpAny_pure ⟨_, rfl, wpAny_pure q⟩) fits)
    | exact wpAny_bind (m := Builtin.Tuple.tupleExact _) (wpAny_newObj_type (wpAny_bind (wpAny_pure (wpAny_pure ⟨_, rfl, wpAny_pure q⟩))) fits)
    | exact wpAny_bind (wpAny_bind (m := Builtin.Tuple.tupleExact _) (wpAny_newObj_type (wpAny_pure (wpAny_pure ⟨_, rfl, wpAny_pure q⟩)) fits))
    | exact wpAny_bind (wpAny_bind (m := Builtin.Tuple.tupleExact _) (wpAny_newObj_type (wpAny_pure ⟨_, rfl, wpAny_pure q⟩) fits))
end
section
variable {X : Cx}
def tRevT (K : PySem.W.Frag) (te : TE) : TE := fun σ H Q => te σ H fun x H1 => ∃ a xs, x = .ref a ∧ SqT K H1 a xs ∧ ∀ p, H1 p = none → Q (.ref p) (upd H1 p (.tup xs.reverse))
theorem pe_revT {e : Expr} {te : TE} {k : Nat} {p1 p2 p3 pos : Pos} (he : PE X e te) : PE X (.Subscript e (.Slice none none (some (.UnaryOp .USub (.Constant (.int 1) k p1) p2)) p3) pos) (tRevT X.K te) := by
  refine ⟨fun pins s σ H Q I h => ?_⟩
  refine Subscript_ (thn (he.run pins s σ H _ I h) fun v s1 ⟨x, H1, I1, r1, q1⟩ => ?_)
  obtain ⟨a, xs, rfl, hx, q⟩ := q1
  cases r1
  have back : PO X (some (.UnaryOp .USub (.Constant (.int 1) k p1) p2)) (tPart (tUn (rU fun i => .int (-i)) (tC (.int 1)))) := po_some (pe_un un_neg pe_int)
  refine wpAny_Slice (thn (po_none.run pins s1 σ H1 (fun o H2 => o = none ∧ H2 = H1) I1 ⟨rfl, rfl⟩) fun vl s2 ⟨l, H2, I2, pl, el, e2⟩ => (?_ : _))
  subst el
  subst e2
  refine thn (po_none.run pins s2 σ H2 (fun o H3 => o = none ∧ H3 = H2) I2 ⟨rfl, rfl⟩) fun vu s3 ⟨u, H3, I3, pu, eu, e3⟩ => (?_ : _)
  subst eu
  subst e3
  refine thn (back.run pins s3 σ H3 (fun o H4 => o = some (-1) ∧ H4 = H3) I3 ⟨1, rfl, -1, rfl, rfl, rfl⟩) fun vs s4 ⟨o, H4, I4, ps, eo, e4⟩ => (?_ : _)
  subst eo
  subst e4
  cases pl
  cases pu
  have I5 : Inv X pins σ H4 { s4 with heap := s4.heap.push { cls := .type "slice", data := .fields #[.none, .none, vs] } } := I4.kept (t' := s4.toks) fun b ob z => Heap.get?_push_of_some _ z
  obtain ⟨its, r, ht, hz⟩ := I5.tuple hx
  have len := r.length
  show wpAny (model X.prog X.w) X.A (subscriptTail e (.Slice none none (some (.UnaryOp .USub (.Constant (.int 1) k p1) p2)) p3) (.ref a) (.ref s4.heap.objs.size)) (EP X pins σ Q) X.xe
    { s4 with heap := s4.heap.push { cls := .type "slice", data := .fields #[.none, .none, vs] } }
  refine tail_any (ops := [.ref a, .ref s4.heap.objs.size]) ht.typeIs PyProof.Rows.slot_tuple_getitem.lookup (?_ : _) (by with_unfolding_all rfl)
  refine item_back ht (Heap.IsSliceOf.new _ .none .none vs) ps (by rw [List.size_toArray]; omega) (?_ : _)
  refine ⟨.ref _, _, I5.laid (t' := s4.toks) (o := .tup xs.reverse) (fun b ob z => Heap.get?_push_of_some _ z) (Nat.le_refl _) (?_ : _), rfl, q _ (I5.hok.fresh (Nat.le_refl _))⟩
  exact ⟨by rw [List.length_reverse]; exact hz, its.reverse, r.reverse, ⟨_, Heap.get?_push_size _ rfl, rfl, 0, by simp⟩⟩
end
end Lp

namespace Lp
open PySem PySem.Spec PyProof.Rows L2

/-! ### texts of ASCII signs, of at most n -/
def Asc (n : Nat) (z : Str) : Prop := z.length ≤ n ∧ ∀ c ∈ cs z, c < 128
theorem Asc.mono {n m : Nat} {z : Str} (h : Asc n z) (k : n ≤ m) : Asc m z := ⟨Nat.le_trans h.1 k, h.2⟩
theorem Asc.low {n : Nat} {z : Str} (h : Asc n z) : lowS z := fun c hc => Nat.lt_trans (h.2 c hc) (by decide)
theorem Asc.cut {n : Nat} {z : Str} (h : Asc n z) (lo hi : Option Int) : Asc n (cutS z lo hi) := by
  refine ⟨Nat.le_trans (cutS_length z lo hi) h.1, fun c hc => ?_⟩
  unfold cutS at hc
  rw [cs_mk] at hc
  exact h.2 c (List.mem_of_mem_drop (List.mem_of_mem_take hc))
theorem Asc.app {n m : Nat} {x y : Str} (h : Asc n x) (k : Asc m y) : Asc (n + m) (x ++ y) := by
  refine ⟨?_, fun c hc => ?_⟩
  · have a := h.1
    have b := k.1
    rw [cs_len] at a b ⊢
    rw [cs_app, List.length_append]
    omega
  · rw [cs_app] at hc
    rcases List.mem_append.mp hc with hc | hc
    · exact h.2 c hc
    · exact k.2 c hc
theorem Asc.rep {n : Nat} {z : Str} (h : Asc n z) (k : Nat) : Asc (k * n) (txtRep z k) := by
  refine ⟨?_, fun c hc => ?_⟩
  · have a := h.1
    rw [cs_len] at a ⊢
    rw [cs_rep]
    simp only [List.length_flatten, List.map_replicate, List.sum_replicate_nat]
    exact Nat.mul_le_mul_left k a
  · rw [cs_rep] at hc
    obtain ⟨l, hl, hc⟩ := List.mem_flatten.mp hc
    rw [(List.mem_replicate.mp hl).2] at hc
    exact h.2 c hc
/-- a text backward -/
def revS (z : Str) : Str := ⟨(cs z).reverse.toArray⟩
theorem cs_revS (z : Str) : cs (revS z) = (cs z).reverse := rfl
theorem Asc.rev {n : Nat} {z : Str} (h : Asc n z) : Asc n (revS z) := by
  refine ⟨?_, fun c hc => h.2 c (List.mem_reverse.mp hc)⟩
  have a := h.1
  rw [cs_len] at a ⊢
  rw [cs_revS, List.length_reverse]
  exact a
theorem up1_low : ∀ c, c < 128 → up1 c < 128 := by decide +kernel
theorem Asc.up {n : Nat} {z : Str} (h : Asc n z) : Asc n (Txt.upper z) := by
  rw [upper_ascii h.2]
  refine ⟨?_, fun c hc => ?_⟩
  · show (z.cps.map up1).size ≤ n
    rw [Array.size_map]
    exact h.1
  · have hc : c ∈ (z.cps.map up1).toList := hc
    rw [Array.toList_map] at hc
    obtain ⟨d, hd, rfl⟩ := List.mem_map.mp hc
    exact up1_low d (h.2 d hd)
theorem Asc.one {c : Nat} (h : c < 128) : Asc 1 ⟨#[c]⟩ := ⟨Nat.le_refl _, fun d hd => by
  rw [cs_one, List.mem_singleton] at hd
  exact hd ▸ h⟩
theorem letters_asc : ∀ c ∈ lettersL, c < 128 := by decide +kernel
theorem name_size {z : Str} (h : isName z = true) : 1 ≤ z.length ∧ z.length ≤ 8 := by
  unfold isName at h
  simp only [Bool.and_eq_true, decide_eq_true_eq] at h
  exact ⟨h.1.1.1, h.1.1.2⟩
theorem name_asc {z : Str} (h : isName z = true) : Asc 8 z := by
  refine ⟨(name_size h).2, ?_⟩
  unfold isName at h
  simp only [Bool.and_eq_true, List.all_eq_true, decide_eq_true_eq] at h
  exact fun c hc => letters_asc c (h.2 c hc)
/-- a written text -/
theorem asc_by {n : Nat} {z : Str} (h : (decide (z.length ≤ n) && (cs z).all fun c => decide (c < 128)) = true) : Asc n z := by
  rw [Bool.and_eq_true, List.all_eq_true] at h
  exact ⟨of_decide_eq_true h.1, fun c hc => of_decide_eq_true (h.2 c hc)⟩

/-! ### s[::-1] of a text -/
section
variable {X : Cx}
theorem back_revS (z : Str) (u : Tok) : Txt.sliceBy z none none (-1, u) = revS z := by
  apply cs_ext
  rw [cs_revS]
  show (Txt.sliceBy z none none (-1, u)).cps.toList = _
  rw [step_rev_list]
  apply List.ext_getElem
  · rw [List.length_map, List.length_range, List.length_reverse, cs_len]
  · intro i h1 h2
    rw [List.getElem_map, List.getElem_range, List.getElem_reverse]
    have lt : i < (cs z).length := by
      rw [List.length_reverse] at h2
      exact h2
    have b : z.length - 1 - i < z.cps.size := by
      have := cs_len z
      have e : z.cps.size = z.length := rfl
      omega
    rw [← Array.getElem_eq_getD 0 (h := b), ← Array.getElem_toList]
    congr 1
def tRevS (te : TE) : TE := fun σ H Q => te σ H fun x H1 => ∃ z, x = .str z ∧ z.length ≤ sizeLine ∧ Q (.str (revS z)) H1
theorem pe_revS {e : Expr} {te : TE} {k : Nat} {p1 p2 p3 pos : Pos} (he : PE X e te) : PE X (.Subscript e (.Slice none none (some (.UnaryOp .USub (.Constant (.int 1) k p1) p2)) p3) pos) (tRevS te) := by
  refine ⟨fun pins s σ H Q I h => ?_⟩
  refine Subscript_ (thn (he.run pins s σ H _ I h) fun v s1 ⟨x, H1, I1, r1, q1⟩ => ?_)
  obtain ⟨z, rfl, small, q⟩ := q1
  obtain ⟨t, rfl⟩ := r1
  have back : PO X (some (.UnaryOp .USub (.Constant (.int 1) k p1) p2)) (tPart (tUn (rU fun i => .int (-i)) (tC (.int 1)))) := po_some (pe_un un_neg pe_int)
  refine wpAny_Slice (thn (po_none.run pins s1 σ H1 (fun o H2 => o = none ∧ H2 = H1) I1 ⟨rfl, rfl⟩) fun vl s2 ⟨l, H2, I2, pl, el, e2⟩ => (?_ : _))
  subst el
  subst e2
  refine thn (po_none.run pins s2 σ H2 (fun o H3 => o = none ∧ H3 = H2) I2 ⟨rfl, rfl⟩) fun vu s3 ⟨u, H3, I3, pu, eu, e3⟩ => (?_ : _)
  subst eu
  subst e3
  refine thn (back.run pins s3 σ H3 (fun o H4 => o = some (-1) ∧ H4 = H3) I3 ⟨1, rfl, -1, rfl, rfl, rfl⟩) fun vs s4 ⟨o, H4, I4, ps, eo, e4⟩ => (?_ : _)
  subst eo
  subst e4
  cases pl
  cases pu
  obtain ⟨uk, rfl⟩ : ∃ uk, vs = .int (-1) uk := by
    cases ps
    exact ⟨_, rfl⟩
  have I5 : Inv X pins σ H4 { s4 with heap := s4.heap.push { cls := .type "slice", data := .fields #[.none, .none, .int (-1) uk] } } := I4.kept (t' := s4.toks) fun b ob y => Heap.get?_push_of_some _ y
  show wpAny (model X.prog X.w) X.A (subscriptTail e (.Slice none none (some (.UnaryOp .USub (.Constant (.int 1) k p1) p2)) p3) (.str z t) (.ref s4.heap.objs.size)) (EP X pins σ Q) X.xe
    { s4 with heap := s4.heap.push { cls := .type "slice", data := .fields #[.none, .none, .int (-1) uk] } }
  refine tail_any (ops := [.ref s4.heap.objs.size, .str z t]) (typeIs_str _ _ _) PySem.F.slot_str_getitem.lookup (?_ : _) (by with_unfolding_all rfl)
  refine wpAny_getItem_str_slice (l := none) (u := none) (st := some (-1, uk)) ⟨_, Heap.get?_push_size _ rfl, rfl, rfl⟩ rfl (?_ : _)
  refine post_val_or_str ⟨Nat.le_trans (Txt.sliceBy_le z _ _ (-1, uk) (show (-1 : Int) ≠ 0 by decide)) small, fun t' c => ?_⟩
  refine ⟨.str (revS z), H4, I5.tok c, ⟨t', ?_⟩, q⟩
  rw [← back_revS z uk]
  rfl
end
end Lp

namespace Lp
open PySem PySem.Spec PyProof.Rows L2

/-! ### a word between blanks in the row of keywords -/
def rowS : Str := " call copy def drop fields full lend look move new own put return skip take touch "
def cutL (i n : Nat) : List Nat := ((cs rowS).drop i).take (n + 2)
theorem row_cuts : ((List.range 90).all fun i => (List.range 9).all fun n => !(decide ((cutL i n).length = n + 2) && decide ((cutL i n).head? = some 32) && decide ((cutL i n).getLast? = some 32) &&
    (((cutL i n).drop 1).take n).all (fun c => decide (c ≠ 32)) && decide (1 ≤ n)) || decide ((((cutL i n).drop 1).take n) ∈ keywordsL.map cs)) = true := by decide +kernel
theorem row_has : (keywordsL.all fun k => (List.range 90).any fun i => decide (cutL i k.length = 32 :: cs k ++ [32])) = true := by decide +kernel
theorem row_len : rowS.length = 82 := by decide +kernel
theorem sub_cut (y : Str) (i : Nat) : Builtin.Str.subAt rowS y i = true ↔ ((cs rowS).drop i).take y.length = cs y := by
  unfold Builtin.Str.subAt
  rw [beq_iff_eq, ← Array.toList_inj, Array.toList_extract]
  show List.take (i + y.length - i) (List.drop i (cs rowS)) = cs y ↔ _
  rw [Nat.add_sub_cancel_left]
theorem blank_cs (z : Str) : cs (Str.ofString " " ++ z ++ Str.ofString " ") = 32 :: cs z ++ [32] := by
  rw [cs_app, cs_app]
  rfl
theorem blank_len (z : Str) : (Str.ofString " " ++ z ++ Str.ofString " ").length = z.length + 2 := by
  rw [cs_len, blank_cs, cs_len, List.length_append, List.length_cons]
  rfl
theorem kw_row {z : Str} (h1 : 1 ≤ z.length) (h8 : z.length ≤ 8) (hl : ∀ c ∈ cs z, c ≠ 32) :
    (!(Builtin.Str.occurrences rowS (Str.ofString " " ++ z ++ Str.ofString " ") 0 rowS.length 1).isEmpty) = decide (z ∈ keywordsL) := by
  have key : (!(Builtin.Str.occurrences rowS (Str.ofString " " ++ z ++ Str.ofString " ") 0 rowS.length 1).isEmpty) = true ↔ z ∈ keywordsL := by
    rw [StrLaws.found_iff]
    simp only [sub_cut, blank_len, blank_cs]
    constructor
    · rintro ⟨i, hi, e⟩
      rw [row_len] at hi
      have a := List.all_eq_true.mp (List.all_eq_true.mp row_cuts i (List.mem_range.mpr (by omega))) z.length (List.mem_range.mpr (by omega))
      have e2 : cutL i z.length = 32 :: cs z ++ [32] := e
      rw [e2] at a
      have e3 : ((32 :: cs z ++ [32]).drop 1).take z.length = cs z := by
        show (cs z ++ [32]).take z.length = cs z
        rw [cs_len, List.take_left]
      rw [e3] at a
      have c1 : decide ((32 :: cs z ++ [32]).length = z.length + 2) = true := decide_eq_true (by rw [List.length_append, List.length_cons, cs_len]; rfl)
      have c2 : decide ((32 :: cs z ++ [32]).head? = some 32) = true := decide_eq_true rfl
      have c3 : decide ((32 :: cs z ++ [32]).getLast? = some 32) = true := decide_eq_true (List.getLast?_concat)
      have c4 : (cs z).all (fun c => decide (c ≠ 32)) = true := List.all_eq_true.mpr fun c hc => decide_eq_true (hl c hc)
      rw [c1, c2, c3, c4, decide_eq_true h1] at a
      have m : cs z ∈ keywordsL.map cs := of_decide_eq_true (by simpa using a)
      obtain ⟨k, hk, ek⟩ := List.mem_map.mp m
      rw [← cs_ext ek]
      exact hk
    · intro hk
      obtain ⟨i, hi, e⟩ := List.any_eq_true.mp (List.all_eq_true.mp row_has z hk)
      have e := of_decide_eq_true e
      refine ⟨i, ?_, e⟩
      have l := congrArg List.length e
      unfold cutL at l
      rw [List.length_take, List.length_drop, List.length_append, List.length_cons, ← cs_len, ← cs_len, row_len] at l
      rw [row_len]
      simp at l
      omega
  cases hb : (!(Builtin.Str.occurrences rowS (Str.ofString " " ++ z ++ Str.ofString " ") 0 rowS.length 1).isEmpty) with
  | true => exact (decide_eq_true (key.mp hb)).symm
  | false =>
    refine (decide_eq_false fun h => ?_).symm
    rw [key.mpr h] at hb
    cases hb
theorem letters_are : lettersL = (List.range 26).map (· + 97) := by decide +kernel
theorem letter_iff (c : Nat) : c ∈ lettersL ↔ 97 ≤ c ∧ c ≤ 122 := by
  rw [letters_are, List.mem_map]
  constructor
  · rintro ⟨i, hi, rfl⟩
    have := List.mem_range.mp hi
    omega
  · intro h
    exact ⟨c - 97, List.mem_range.mpr (by omega), by omega⟩
theorem one_lt (c d : Nat) : decide ((⟨#[c]⟩ : Str).cps.toList < (⟨#[d]⟩ : Str).cps.toList) = decide (c < d) := by
  refine decide_eq_decide.mpr ?_
  show [c] < [d] ↔ c < d
  rw [List.cons_lt_cons_iff]
  constructor
  · rintro (h | ⟨_, h⟩)
    · exact h
    · exact absurd h (List.not_lt_nil _)
  · exact .inl
end Lp

namespace Lp
open PySem PySem.Spec PyProof.Rows L2
def topS (i : Nat) : Stmt := PySem.Challenge.pw_loanpairs_k03_near_names.main.body.getD i (.Pass ⟨0, 0, 0, 0⟩)
abbrev s_LoanError : Stmt := topS 1
abbrev s_InvalidWord : Stmt := topS 2
abbrev s_is_name : Stmt := topS 8
abbrev s_are_different_names : Stmt := topS 9
abbrev s_is_fields : Stmt := topS 10
abbrev s_is_part : Stmt := topS 11
abbrev s_L_bag : Stmt := topS 13
abbrev s_L_roll : Stmt := topS 14
abbrev s_L_is : Stmt := topS 15
abbrev s_L_one : Stmt := topS 16
abbrev s_L_word : Stmt := topS 17
abbrev s_L_names : Stmt := topS 18
abbrev s_L_near : Stmt := topS 19
abbrev s_L_near_keyword : Stmt := topS 20
abbrev s_L_due : Stmt := topS 21
abbrev s_law : Stmt := topS 22
section
variable {P : Program} {w : World} {K : PySem.W.Frag} {mg : Str → Option Value} {base : Heap}
/-! ### _law_roll -/
theorem scRoll : FnScope ["bag", "total", "found", "one", "two", "three"] ["bag", "total"] (defScope s_L_roll) := ⟨rfl, rfl, rfl, by decide +kernel, rfl, by decide +kernel, by decide +kernel⟩
def spRoll : Sp := fun vs H Q _ => ∃ (b : Addr) (t : Int) (n : Nat), vs = [.ref b, .int t] ∧ 0 < t ∧ t < 1000000000 ∧ Bag H b n ∧ n ≤ bagMost ∧
  ∀ H' i, Keep b H H' → Bag H' b (n + 1) → 0 ≤ i → i < t → Q (.int i) H'
theorem ok_roll {f : Addr} {fd : FuncData} (F : Fun K "_law_roll" "_law_roll" s_L_roll f fd) (mi : mg "int" = none) :
    FnOk P w K mg base CX0 1 f fd ["bag", "total"] spRoll := by
  refine F.ok scRoll (fun vs H Q E h => ?_) (fun cdv A outer s H vs Q E hr h => ?_)
  · obtain ⟨b, t, n, rfl, _⟩ := h
    rfl
  · obtain ⟨b, t, n, rfl, t0, t1, ⟨x, y, z, hb, z0, z1⟩, nm, q⟩ := h
    have hn : n ≤ 1000000000 := nm
    refine ⟨_, pss_cons (ps_if (pt_cmpR op_gt (pe_ix ix_list (pv 0) pe_int (fun _ _ => rfl)) pe_int (nomark _))
        (pss_cons (ps_set (i := 2) scRoll.nd rfl (.inl rfl) (pe_op op_mod (pe_callTy call_int1 (by rfl) mi boot_int (pa_cons (pe_ix ix_list (pv 0) pe_int (fun _ _ => rfl)) pa_nil)) (pv 1)))
          (pss_cons (ps_asg (pe_op op_fdivW (pe_ix ix_list (pv 0) pe_int (fun _ _ => rfl)) (pv 1)) (pg_sub (pv 0) pe_int set_list))
          (pss_one (ps_ret (pv 2))))) pss_nil)
      (pss_cons (ps_asg (pe_op op_add (pe_ix ix_list (pv 0) pe_int (fun _ _ => rfl)) pe_int) (pg_sub (pv 0) pe_int set_list))
      (pss_cons (ps_set (i := 3) scRoll.nd rfl (.inl rfl) (pe_op op_mod (pe_callTy call_int1 (by rfl) mi boot_int (pa_cons (pe_op op_add (pe_op op_mul (pe_ix ix_list (pv 0) pe_int (fun _ _ => rfl)) pe_int)
          (pe_op op_mul pe_int (pe_ix ix_list (pv 0) pe_int (fun _ _ => rfl)))) pa_nil)) pe_int))
      (pss_cons (ps_set (i := 4) scRoll.nd rfl (.inl rfl) (pe_op op_add (pe_op op_mod (pe_callTy call_int1 (by rfl) mi boot_int (pa_cons (pe_op op_mul (pv 3) (pv 3)) pa_nil)) pe_int)
          (pe_op op_mul pe_int (pe_ix ix_list (pv 0) pe_int (fun _ _ => rfl)))))
      (pss_cons (ps_set (i := 5) scRoll.nd rfl (.inl rfl) (pe_op op_mul (pe_op op_mod (pe_callTy call_int1 (by rfl) mi boot_int (pa_cons (pe_op op_mul (pv 4) (pv 4)) pa_nil)) pe_int) (pv 3)))
      (pss_one (ps_ret (pe_op op_mod (pe_callTy call_int1 (by rfl) mi boot_int (pa_cons (pe_op op_fdiv (pe_op op_mod (pe_callTy call_int1 (by rfl) mi boot_int (pa_cons (pv 5) pa_nil)) pe_int) pe_int) pa_nil)) (pv 1)))))))), ?_⟩
    have hq : SqL K H b [.int x, .int y, .int z] := .inl (.inl hb)
    refine ⟨.ref b, rfl, b, _, 0, .int x, rfl, rfl, hq, atI_nat (j := 0) rfl, _, _, rfl, rfl, _, rfl, ite2 (fun e => ?_) (fun e => ?_)⟩
    · -- found = int(bag[0]) % total; bag[0] = bag[0] // total
      refine ⟨.ref b, rfl, b, _, 0, .int x, rfl, rfl, hq, atI_nat (j := 0) rfl, .inl ⟨_, rfl, .int t, rfl, _, _, rfl, rfl, t0, ?_⟩⟩
      refine ⟨.ref b, rfl, b, _, 0, .int x, rfl, rfl, hq, atI_nat (j := 0) rfl, .int t, rfl, _, _, rfl, rfl, wide_div (b := 40) t0 (by omega) (by decide) (by decide), ?_⟩
      refine ⟨.ref b, rfl, b, _, 0, 0, rfl, rfl, hb, rfl, _, rfl, ?_⟩
      exact q _ _ .upd ⟨_, _, _, upd_same, z0, by omega⟩ (Int.emod_nonneg _ (by omega)) (Int.emod_lt_of_pos _ t0)
    · -- bag[2] = bag[2] + 1
      refine ⟨.ref b, rfl, b, _, 2, .int z, rfl, rfl, hq, atI_nat (j := 2) rfl, _, _, rfl, rfl, .ref b, rfl, b, _, 2, 2, rfl, rfl, hb, rfl, ?_⟩
      have hu : SqL K (upd H b (.lst [.int x, .int y, .int (z + 1)])) b [.int x, .int y, .int (z + 1)] := .inl (.inl upd_same)
      -- one
      refine ⟨.ref b, rfl, b, _, 1, .int y, rfl, rfl, hu, atI_nat (j := 1) rfl, _, _, rfl, rfl, .inr ⟨by decide, by decide⟩, .ref b, rfl, b, _, 2, .int (z + 1), rfl, rfl, hu, atI_nat (j := 2) rfl, _, _, rfl, rfl, .inl ⟨by decide, by decide⟩,
        _, _, rfl, rfl, .inl ⟨_, rfl, _, _, rfl, rfl, (show (0 : Int) < 2305843009213693951 by decide), ?_⟩⟩
      generalize e1 : (y * 48271 + 900000011 * (z + 1)) % 2305843009213693951 = o
      have o0 : 0 ≤ o := e1 ▸ Int.emod_nonneg _ (by decide)
      have o1 : o < 2305843009213693951 := e1 ▸ Int.emod_lt_of_pos _ (by decide)
      -- two
      refine ⟨_, rfl, _, rfl, _, _, rfl, rfl, .inl ⟨by omega, by omega⟩, .inl ⟨_, rfl, _, _, rfl, rfl, (show (0 : Int) < 2305843009213693921 by decide), .ref b, rfl, b, _, 2, .int (z + 1), rfl, rfl, hu, atI_nat (j := 2) rfl, _, _, rfl, rfl, .inl ⟨by decide, by decide⟩, _, _, rfl, rfl, ?_⟩⟩
      have w0 : 0 ≤ o * o % 2305843009213693921 := Int.emod_nonneg _ (by decide)
      have w1 : o * o % 2305843009213693921 < 2305843009213693921 := Int.emod_lt_of_pos _ (by decide)
      generalize o * o % 2305843009213693921 = r at w0 w1
      -- three
      refine ⟨_, rfl, _, rfl, _, _, rfl, rfl, .inl ⟨by omega, by omega⟩, .inl ⟨_, rfl, _, _, rfl, rfl, (show (0 : Int) < 2305843009213693907 by decide), _, rfl, _, _, rfl, rfl, .inr ⟨by omega, by omega⟩, ?_⟩⟩
      -- the end
      refine ⟨_, rfl, .inl ⟨_, rfl, _, _, rfl, rfl, (show (0 : Int) < 2305843009213693889 by decide), _, _, rfl, rfl, ⟨by decide, by decide⟩, .inl ⟨_, rfl, _, rfl, _, _, rfl, rfl, t0, ?_⟩⟩⟩
      exact q _ _ .upd ⟨_, _, _, upd_same, by omega, by omega⟩ (Int.emod_nonneg _ (by omega)) (Int.emod_lt_of_pos _ t0)
/-! ### _law_is, _law_one -/
theorem scIs : FnScope ["thing", "due"] ["thing", "due"] (defScope s_L_is) := ⟨rfl, rfl, rfl, by decide +kernel, rfl, by decide +kernel, by decide +kernel⟩
def spIs : Sp := fun vs H Q _ => ∃ x y : Bool, vs = [.bl x, .bl y] ∧ Q (.bl (decide (x = y))) H
theorem ok_is {f : Addr} {fd : FuncData} (F : Fun K "_law_is" "_law_is" s_L_is f fd) (mb : mg "bool" = none) (ms : mg "isinstance" = none) :
    FnOk P w K mg base CX0 1 f fd ["thing", "due"] spIs := by
  refine F.ok scIs (fun vs H Q E h => ?_) (fun cdv A outer s H vs Q E hr h => ?_)
  · obtain ⟨x, y, rfl, _⟩ := h
    rfl
  · obtain ⟨x, y, rfl, q⟩ := h
    refine ⟨_, pss_one (ps_ret (pe_and (pe_callB call_isi (by rfl) ms (by decide +kernel) (pa_cons (pv 0) (pa_cons (pe_bltn (by rfl) mb (by decide +kernel) (v := .ty "bool") rfl) pa_nil)))
      (pe_one (pe_cmpR op_eq (pv 0) (pv 1) (nomark _))))), ?_⟩
    refine ⟨_, rfl, .bl x, .ty "bool", _, _, true, rfl, .ty _, .base (.bl x), kit_ty (by decide +kernel), true, rfl, _, rfl, _, rfl, rfl, ?_⟩
    have e : (decide (V.bl x = V.bl y)) = decide (x = y) := by
      cases x <;> cases y <;> rfl
    rw [e]
    exact q
/-- the items of what _law_one draws from -/
def Its (K : PySem.W.Frag) (b : Addr) (H : Hp) (v : V) (xs : List V) : Prop :=
  (∃ a, v = .ref a ∧ a ≠ b ∧ (SqL K H a xs ∨ SqT K H a xs)) ∨ ∃ z : Str, v = .str z ∧ z.length ≤ 100000 ∧ xs = z.cps.toList.map fun c => .str ⟨#[c]⟩
theorem scOne : FnScope ["bag", "items"] ["bag", "items"] (defScope s_L_one) := ⟨rfl, rfl, rfl, by decide +kernel, rfl, by decide +kernel, by decide +kernel⟩
def spOne (K : PySem.W.Frag) : Sp := fun vs H Q _ => ∃ (b : Addr) (v : V) (xs : List V) (n : Nat), vs = [.ref b, v] ∧ Its K b H v xs ∧ xs ≠ [] ∧ xs.length ≤ 100000 ∧ Bag H b n ∧ n ≤ bagMost ∧
  ∀ H' x, Keep b H H' → Bag H' b (n + 1) → x ∈ xs → Q x H'
theorem ok_one {f : Addr} {fd : FuncData} (F : Fun K "_law_one" "_law_one" s_L_one f fd) (ml : mg "len" = none) (cR : Cal P w K mg base 1 "_law_roll" spRoll) :
    FnOk P w K mg base CX0 2 f fd ["bag", "items"] (spOne K) := by
  refine F.ok scOne (fun vs H Q E h => ?_) (fun cdv A outer s H vs Q E hr h => ?_)
  · obtain ⟨b, v, xs, n, rfl, _⟩ := h
    rfl
  · obtain ⟨b, v, xs, n, rfl, it, ne, sz, g, nm, q⟩ := h
    have pos : 0 < xs.length := List.length_pos_iff.mpr ne
    refine ⟨_, pss_one (ps_ret (pe_ix ix_seq (pv 1) (C8.pe_c cR hr (by omega) (by rfl) (pa_cons (pv 0) (pa_cons (pe_callB call_len (by rfl) ml PySem.boot_len (pa_cons (pv 1) pa_nil)) pa_nil))) (fun _ _ => rfl))), ?_⟩
    refine ⟨v, rfl, .ref b, rfl, v, rfl, v, xs.length, rfl, ?_, b, _, n, rfl, by omega, by omega, g, nm, fun H' i kp g' i0 i1 => ?_⟩
    · rcases it with ⟨a, rfl, _, h1 | h1⟩ | ⟨z, rfl, hz, rfl⟩
      · exact .inl ⟨xs, h1, rfl⟩
      · exact .inr ⟨xs, h1, rfl⟩
      · refine ⟨Nat.le_trans hz (by decide), ?_⟩
        rw [List.length_map]
        rfl
    · obtain ⟨j, rfl⟩ : ∃ j : Nat, i = (j : Int) := ⟨i.toNat, by omega⟩
      have lj : j < xs.length := by omega
      have at_ : xs[j]? = some xs[j] := List.getElem?_eq_getElem lj
      have fin := q H' xs[j] kp g' (List.getElem_mem lj)
      rcases it with ⟨a, rfl, ab, h1 | h1⟩ | ⟨z, rfl, hz, rfl⟩
      · exact .inl ⟨a, xs, _, xs[j], rfl, rfl, sqL_keep kp ab h1, atI_nat at_, fin⟩
      · exact .inr (.inl ⟨a, xs, _, xs[j], rfl, rfl, sqT_keep kp ab h1, atI_nat at_, fin⟩)
      · have lz : j < z.cps.toList.length := by simpa using lj
        refine .inr (.inr ⟨z, _, z.cps.toList[j], rfl, rfl, Nat.le_trans hz (by decide), atI_nat (List.getElem?_eq_getElem lz), ?_⟩)
        simpa using fin
/-! ### _law_word, _law_names -/
theorem scWord : FnScope ["bag", "turn"] ["bag"] (defScope s_L_word) := ⟨rfl, rfl, rfl, by decide +kernel, rfl, by decide +kernel, by decide +kernel⟩
def spWord : Sp := fun vs H Q _ => ∃ (b : Addr) (n : Nat), vs = [.ref b] ∧ Bag H b n ∧ n + 10 ≤ bagMost ∧ ∀ H' z, Keep b H H' → Bag H' b (n + 8) → WordOk z → Q (.str z) H'
theorem ok_word {f : Addr} {fd : FuncData} (F : Fun K "_law_word" "_law_word" s_L_word f fd) (mr : mg "range" = none) (cR : Cal P w K mg base 1 "_law_roll" spRoll) (cO : Cal P w K mg base 2 "_law_one" (spOne K)) :
    FnOk P w K mg base CX0 3 f fd ["bag"] spWord := by
  refine F.ok scWord (fun vs H Q E h => ?_) (fun cdv A outer s H vs Q E hr h => ?_)
  · obtain ⟨b, n, rfl, _⟩ := h
    rfl
  · obtain ⟨b, n, rfl, g, nm, q⟩ := h
    refine ⟨_, pss_one (ps_ret (pe_join pe_str (pe_lc (own := [("turn", 1)]) (g := gName 1) (tt := tYes) rfl scWord.nd
      (pi_range1 (by rfl) mr (pa_cons (pe_op op_add pe_int (C8.pe_c cR hr (by omega) (by rfl) (pa_cons (pv 0) (pa_cons pe_int pa_nil)))) pa_nil))
      (blkOk_by (N := ["bag", "turn"]) (sc := defScope s_L_word) (by decide +kernel)) (fun _ _ _ _ _ => pg_name (i := 1) scWord.nd rfl (Or.inl rfl)) (fun _ _ _ _ _ => pts_nil)
      (fun _ _ _ _ _ => C8.pe_c cO hr (by omega) (by rfl) (pa_cons (pv 0) (pa_cons pe_str pa_nil)))))), ?_⟩
    refine ⟨⟨_, rfl⟩, _, rfl, b, 7, n, rfl, by decide, by decide, g, by omega, fun H1 m kp1 g1 m0 m1 => ?_⟩
    refine ⟨_, _, rfl, rfl, _, rfl, by omega, by omega, fun D nD => ?_⟩
    have Db : b ≠ D := g1.ne nD
    have nD0 : H D = none := by
      cases e : H D with
      | none => rfl
      | some o => rw [kp1 D o Db.symm e] at nD; cases nD
    refine lc_range (n := (1 + m).toNat) (fun i H' => ∃ ws : List Nat, ws.length = i ∧ (∀ c ∈ ws, c ∈ sixL) ∧ H' D = some (.lst ((ws.map fun c => (⟨#[c]⟩ : Str)).map V.str)) ∧ Keep b H H' ∧ Bag H' b (n + 1 + i))
      ⟨[], rfl, (fun c h => nomatch h), upd_same, keep_put kp1 nD0, g1.new nD⟩ (fun i H' hi hP => ?_) (fun H' hP => ?_)
    · obtain ⟨ws, el, hw, hD, kp, g'⟩ := hP
      refine ⟨rfl, _, rfl, b, _, _, n + 1 + i, rfl, .inr ⟨_, rfl, by decide +kernel, rfl⟩, by decide +kernel, by decide +kernel, g', by omega, fun H2 x kp2 g2 hx => ?_⟩
      obtain ⟨c, hc, rfl⟩ := List.mem_map.mp hx
      have hD2 := kp2 D _ Db.symm hD
      refine ⟨_, hD2, ?_, ws ++ [c], by rw [List.length_append, el] <;> rfl, fun d hd => ?_, ?_, keep_put (kp.trans kp2) nD0, (g2.put Db).mono (by omega)⟩
      · rw [List.length_map, List.length_map, el]
        exact small1000 (by omega)
      · rcases List.mem_append.mp hd with hd | hd
        · exact hw d hd
        · rw [List.mem_singleton] at hd
          exact hd ▸ hc
      · rw [upd_same, List.map_append, List.map_append]
        rfl
    · obtain ⟨ws, el, hw, hD, kp, g'⟩ := hP
      refine ⟨_, D, ws.map fun c => ⟨#[c]⟩, rfl, rfl, .inl (.inl (.inl hD)), ?_, q H' _ kp (g'.mono (by omega)) ?_⟩
      · rw [ones_sum, List.length_map]
        show ws.length + ws.length * 0 ≤ _
        omega
      · refine ⟨?_, ?_, ?_⟩
        · rw [cs_len, join_ones]
          omega
        · rw [cs_len, join_ones]
          omega
        · rw [join_ones]
          exact hw
theorem front_take {z : Str} (h : WordOk z) : ∃ front : List Nat, cs (cutS (txtRep z 2) none (some 7)) = front ∧ 2 ≤ front.length ∧ front.length ≤ 7 ∧ ∀ d ∈ front, d ∈ sixL := by
  obtain ⟨h1, h2, h3⟩ := h
  rw [cs_len] at h1 h2
  refine ⟨_, rfl, ?_⟩
  have e : cs (cutS (txtRep z 2) none (some 7)) = (cs z ++ cs z).take 7 := by
    have e1 : cs (txtRep z 2) = cs z ++ cs z := by
      rw [cs_rep]
      simp
    unfold cutS
    rw [cs_mk, HT.sIx_none, show HT.sIx (txtRep z 2).length (txtRep z 2).length (some 7) = min 7 (txtRep z 2).length from HT.sIx_nat _ _ 7, Nat.sub_zero, List.drop_zero]
    show List.take (min 7 (txtRep z 2).length) (cs (txtRep z 2)) = _
    rw [cs_len, ← List.take_take, List.take_length, e1]
  rw [e]
  refine ⟨by rw [List.length_take, List.length_append]; omega, by rw [List.length_take]; omega, fun d hd => ?_⟩
  rcases List.mem_append.mp (List.mem_of_mem_take hd) with q | q
  · exact h3 d q
  · exact h3 d q
theorem scNames : FnScope ["bag", "many", "turn"] ["bag", "many"] (defScope s_L_names) := ⟨rfl, rfl, rfl, by decide +kernel, rfl, by decide +kernel, by decide +kernel⟩
def spNames : Sp := fun vs H Q _ => ∃ (b : Addr) (m n : Nat), vs = [.ref b, .int (m : Int)] ∧ m ≤ 8 ∧ Bag H b n ∧ n + 100 ≤ bagMost ∧
  ∀ H' p zs, Keep b H H' → H p = none → Bag H' b (n + 8 * m) → H' p = some (.lst (zs.map V.str)) → zs.length = m → NamesOk zs → Q (.ref p) H'
theorem ok_names {f : Addr} {fd : FuncData} (F : Fun K "_law_names" "_law_names" s_L_names f fd) (mr : mg "range" = none) (cW : Cal P w K mg base 3 "_law_word" spWord) :
    FnOk P w K mg base CX0 4 f fd ["bag", "many"] spNames := by
  refine F.ok scNames (fun vs H Q E h => ?_) (fun cdv A outer s H vs Q E hr h => ?_)
  · obtain ⟨b, m, n, rfl, _⟩ := h
    rfl
  · obtain ⟨b, m, n, rfl, m8, g, nm, q⟩ := h
    refine ⟨_, pss_one (ps_ret (pe_lc (own := [("turn", 2)]) (g := gName 2) (tt := tYes) rfl scNames.nd (pi_range1 (by rfl) mr (pa_cons (pv 1) pa_nil))
      (blkOk_by (N := ["bag", "many", "turn"]) (sc := defScope s_L_names) (by decide +kernel)) (fun _ _ _ _ _ => pg_name (i := 2) scNames.nd rfl (Or.inl rfl)) (fun _ _ _ _ _ => pts_nil)
      (fun _ _ _ _ _ => pe_op op_add_str (pe_slice sl_str (pe_op op_repS (C8.pe_c cW hr (by omega) (by rfl) (pa_cons (pv 0) pa_nil)) pe_int) po_none (po_some pe_int)) (pe_ix ix_str pe_str (pv 2) (fun _ _ => rfl))))), ?_⟩
    refine ⟨_, rfl, _, rfl, by omega, by omega, fun D nD => ?_⟩
    have Db : b ≠ D := g.ne nD
    refine lc_range (n := ((m : Nat) : Int).toNat) (fun i H' => ∃ zs : List Str, zs.length = i ∧ NamesOk zs ∧ H' D = some (.lst (zs.map V.str)) ∧ Keep b H H' ∧ Bag H' b (n + 8 * i))
      ⟨[], rfl, (fun i z h => nomatch h), upd_same, keep_new nD, g.new nD⟩ (fun i H' hi hP => ?_) (fun H' hP => ?_)
    · obtain ⟨zs, el, hz, hD, kp, g'⟩ := hP
      have im : i < m := by omega
      refine ⟨rfl, _, rfl, b, n + 8 * i, rfl, g', by omega, fun H2 z kp2 g2 wz => ?_⟩
      have zl := wz.1
      have zl2 := wz.2.1
      refine ⟨z, 2, rfl, rfl, by decide, by decide, by omega, by omega, 7, rfl, _, rfl, ?_, ?_⟩
      · rw [cs_len, cs_rep]
        simp only [List.length_flatten, List.map_replicate, List.sum_replicate_nat]
        rw [← cs_len, sizeLine_eq]
        omega
      obtain ⟨front, ef, f1, f2, f3⟩ := front_take wz
      obtain ⟨c, hc⟩ : ∃ c, endsL[i]? = some c := by
        have : i < endsL.length := by
          have : endsL.length = 8 := by decide +kernel
          omega
        exact ⟨_, List.getElem?_eq_getElem this⟩
      refine ⟨_, rfl, _, _, c, rfl, rfl, by decide +kernel, ?_, _, _, rfl, rfl, ?_, ?_⟩
      · show atI endsL ((0 : Int) + (i : Int)) = some c
        rw [Int.zero_add]
        exact atI_nat hc
      · rw [cs_len, ef, sizeLine_eq]
        show front.length + 1 ≤ _
        omega
      · have hD2 := kp2 D _ Db.symm hD
        refine ⟨_, hD2, ?_, zs ++ [cutS (txtRep z 2) none (some 7) ++ ⟨#[c]⟩], by rw [List.length_append, el] <;> rfl, hz.snoc ⟨front, c, ?_, f1, f2, f3, el ▸ hc⟩, ?_, keep_put (kp.trans kp2) nD, (g2.put Db).mono (by omega)⟩
        · rw [List.length_map, el]
          exact small1000 (by omega)
        · rw [cs_app, ef]
        · rw [upd_same, List.map_append]
          rfl
    · obtain ⟨zs, el, hz, hD, kp, g'⟩ := hP
      rw [Int.toNat_natCast] at el g'
      exact q H' D zs kp nD g' hD el hz
/-! ### is_name -/
/-- what stands in the written part: the module's constants -/
def WrT (K : PySem.W.Frag) (a : Addr) (xs : List V) : Prop := ∃ (o : Obj) (its : Array Value) (n : Nat), K.lookup a = some o ∧ o.cls = .type "tuple" ∧ o.data = .seq its n ∧ its.size ≤ sizeLine ∧ Vals xs its.toList
structure NameTxt (K : PySem.W.Frag) (mg : Str → Option Value) : Prop where
  kw : ∃ a, mg "KEYWORDS" = some (.ref a) ∧ WrT K a (keywordsL.map V.str)
  le : ∃ t, mg "LETTERS" = some (.str "abcdefghijklmnopqrstuvwxyz" t)
  ml : ∃ t, mg "MAX_LETTERS" = some (.int 8 t)
  isi : mg "isinstance" = none
  str : mg "str" = none
  len : mg "len" = none
  all : mg "all" = none
theorem scIsName : FnScope ["value", "letter"] ["value"] (defScope s_is_name) := ⟨rfl, rfl, rfl, by decide +kernel, rfl, by decide +kernel, by decide +kernel⟩
def spIsName : Sp := fun vs H Q _ => ∃ v, vs = [v] ∧ Dat H v ∧ ∀ H', Same H H' → Q (.bl (nameV v)) H'
theorem ok_isName {f : Addr} {fd : FuncData} (F : Fun K "is_name" "is_name" s_is_name f fd) (T : NameTxt K mg) : FnOk P w K mg base CX0 1 f fd ["value"] spIsName := by
  obtain ⟨⟨kw, gK, wK⟩, ⟨tl, gL⟩, ⟨tm, gM⟩, mI, mS, mL, mA⟩ := T
  refine F.ok scIsName (fun vs H Q E h => ?_) (fun cdv A outer s H vs Q E hr h => ?_)
  · obtain ⟨v, rfl, _⟩ := h
    rfl
  · obtain ⟨v, rfl, dv, q⟩ := h
    refine ⟨_, pss_cons (ps_if (PW.pt (pw_or (pt_not (pt_val (pe_callB call_isi (by rfl) mI (by decide +kernel) (pa_cons (pv 0) (pa_cons (pe_bltn (by rfl) mS (by decide +kernel) (v := .ty "str") rfl) pa_nil)))))
          (pw_or1 (pt_not (pt_chain op_le op_le pe_int (pe_callB call_len (by rfl) mL PySem.boot_len (pa_cons (pv 0) pa_nil)) (pe_glob (v := .int 8) (by rfl) gM ⟨_, rfl⟩))))))
        (pss_one (ps_ret pe_bl)) pss_nil)
      (pss_one (ps_ret (pe_and (pe_cmpR op_notIn_seq (pv 0) (pe_glob (v := .ref kw) (by rfl) gK rfl) (by rfl)) (pe_one (pe_callB (cr_all rfl) (by rfl) mA (by decide +kernel)
        (pa_cons (pe_lc (own := [("letter", 1)]) (g := gName 1) (tt := tYes) rfl scIsName.nd (pi_str (pv 0))
          (blkOk_by (N := ["value", "letter"]) (sc := defScope s_is_name) (by decide +kernel)) (fun _ _ _ _ _ => pg_name (i := 1) scIsName.nd rfl (Or.inl rfl)) (fun _ _ _ _ _ => pts_nil)
          (fun _ _ _ _ _ => pe_cmpR op_in_sign (pv 1) (pe_glob (v := .str (Str.ofString "abcdefghijklmnopqrstuvwxyz")) (by rfl) gL ⟨_, rfl⟩) (by rfl))) pa_nil)))))), ?_⟩
    by_cases hs : ∃ z, v = .str z
    · obtain ⟨z, rfl⟩ := hs
      have zl : z.length ≤ 100000 := dv
      refine ⟨_, rfl, .str z, .ty "str", _, _, true, rfl, .ty _, .base (.str z), kit_ty (by decide +kernel), true, rfl, ?_⟩
      refine ⟨_, rfl, .str z, _, rfl, ⟨Nat.le_trans zl (by decide), rfl⟩, 1, _, rfl, rfl, _, rfl, ite2 (fun e1 => ?_) (fun e1 => ?_)⟩
      · refine ⟨_, _, rfl, rfl, _, rfl, ?_⟩
        show if (!decide ((z.length : Int) ≤ 8)) = true then _ else _
        by_cases h8 : z.length ≤ 8
        · rw [if_neg (by simp; omega)]
          refine ⟨_, rfl, kw, _, rfl, .inr (.inr wK), rfl, strs_all_flat _, _, rfl, ?_⟩
          show if (!inV (.str z) (keywordsL.map V.str)) = true then _ else _
          rw [inV_strs]
          have h1 : 1 ≤ z.length := by
            have := of_decide_eq_true e1
            omega
          by_cases hk : z ∈ keywordsL
          · rw [decide_eq_true hk]
            refine iteF ?_
            have e : nameV (.str z) = false := by
              show isName z = false
              unfold isName
              rw [decide_eq_true hk]
              simp
            rw [← e]
            exact q H (.refl H)
          · rw [decide_eq_false hk]
            refine iteT ?_
            refine ⟨_, rfl, _, rfl, fun D nD => ?_⟩
            refine lc_vals walk_signs (fun _ => true) (fun x => .bl (letterV x)) (by rw [signs_len, ← cs_len]; exact zl) nD (fun _ _ => trivial) (fun x H2 Ky Kn hx sm k1 k0 => ?_) (fun H' sm e => ?_)
            · obtain ⟨c, hc, rfl⟩ := List.mem_map.mp hx
              refine ⟨rfl, _, rfl, c, _, rfl, rfl, ?_⟩
              have e : letterV (.str ⟨#[c]⟩) = decide (c ∈ lettersL) := letterV_one c
              have k2 := k1 H2 (.refl H2) rfl
              rw [e] at k2
              exact k2
            · rw [bools_all] at e
              refine ⟨D, (signs z).map letterV, rfl, .inl (.inl e), ?_⟩
              have e2 : ((signs z).map letterV).all id = nameV (.str z) := by
                show _ = isName z
                unfold isName
                rw [decide_eq_true h1, decide_eq_true h8, decide_eq_false hk, letters_all]
                rfl
              rw [e2]
              exact q H' sm
        · rw [if_pos (by simp; omega)]
          have e : nameV (.str z) = false := by
            show isName z = false
            unfold isName
            rw [decide_eq_false h8]
            simp
          rw [← e]
          exact q H (.refl H)
      · refine ⟨false, rfl, iteT ?_⟩
        have e : nameV (.str z) = false := by
          show isName z = false
          unfold isName
          rw [decide_eq_false (show ¬ 1 ≤ z.length from fun h => e1 (decide_eq_true (by omega)))]
          rfl
        show Q (.bl false) H
        rw [← e]
        exact q H (.refl H)
    · obtain ⟨t, ty, kt⟩ := dat_not_str (K := K) dv hs
      refine ⟨_, rfl, v, .ty "str", _, _, false, rfl, .ty _, ty, kt, false, rfl, ?_⟩
      have e : nameV v = false := by
        cases v with
        | str z => exact absurd ⟨z, rfl⟩ hs
        | _ => rfl
      show Q (.bl false) H
      rw [← e]
      exact q H (.refl H)
/-! ### are_different_names, is_fields -/
theorem scDiff : FnScope ["values", "value"] ["values"] (defScope s_are_different_names) := ⟨rfl, rfl, rfl, by decide +kernel, rfl, by decide +kernel, by decide +kernel⟩
def spDiff (K : PySem.W.Frag) : Sp := fun vs H Q _ => ∃ (a : Addr) (xs : List V), vs = [.ref a] ∧ H a = some (.tup xs) ∧ xs.length ≤ 1000 ∧ (∀ x ∈ xs, Dat H x) ∧
  ∀ H' r, Same H H' → (r = true ↔ DiffOk xs) → Q (.bl r) H'
theorem ok_diff {f : Addr} {fd : FuncData} (F : Fun K "are_different_names" "are_different_names" s_are_different_names f fd) (mA : mg "all" = none) (mL : mg "len" = none) (mS : mg "set" = none)
    (cN : Cal P w K mg base 1 "is_name" spIsName) : FnOk P w K mg base CX0 2 f fd ["values"] (spDiff K) := by
  refine F.ok scDiff (fun vs H Q E h => ?_) (fun cdv A outer s H vs Q E hr h => ?_)
  · obtain ⟨a, xs, rfl, _⟩ := h
    rfl
  · obtain ⟨a, xs, rfl, ha, hx, hd, q⟩ := h
    refine ⟨_, pss_one (ps_ret (pe_and (pe_callB (cr_all rfl) (by rfl) mA (by decide +kernel) (pa_cons (pe_lc (own := [("value", 1)]) (g := gName 1) (tt := tYes) rfl scDiff.nd (pi_tup (pv 0))
          (blkOk_by (N := ["values", "value"]) (sc := defScope s_are_different_names) (by decide +kernel)) (fun _ _ _ _ _ => pg_name (i := 1) scDiff.nd rfl (Or.inl rfl)) (fun _ _ _ _ _ => pts_nil)
          (fun _ _ _ _ _ => C8.pe_c cN hr (by omega) (by rfl) (pa_cons (pv 1) pa_nil))) pa_nil))
        (pe_one (pe_cmpR op_eq (pe_callB call_lenK (by rfl) mL PySem.boot_len (pa_cons (pe_callTy (cr_setOfK rfl) (by rfl) mS boot_set (pa_cons (pv 0) pa_nil)) pa_nil))
          (pe_callB call_len_seq (by rfl) mL PySem.boot_len (pa_cons (pv 0) pa_nil)) (nomark _))))), ?_⟩
    have hq : SqT K H a xs := .inl (.inl ha)
    refine ⟨.ref a, rfl, a, rfl, ⟨xs, hq⟩, fun D nD => ?_⟩
    refine lc_vals walk_tup (fun _ => true) (fun x => .bl (nameV x)) (by omega) nD (fun H' sm => sqT_same sm hq) (fun x H2 Ky Kn hx2 sm k1 k0 => ?_) (fun H1 sm e => ?_)
    · exact ⟨rfl, x, rfl, x, rfl, (hd x hx2).same sm, fun H4 s4 => k1 H4 s4 rfl⟩
    · rw [bools_all] at e
      refine ⟨D, xs.map nameV, rfl, .inl (.inl e), _, rfl, ?_⟩
      by_cases hn : (xs.map nameV).all id = true
      · rw [hn]
        obtain ⟨zs, rfl, hz⟩ := all_names hn
        refine iteT ?_
        have hq1 : SqT K H1 a (zs.map V.str) := sqT_same sm hq
        rw [List.length_map] at hx
        refine ⟨.ref a, rfl, a, zs.map Sum.inr, rfl, .inr ?_, by rw [List.length_map]; omega, fun p np => ?_⟩
        · rw [List.map_map]
          exact hq1
        have s2 := same_upd (o := SetK P w p (fun j => decide (j ∈ zs.map Sum.inr)) (dist (zs.map (Sum.inr : Str → Key))).length) np
        refine ⟨p, _, _, rfl, upd_same, .ref a, rfl, a, _, rfl, .inr (sqT_same s2 hq1), rfl, q _ _ (sm.trans s2) ?_⟩
        rw [decide_eq_true_eq, V.int.injEq, List.length_map]
        have e3 := dist_eq (zs.map (Sum.inr : Str → Key))
        rw [List.length_map] at e3
        constructor
        · intro e4
          refine ⟨zs, rfl, hz, ?_⟩
          exact nodup_inr.mp (e3.mp (by omega))
        · rintro ⟨zs', ez, _, nd⟩
          rw [strs_inj ez] at e3 ⊢
          have := e3.mpr (nodup_inr.mpr nd)
          omega
      · have hf : (xs.map nameV).all id = false := by
          cases h : (xs.map nameV).all id with
          | true => exact absurd h hn
          | false => rfl
        rw [hf]
        refine iteF (q _ _ sm ⟨fun h => (nomatch h), fun h => ?_⟩)
        obtain ⟨zs, rfl, hz, _⟩ := h
        exact absurd (names_all hz) hn
theorem scFields : FnScope ["value"] ["value"] (defScope s_is_fields) := ⟨rfl, rfl, rfl, by decide +kernel, rfl, by decide +kernel, by decide +kernel⟩
/-- whether a value is fields -/
def FieldsV (H : Hp) (v : V) : Prop := ∃ (a : Addr) (zs : List Str), v = .ref a ∧ H a = some (.tup (zs.map V.str)) ∧ FieldsOk zs
theorem fieldsV_iff {H : Hp} {a : Addr} {zs : List Str} (e : H a = some (.tup (zs.map V.str))) : FieldsV H (.ref a) ↔ FieldsOk zs := by
  constructor
  · rintro ⟨a', zs', e1, e2, f⟩
    cases e1
    rw [e] at e2
    rw [strs_inj (HO.tup.inj (Option.some.inj e2))]
    exact f
  · exact fun f => ⟨a, zs, rfl, e, f⟩
theorem fieldsV_lst {H : Hp} {a : Addr} {xs : List V} (e : H a = some (.lst xs)) : ¬ FieldsV H (.ref a) := by
  rintro ⟨a', zs', e1, e2, f⟩
  cases e1
  rw [e] at e2
  cases e2
/-- one that is decided -/
theorem bool_of {r : Bool} {p : Prop} [Decidable p] (h : r = true ↔ p) : r = decide p := by
  cases r with
  | true => exact (decide_eq_true (h.mp rfl)).symm
  | false => exact (decide_eq_false fun q => nomatch h.mpr q).symm
def spFields : Sp := fun vs H Q _ => ∃ v, vs = [v] ∧ Dat H v ∧ (∀ a xs, v = .ref a → H a = some (.tup xs) → ∀ x ∈ xs, Dat H x) ∧ ∀ H' r, Same H H' → (r = true ↔ FieldsV H v) → Q (.bl r) H'
theorem ok_fields {f : Addr} {fd : FuncData} (F : Fun K "is_fields" "is_fields" s_is_fields f fd) (mI : mg "isinstance" = none) (mT : mg "tuple" = none) (mL : mg "len" = none) (mF : ∃ t, mg "MAX_FIELDS" = some (.int 4 t))
    (cD : Cal P w K mg base 2 "are_different_names" (spDiff K)) : FnOk P w K mg base CX0 3 f fd ["value"] spFields := by
  obtain ⟨tm, gM⟩ := mF
  refine F.ok scFields (fun vs H Q E h => ?_) (fun cdv A outer s H vs Q E hr h => ?_)
  · obtain ⟨v, rfl, _⟩ := h
    rfl
  · obtain ⟨v, rfl, dv, di, q⟩ := h
    refine ⟨_, pss_cons (ps_if (PW.pt (pw_or (pt_not (pt_val (pe_callB call_isi (by rfl) mI (by decide +kernel) (pa_cons (pv 0) (pa_cons (pe_bltn (by rfl) mT (by decide +kernel) (v := .ty "tuple") rfl) pa_nil)))))
          (pw_or1 (pt_not (pt_chain op_le op_le pe_int (pe_callB call_len_seq (by rfl) mL PySem.boot_len (pa_cons (pv 0) pa_nil)) (pe_glob (v := .int 4) (by rfl) gM ⟨_, rfl⟩))))))
        (pss_one (ps_ret pe_bl)) pss_nil)
      (pss_one (ps_ret (C8.pe_c cD hr (by omega) (by rfl) (pa_cons (pv 0) pa_nil)))), ?_⟩
    by_cases hs : ∃ a xs, v = .ref a ∧ H a = some (.tup xs)
    · obtain ⟨a, xs, rfl, ha⟩ := hs
      have hq : SqT K H a xs := .inl (.inl ha)
      have no : ¬ (1 ≤ xs.length ∧ xs.length ≤ 4) → ¬ FieldsV H (.ref a) := fun h h2 => by
        obtain ⟨a', zs, e1, e2, z1, z4, _⟩ := h2
        cases e1
        rw [ha] at e2
        cases e2
        rw [List.length_map] at h
        exact h ⟨z1, z4⟩
      refine ⟨_, rfl, .ref a, .ty "tuple", _, _, true, rfl, .ty _, .base (.tup ha), kit_ty (by decide +kernel), true, rfl, ?_⟩
      refine ⟨_, rfl, a, xs, rfl, .inr hq, 1, _, rfl, rfl, _, rfl, ite2 (fun e1 => ?_) (fun e1 => ?_)⟩
      · have h1 : 1 ≤ xs.length := by
          have := of_decide_eq_true e1
          omega
        refine ⟨_, 4, rfl, rfl, _, rfl, ?_⟩
        show if (!decide ((xs.length : Int) ≤ 4)) = true then _ else _
        by_cases h4 : xs.length ≤ 4
        · rw [if_neg (by simp; omega)]
          refine ⟨_, rfl, a, xs, rfl, ha, by omega, di a xs rfl ha, fun H' r sm er => q H' r sm (er.trans ⟨fun h => ?_, fun h => ?_⟩)⟩
          · obtain ⟨zs, rfl, n1, n2⟩ := h
            rw [List.length_map] at h1 h4
            exact ⟨a, zs, rfl, ha, h1, h4, n1, n2⟩
          · obtain ⟨a', zs, e2, e3, _, _, n1, n2⟩ := h
            cases e2
            rw [ha] at e3
            cases e3
            exact ⟨zs, rfl, n1, n2⟩
        · rw [if_pos (by simp; omega)]
          exact q H false (.refl H) ⟨fun h => (nomatch h), fun h => absurd h (no fun z => h4 z.2)⟩
      · refine ⟨false, rfl, iteT ?_⟩
        have h1 : ¬ 1 ≤ xs.length := fun h => e1 (decide_eq_true (by omega))
        exact q H false (.refl H) ⟨fun h => (nomatch h), fun h => absurd h (no fun z => h1 z.1)⟩
    · obtain ⟨t, ty, kt⟩ := dat_not_tup (K := K) dv hs
      refine ⟨_, rfl, v, .ty "tuple", _, _, false, rfl, .ty _, ty, kt, false, rfl, ?_⟩
      refine q H false (.refl H) ⟨fun h => (nomatch h), fun h => ?_⟩
      obtain ⟨a, zs, rfl, e, _⟩ := h
      exact absurd ⟨a, _, rfl, e⟩ hs
theorem fields_both {zs1 zs2 : List Str} (f1 : FieldsOk zs1) (f2 : FieldsOk zs2) : FieldsOk (zs1 ++ zs2) ↔ (zs1.length + zs2.length ≤ 4 ∧ (zs1.filter fun w => decide (w ∈ zs2)) = []) := by
  unfold FieldsOk at *
  rw [List.length_append, List.nodup_append, List.filter_eq_nil_iff]
  constructor
  · rintro ⟨_, h4, _, _, _, h5⟩
    exact ⟨h4, fun w hw h => h5 w hw w (of_decide_eq_true h) rfl⟩
  · rintro ⟨h4, h5⟩
    refine ⟨by omega, h4, fun z hz => ?_, f1.2.2.2, f2.2.2.2, fun x hx y hy e => ?_⟩
    · rcases List.mem_append.mp hz with hz | hz
      · exact f1.2.2.1 z hz
      · exact f2.2.2.1 z hz
    · subst e
      exact h5 x hx (decide_eq_true hy)
theorem nodup_rev {zs : List Str} (h : zs.Nodup) : zs.reverse.Nodup := by
  unfold List.Nodup at *
  rw [List.pairwise_reverse]
  exact h.imp fun n e => n e.symm
theorem fields_one (w : Str) : FieldsOk [w] ↔ isName w = true := by
  unfold FieldsOk
  simp
/-! ### is_part, asked with fields and a text -/
theorem scPart : FnScope ["fields", "value"] ["fields", "value"] (defScope s_is_part) := ⟨rfl, rfl, rfl, by decide +kernel, rfl, by decide +kernel, by decide +kernel⟩
theorem name_dat {zs : List Str} (h : ∀ w ∈ zs, isName w = true) (H' : Hp) : ∀ x ∈ zs.map V.str, Dat H' x := fun x hx => by
  obtain ⟨w, hw, rfl⟩ := List.mem_map.mp hx
  exact Nat.le_trans (name_size (h w hw)).2 (by decide)
def spPartS : Sp := fun vs H Q _ => ∃ (a : Addr) (zs : List Str) (z : Str), vs = [.ref a, .str z] ∧ H a = some (.tup (zs.map V.str)) ∧ FieldsOk zs ∧ ∀ H', Same H H' → Q (.bl (decide (z = Str.ofString "" ∨ z ∈ zs))) H'
theorem ok_partS {f : Addr} {fd : FuncData} (F : Fun K "is_part" "is_part" s_is_part f fd) (cF : Cal P w K mg base 3 "is_fields" spFields) : FnOk P w K mg base CX0 4 f fd ["fields", "value"] spPartS := by
  refine F.ok scPart (fun vs H Q E h => ?_) (fun cdv A outer s H vs Q E hr h => ?_)
  · obtain ⟨a, zs, z, rfl, _⟩ := h
    rfl
  · obtain ⟨a, zs, z, rfl, ha, fo, q⟩ := h
    refine ⟨_, (pss_cons (ps_if (pt_not (pt_val (C8.pe_c cF hr (by omega) (by rfl) (pa_cons (pv 0) pa_nil)))) pss_never pss_nil)
      (pss_one (ps_ret (pe_or (pe_cmpR op_eq (pv 1) pe_str (nomark _)) (pe_one (pe_cmpR op_in_seq (pv 1) (pv 0) (by rfl))))))), ?_⟩
    refine ⟨_, rfl, _, rfl, .inr (.inl ⟨_, ha⟩), fun a' xs e1 e2 => ?_, fun H1 rr s1 er => ?_⟩
    · cases e1
      rw [ha] at e2
      cases e2
      exact name_dat fo.2.2.1 _
    have e : rr = true := er.mpr ((fieldsV_iff ha).mpr fo)
    subst e
    refine ⟨true, rfl, iteF ?_⟩
    refine ⟨_, rfl, rfl, _, rfl, ?_⟩
    have e1 : decide (V.str z = V.str (Str.ofString "")) = decide (z = Str.ofString "") := decide_eq_decide.mpr ⟨fun h => V.str.inj h, fun h => by rw [h]⟩
    rw [e1]
    by_cases hz : z = Str.ofString ""
    · rw [decide_eq_true hz]
      refine iteT ?_
      have := q H1 s1
      rw [decide_eq_true (.inl hz)] at this
      exact this
    · rw [decide_eq_false hz]
      refine iteF ⟨_, rfl, .ref a, rfl, a, _, rfl, .inr (.inl (.inl (s1 _ _ ha))), rfl, strs_all_flat _, ?_⟩
      show Q (.bl (inV (.str z) (zs.map V.str))) H1
      rw [inV_strs]
      have := q H1 s1
      rw [show decide (z = Str.ofString "" ∨ z ∈ zs) = decide (z ∈ zs) from decide_eq_decide.mpr ⟨fun h => h.resolve_left hz, .inr⟩] at this
      exact this
/-! ### _law_due -/
theorem scDue : FnScope ["text", "some", "bad", "sign"] ["text"] (defScope s_L_due) := ⟨rfl, rfl, rfl, by decide +kernel, rfl, by decide +kernel, by decide +kernel⟩
def noLetter (c : Nat) : Bool := !(decide (97 ≤ c) && decide (c ≤ 122))
theorem no_letters {z : Str} : (cs z).filter noLetter = [] ↔ ((cs z).all fun c => decide (c ∈ lettersL)) = true := by
  rw [List.filter_eq_nil_iff, List.all_eq_true]
  constructor
  · intro h c hc
    have := h c hc
    unfold noLetter at this
    simp at this
    exact decide_eq_true ((letter_iff c).mpr this)
  · intro h c hc
    have := (letter_iff c).mp (of_decide_eq_true (h c hc))
    unfold noLetter
    simp
    exact this
def spDue : Sp := fun vs H Q _ => ∃ z : Str, vs = [.str z] ∧ Asc 100000 z ∧ ∀ H', Same H H' → Q (.bl (isName z)) H'
theorem ok_due {f : Addr} {fd : FuncData} (F : Fun K "_law_due" "_law_due" s_L_due f fd) (mL : mg "len" = none) : FnOk P w K mg base CX0 1 f fd ["text"] spDue := by
  refine F.ok scDue (fun vs H Q E h => ?_) (fun cdv A outer s H vs Q E hr h => ?_)
  · obtain ⟨z, rfl, _⟩ := h
    rfl
  · obtain ⟨z, rfl, asc, q⟩ := h
    refine ⟨_, (pss_cons (ps_set (i := 1) scDue.nd rfl (.inl rfl) pe_str)
      (pss_cons (ps_setLc (i := 2) (own := [("sign", 3)]) (g := gName 3) rfl scDue.nd rfl rfl (sw_true rfl rfl rfl (by decide +kernel)) (pi_str (pv 0)) (blkOk_by (N := ["text", "some", "bad", "sign"]) (sc := defScope s_L_due) (by decide +kernel))
        (fun _ _ _ _ _ => pg_name (i := 3) scDue.nd rfl (Or.inl rfl)) (fun _ _ _ _ _ => pts_one (pt_not (pt_chain op_le_str op_le_str pe_str (pv 3) pe_str))) (fun _ _ _ _ _ => pv 3))
      (pss_one (ps_ret (pe_and (pe_chain op_lt op_lt pe_int (pe_callB call_len_str (by rfl) mL PySem.boot_len (pa_cons (pv 0) pa_nil)) pe_int)
        (pe_and (pe_cmpR (op_eqD hr.units) (pv 2) (pe_lst pa_nil) (nomark _)) (pe_one (pe_cmpR op_notIn_str (pe_op op_add_str (pe_op op_add_str pe_str (pv 0)) pe_str) (pv 1) (by rfl))))))))), ?_⟩
    refine ⟨_, rfl, _, rfl, fun D nD => ?_⟩
    have zl := asc.1
    refine lc_vals walk_signs (fun x => match x with | .str y => (cs y).any noLetter | _ => false) id (by rw [signs_len, ← cs_len]; exact zl) nD (fun _ _ => trivial) (fun x H2 Ky Kn hx sm k1 k0 => ?_) (fun H1 s1 e1 => ?_)
    · obtain ⟨c, hc, rfl⟩ := List.mem_map.mp hx
      have ev : (cs ⟨#[c]⟩).any noLetter = noLetter c := by
        rw [cs_one]
        simp
      refine ⟨rfl, _, rfl, _, _, rfl, rfl, _, rfl, ?_⟩
      rw [show decide ((⟨#[c]⟩ : Str).cps.toList < (Str.ofString "a").cps.toList) = decide (c < 97) from one_lt c 97]
      by_cases h1 : c < 97
      · rw [decide_eq_true h1]
        refine iteF ⟨_, rfl, iteT ⟨_, rfl, k1 _ (.refl _) ?_⟩⟩
        show (cs ⟨#[c]⟩).any noLetter = true
        rw [ev]
        unfold noLetter
        simp
        omega
      · rw [decide_eq_false h1]
        refine iteT ⟨_, _, rfl, rfl, _, rfl, ?_⟩
        rw [show decide ((Str.ofString "z").cps.toList < (⟨#[c]⟩ : Str).cps.toList) = decide (122 < c) from one_lt 122 c]
        by_cases h2 : 122 < c
        · rw [decide_eq_true h2]
          refine iteT ⟨_, rfl, k1 _ (.refl _) ?_⟩
          show (cs ⟨#[c]⟩).any noLetter = true
          rw [ev]
          unfold noLetter
          simp
          omega
        · rw [decide_eq_false h2]
          refine iteF (k0 _ (.refl _) ?_)
          show (cs ⟨#[c]⟩).any noLetter = false
          rw [ev]
          unfold noLetter
          simp
          omega
    · have e2 : (((signs z).filter fun x => match x with | .str y => (cs y).any noLetter | _ => false).map id) = (((cs z).filter noLetter).map fun c => (⟨#[c]⟩ : Str)).map V.str := by
        unfold signs
        rw [List.map_id, List.filter_map, List.map_map]
        congr 1
        refine List.filter_congr fun c _ => ?_
        show (cs ⟨#[c]⟩).any noLetter = noLetter c
        rw [cs_one]
        simp
      rw [e2] at e1
      have low : ∀ y ∈ ((cs z).filter noLetter).map fun c => (⟨#[c]⟩ : Str), lowS y := fun y hy => by
        obtain ⟨c, hc, rfl⟩ := List.mem_map.mp hy
        exact (Asc.one (asc.2 c (List.mem_filter.mp hc).1)).low
      refine ⟨_, rfl, z, rfl, Nat.le_trans zl (by decide), _, _, rfl, rfl, _, rfl, ite2 (fun c1 => ?_) (fun c1 => ?_)⟩
      · have l1 : 1 ≤ z.length := by
          have := of_decide_eq_true c1
          omega
        refine ⟨_, 9, rfl, rfl, _, rfl, ite2 (fun c2 => ?_) (fun c2 => ?_)⟩
        · have l8 : z.length ≤ 8 := by
            have := of_decide_eq_true c2
            omega
          refine ⟨.ref D, rfl, Nat.zero_le _, fun p np => eq_strsL (zs := ((cs z).filter noLetter).map fun c => (⟨#[c]⟩ : Str)) (ws := []) (.inl (.inl (same_upd np _ _ e1))) (.inl (.inl upd_same)) low (fun _ h => nomatch h) ⟨_, rfl, ite2 (fun c3 => ?_) (fun c3 => ?_)⟩⟩
          · have al := no_letters.mp (List.map_eq_nil_iff.mp (of_decide_eq_true c3))
            refine ⟨_, rfl, _, _, rfl, rfl, ?_, _, _, rfl, rfl, ?_, _, rfl, _, _, rfl, rfl, ?_⟩
            · show 1 + z.length ≤ sizeLine
              rw [sizeLine_eq]
              omega
            · have e5 : (Str.ofString " " ++ z).length = 1 + z.length := by
                rw [cs_len, cs_app, List.length_append, ← cs_len, ← cs_len]
                rfl
              rw [e5, sizeLine_eq]
              show 1 + z.length + 1 ≤ _
              omega
            · have ns : ∀ c ∈ cs z, c ≠ 32 := fun c hc => by
                have := (letter_iff c).mp (of_decide_eq_true (List.all_eq_true.mp al c hc))
                omega
              have e6 := kw_row l1 l8 ns
              have e7 : (!(!(Builtin.Str.occurrences rowS (Str.ofString " " ++ z ++ Str.ofString " ") 0 rowS.length 1).isEmpty)) = isName z := by
                rw [e6]
                unfold isName
                rw [decide_eq_true l1, decide_eq_true l8, al]
                simp
              have fin := q _ (s1.trans (same_upd (o := HO.lst []) np))
              rw [← e7] at fin
              exact fin
          · have fin := q _ (s1.trans (same_upd (o := HO.lst []) np))
            have e7 : isName z = false := by
              cases h : isName z with
              | false => rfl
              | true =>
                refine absurd (decide_eq_true ?_) c3
                unfold isName at h
                simp only [Bool.and_eq_true] at h
                rw [no_letters.mpr h.2]
                rfl
            rw [e7] at fin
            exact fin
        · have fin := q _ s1
          have e7 : isName z = false := by
            cases h : isName z with
            | false => rfl
            | true => exact absurd (decide_eq_true (by have := name_size h; omega)) c2
          rw [e7] at fin
          exact fin
      · have fin := q _ s1
        have e7 : isName z = false := by
          cases h : isName z with
          | false => rfl
          | true => exact absurd (decide_eq_true (by have := name_size h; omega)) c1
        rw [e7] at fin
        exact ⟨_, rfl, iteF fin⟩
/-! ### _law_near, _law_near_keyword -/
/-- a list of short texts of ASCII signs -/
def Ascs (n : Nat) (zs : List Str) : Prop := ∀ z ∈ zs, Asc n z
theorem Ascs.app {n : Nat} {a b : List Str} (h : Ascs n a) (k : Ascs n b) : Ascs n (a ++ b) := fun z hz => by
  rcases List.mem_append.mp hz with hz | hz
  · exact h z hz
  · exact k z hz
theorem Ascs.nil (n : Nat) : Ascs n [] := fun _ h => nomatch h
theorem Ascs.cons {n : Nat} {z : Str} {r : List Str} (h : Asc n z) (k : Ascs n r) : Ascs n (z :: r) := fun y hy => by
  rcases List.mem_cons.mp hy with rfl | hy
  · exact h
  · exact k y hy
theorem scNear : FnScope ["bag", "name", "spot", "letter", "signs", "found", "sign"] ["bag", "name"] (defScope s_L_near) := ⟨rfl, rfl, rfl, by decide +kernel, rfl, by decide +kernel, by decide +kernel⟩
def spNear : Sp := fun vs H Q _ => ∃ (b : Addr) (z : Str) (n : Nat), vs = [.ref b, .str z] ∧ isName z = true ∧ Bag H b n ∧ n + 100 ≤ bagMost ∧
  ∀ (H' : Hp) (p : Addr) (zs : List Str), Keep b H H' → H p = none → Bag H' b (n + 2) → H' p = some (.lst (zs.map V.str)) → zs.length ≤ 100 → Ascs 8000 zs → Q (.ref p) H'
theorem ok_near {f : Addr} {fd : FuncData} (F : Fun K "_law_near" "_law_near" s_L_near f fd) (ml : mg "len" = none) (cR : Cal P w K mg base 1 "_law_roll" spRoll) (cO : Cal P w K mg base 2 "_law_one" (spOne K)) :
    FnOk P w K mg base CX0 3 f fd ["bag", "name"] spNear := by
  refine F.ok scNear (fun vs H Q E h => ?_) (fun cdv A outer s H vs Q E hr h => ?_)
  · obtain ⟨b, z, n, rfl, _⟩ := h
    rfl
  · obtain ⟨b, z, n, rfl, nz, g, nm, q⟩ := h
    refine ⟨_, (pss_cons (ps_asg (pe_tup (pa_cons (C8.pe_c cR hr (by omega) (by rfl) (pa_cons (pv 0) (pa_cons (pe_callB call_len_str (by rfl) ml PySem.boot_len (pa_cons (pv 1) pa_nil)) pa_nil))) (pa_cons (C8.pe_c cO hr (by omega) (by rfl) (pa_cons (pv 0) (pa_cons (pe_str) pa_nil))) pa_nil)))
          (pg_tup rfl (pgs_cons (pg_name (i := 2) scNear.nd rfl (.inr rfl)) (pgs_cons (pg_name (i := 3) scNear.nd rfl (.inl rfl)) pgs_nil))))
      (pss_cons (ps_set (i := 4) scNear.nd rfl (.inl rfl) (pe_lst (pa_cons (pe_str) (pa_cons (pe_str) (pa_cons (pe_str) (pa_cons (pe_str) (pa_cons (pe_str) (pa_cons (pe_str) (pa_cons (pe_str) (pa_cons (pe_str) (pa_cons (pe_str) (pa_cons (pe_str) (pa_cons (pv 3) pa_nil)))))))))))))
      (pss_cons (ps_setLc (i := 5) (own := [("sign", 6)]) (g := gName 6) (tt := tYes) rfl scNear.nd rfl rfl (sw_true rfl rfl rfl (by decide +kernel)) (pi_list (pv 4)) (blkOk_by (N := ["bag", "name", "spot", "letter", "signs", "found", "sign"]) (sc := defScope s_L_near) (by decide +kernel))
        (fun _ _ _ _ _ => pg_name (i := 6) scNear.nd rfl (Or.inl rfl)) (fun _ _ _ _ _ => pts_nil)
        (fun _ _ _ _ _ => pe_op op_add_str (pe_op op_add_str (pe_slice sl_str (pv 1) po_none (po_some (pv 2))) (pv 6)) (pe_slice sl_str (pv 1) (po_some (pe_op op_add (pv 2) pe_int)) po_none)))
      (pss_cons (ps_set (i := 5) scNear.nd rfl (.inl rfl) (pe_op op_cat (pv 5) (pe_lst (pa_cons (pe_op op_add_str (pe_op op_add_str (pe_slice sl_str (pv 1) po_none (po_some (pv 2))) (pv 3)) (pe_slice sl_str (pv 1) (po_some (pv 2)) po_none)) (pa_cons (pe_op op_add_str (pe_slice sl_str (pv 1) po_none (po_some (pv 2))) (pe_slice sl_str (pv 1) (po_some (pe_op op_add (pv 2) pe_int)) po_none)) (pa_cons (pe_op op_add_str (pv 1) pe_str) (pa_cons (pe_op op_add_str pe_str (pv 1)) pa_nil)))))))
      (pss_one (ps_ret (pe_op op_cat (pv 5) (pe_lst (pa_cons (pe_slice sl_str (pe_op op_repS (pv 1) pe_int) po_none (po_some pe_int)) (pa_cons (pe_slice sl_str (pe_op op_repS (pv 1) pe_int) po_none (po_some pe_int)) (pa_cons (pe_slice sl_str (pe_op op_repS (pv 1) pe_int) po_none (po_some pe_int)) (pa_cons (pe_upper (pv 1)) (pa_cons (pe_op op_repS (pv 1) pe_int) pa_nil))))))))))))), ?_⟩
    have az := name_asc nz
    have sz := name_size nz
    have big : ∀ {k : Nat} {y : Str}, Asc k y → k ≤ 100000 → y.length ≤ sizeLine := fun a k => Nat.le_trans a.1 (Nat.le_trans k (by decide))
    have both : ∀ {k m : Nat} {x y : Str}, Asc k x → Asc m y → k + m ≤ 100000 → x.length + y.length ≤ sizeLine := fun a c k => by
      have := a.1
      have := c.1
      rw [sizeLine_eq]
      omega
    refine ⟨_, rfl, _, rfl, z, rfl, big az (by decide), b, _, n, rfl, by omega, by omega, g, by omega, fun H1 sp kp1 g1 s0 s1 => ?_⟩
    refine ⟨_, rfl, b, _, _, n + 1, rfl, .inr ⟨_, rfl, by decide +kernel, rfl⟩, by decide +kernel, by decide +kernel, g1, by omega, fun H2 x kp2 g2 hx => ?_⟩
    obtain ⟨c, hc, rfl⟩ := List.mem_map.mp hx
    have hc : c < 128 := (show ∀ c ∈ cs (Str.ofString "aejkqz"), c < 128 by decide +kernel) c hc
    have al := Asc.one hc
    refine ⟨(show 2 ≤ sizeLine by decide), fun tp ntp => ⟨tp, _, rfl, .inl (.inl upd_same), rfl, _, _, rfl, _, _, rfl, rfl, ?_⟩⟩
    have k2 : Keep b H (upd H2 tp (.tup [.int sp, .str ⟨#[c]⟩])) := (kp1.trans kp2).snoc ntp
    have g3 := g2.new (o := HO.tup [.int sp, .str ⟨#[c]⟩]) ntp
    generalize upd H2 tp (.tup [.int sp, .str ⟨#[c]⟩]) = H3 at k2 g3
    clear kp1 g1 kp2 g2 ntp
    refine ⟨_, rfl, (show 11 ≤ sizeLine by decide), fun p1 np1 => ?_⟩
    have sm1 := same_upd (o := HO.lst [.str (Str.ofString "A"), .str (Str.ofString "Z"), .str (Str.ofString "`"), .str (Str.ofString "{"), .str (Str.ofString "0"), .str (Str.ofString "9"), .str (Str.ofString "_"), .str (Str.ofString " "), .str (Str.ofString "."), .str (Str.ofString "-"), .str ⟨#[c]⟩]) np1
    have hq1 : SqL K (upd H3 p1 (HO.lst [.str (Str.ofString "A"), .str (Str.ofString "Z"), .str (Str.ofString "`"), .str (Str.ofString "{"), .str (Str.ofString "0"), .str (Str.ofString "9"), .str (Str.ofString "_"), .str (Str.ofString " "), .str (Str.ofString "."), .str (Str.ofString "-"), .str ⟨#[c]⟩])) p1
      ([Str.ofString "A", Str.ofString "Z", Str.ofString "`", Str.ofString "{", Str.ofString "0", Str.ofString "9", Str.ofString "_", Str.ofString " ", Str.ofString ".", Str.ofString "-", ⟨#[c]⟩].map V.str) := .inl (.inl upd_same)
    have signsOk : Ascs 1 [Str.ofString "A", Str.ofString "Z", Str.ofString "`", Str.ofString "{", Str.ofString "0", Str.ofString "9", Str.ofString "_", Str.ofString " ", Str.ofString ".", Str.ofString "-", ⟨#[c]⟩] :=
      .cons (asc_by (by decide +kernel)) (.cons (asc_by (by decide +kernel)) (.cons (asc_by (by decide +kernel)) (.cons (asc_by (by decide +kernel)) (.cons (asc_by (by decide +kernel)) (.cons (asc_by (by decide +kernel))
        (.cons (asc_by (by decide +kernel)) (.cons (asc_by (by decide +kernel)) (.cons (asc_by (by decide +kernel)) (.cons (asc_by (by decide +kernel)) (.cons al (.nil 1)))))))))))
    generalize upd H3 p1 (HO.lst [.str (Str.ofString "A"), .str (Str.ofString "Z"), .str (Str.ofString "`"), .str (Str.ofString "{"), .str (Str.ofString "0"), .str (Str.ofString "9"), .str (Str.ofString "_"), .str (Str.ofString " "), .str (Str.ofString "."), .str (Str.ofString "-"), .str ⟨#[c]⟩]) = H4 at sm1 hq1
    have g4 := g3.same sm1
    have k4 := k2.trans (.of sm1)
    clear k2 g3 sm1 np1 H3
    refine ⟨.ref p1, rfl, p1, rfl, ⟨_, hq1⟩, fun D nD => ?_⟩
    generalize hsig : [Str.ofString "A", Str.ofString "Z", Str.ofString "`", Str.ofString "{", Str.ofString "0", Str.ofString "9", Str.ofString "_", Str.ofString " ", Str.ofString ".", Str.ofString "-", ⟨#[c]⟩] = sigs at hq1 signsOk
    have few : sigs.length = 11 := by rw [← hsig]; rfl
    refine lc_vals walk_list (fun _ => true) (fun v => match v with | .str y => .str (cutS z none (some sp) ++ y ++ cutS z (some (sp + 1)) none) | _ => .non) (by rw [List.length_map, few]; decide) nD (fun H' sm => sm.seq hq1) (fun x H5 Ky Kn hx sm k1 k0 => ?_) (fun H5 sm5 e5 => ?_)
    · obtain ⟨y, hy, rfl⟩ := List.mem_map.mp hx
      have ay := signsOk y hy
      refine ⟨rfl, _, rfl, _, rfl, _, rfl, z, rfl, big az (by decide), _, rfl, _, _, rfl, rfl, both (az.cut _ _) ay (by decide), _, rfl, _, rfl, _, _, rfl, rfl, _, rfl, z, rfl, big az (by decide), _, _, rfl, rfl, both ((az.cut _ _).app ay) (az.cut _ _) (by decide), ?_⟩
      exact k1 _ (.refl _) rfl
    · have e6 : (((sigs.map V.str).filter fun _ => true).map fun v => match v with | .str y => V.str (cutS z none (some sp) ++ y ++ cutS z (some (sp + 1)) none) | _ => .non) = (sigs.map fun y => cutS z none (some sp) ++ y ++ cutS z (some (sp + 1)) none).map V.str := by
        rw [List.filter_eq_self.mpr fun _ _ => rfl, List.map_map, List.map_map]
        rfl
      rw [e6] at e5
      have fOk : Ascs 17 (sigs.map fun y => cutS z none (some sp) ++ y ++ cutS z (some (sp + 1)) none) := fun v hv => by
        obtain ⟨y, hy, rfl⟩ := List.mem_map.mp hv
        exact ((az.cut _ _).app (signsOk y hy)).app (az.cut _ _)
      have fLen : (sigs.map fun y => cutS z none (some sp) ++ y ++ cutS z (some (sp + 1)) none).length = 11 := by rw [List.length_map, few]
      generalize (sigs.map fun y => cutS z none (some sp) ++ y ++ cutS z (some (sp + 1)) none) = f1 at e5 fOk fLen
      have g5 := g4.same sm5
      have k5 := k4.trans (.of sm5)
      clear g4 k4 sm5 hq1 signsOk e6 nD
      refine ⟨_, rfl, _, rfl, _, rfl, _, rfl, z, rfl, big az (by decide), _, rfl, _, _, rfl, rfl, both (az.cut _ _) al (by decide), _, rfl, _, rfl, _, rfl, z, rfl, big az (by decide), _, _, rfl, rfl, both ((az.cut _ _).app al) (az.cut _ _) (by decide), ?_⟩
      refine ⟨_, rfl, _, rfl, _, rfl, z, rfl, big az (by decide), _, rfl, _, rfl, _, _, rfl, rfl, _, rfl, z, rfl, big az (by decide), _, _, rfl, rfl, both (az.cut _ _) (az.cut _ _) (by decide), ?_⟩
      refine ⟨_, rfl, _, _, rfl, rfl, both az (asc_by (n := 1) (z := Str.ofString "\n") (by decide +kernel)) (by decide), ?_⟩
      refine ⟨_, rfl, _, _, rfl, rfl, both (asc_by (n := 1) (z := Str.ofString " ") (by decide +kernel)) az (by decide), ?_⟩
      refine ⟨(show 4 ≤ sizeLine by decide), fun p2 np2 => ?_⟩
      have sm6 := same_upd (o := HO.lst [.str (cutS z none (some sp) ++ ⟨#[c]⟩ ++ cutS z (some sp) none), .str (cutS z none (some sp) ++ cutS z (some (sp + 1)) none), .str (z ++ Str.ofString "\n"), .str (Str.ofString " " ++ z)]) np2
      refine ⟨_, p2, f1.map V.str, [cutS z none (some sp) ++ ⟨#[c]⟩ ++ cutS z (some sp) none, cutS z none (some sp) ++ cutS z (some (sp + 1)) none, z ++ Str.ofString "\n", Str.ofString " " ++ z].map V.str, rfl, rfl, sm6 _ _ e5, upd_same, ?_, fun p3 np3 => ?_⟩
      · rw [List.length_map, fLen]
        show 11 + 4 ≤ sizeLine
        decide
      have sm7 := same_snoc (o := HO.lst (f1.map V.str ++ [cutS z none (some sp) ++ ⟨#[c]⟩ ++ cutS z (some sp) none, cutS z none (some sp) ++ cutS z (some (sp + 1)) none, z ++ Str.ofString "\n", Str.ofString " " ++ z].map V.str)) sm6 np3
      have e7 : upd (upd H5 p2 (HO.lst [.str (cutS z none (some sp) ++ ⟨#[c]⟩ ++ cutS z (some sp) none), .str (cutS z none (some sp) ++ cutS z (some (sp + 1)) none), .str (z ++ Str.ofString "\n"), .str (Str.ofString " " ++ z)])) p3
          (HO.lst (f1.map V.str ++ [cutS z none (some sp) ++ ⟨#[c]⟩ ++ cutS z (some sp) none, cutS z none (some sp) ++ cutS z (some (sp + 1)) none, z ++ Str.ofString "\n", Str.ofString " " ++ z].map V.str)) p3 =
          some (.lst ((f1 ++ [cutS z none (some sp) ++ ⟨#[c]⟩ ++ cutS z (some sp) none, cutS z none (some sp) ++ cutS z (some (sp + 1)) none, z ++ Str.ofString "\n", Str.ofString " " ++ z]).map V.str)) := by
        rw [upd_same, List.map_append]
      have gOk : Ascs 8000 (f1 ++ [cutS z none (some sp) ++ ⟨#[c]⟩ ++ cutS z (some sp) none, cutS z none (some sp) ++ cutS z (some (sp + 1)) none, z ++ Str.ofString "\n", Str.ofString " " ++ z]) :=
        .app (fun y hy => (fOk y hy).mono (by decide)) (.cons ((((az.cut _ _).app al).app (az.cut _ _)).mono (by decide)) (.cons (((az.cut _ _).app (az.cut _ _)).mono (by decide))
          (.cons ((az.app (asc_by (n := 1) (z := Str.ofString "\n") (by decide +kernel))).mono (by decide)) (.cons (((asc_by (n := 1) (z := Str.ofString " ") (by decide +kernel)).app az).mono (by decide)) (.nil _)))))
      have gLen : (f1 ++ [cutS z none (some sp) ++ ⟨#[c]⟩ ++ cutS z (some sp) none, cutS z none (some sp) ++ cutS z (some (sp + 1)) none, z ++ Str.ofString "\n", Str.ofString " " ++ z]).length = 15 := by
        rw [List.length_append, fLen]
        rfl
      generalize (f1 ++ [cutS z none (some sp) ++ ⟨#[c]⟩ ++ cutS z (some sp) none, cutS z none (some sp) ++ cutS z (some (sp + 1)) none, z ++ Str.ofString "\n", Str.ofString " " ++ z]) = f2 at e7 gOk gLen
      generalize upd (upd H5 p2 (HO.lst [.str (cutS z none (some sp) ++ ⟨#[c]⟩ ++ cutS z (some sp) none), .str (cutS z none (some sp) ++ cutS z (some (sp + 1)) none), .str (z ++ Str.ofString "\n"), .str (Str.ofString " " ++ z)])) p3
          (HO.lst (f1.map V.str ++ [cutS z none (some sp) ++ ⟨#[c]⟩ ++ cutS z (some sp) none, cutS z none (some sp) ++ cutS z (some (sp + 1)) none, z ++ Str.ofString "\n", Str.ofString " " ++ z].map V.str)) = H7 at e7 sm7
      have g7 := g5.same sm7
      have k7 := k5.trans (.of sm7)
      have rp : ∀ k : Nat, k ≤ 900 → z.length * k ≤ 100000 := fun k hk => by
        have := Nat.mul_le_mul sz.2 hk
        omega
      refine ⟨_, rfl, _, rfl, z, 9, rfl, rfl, by decide, by decide, by omega, rp 9 (by decide), _, rfl, _, rfl, big (az.rep 9) (by decide), ?_⟩
      refine ⟨_, rfl, z, 9, rfl, rfl, by decide, by decide, by omega, rp 9 (by decide), _, rfl, _, rfl, big (az.rep 9) (by decide), ?_⟩
      refine ⟨_, rfl, z, 9, rfl, rfl, by decide, by decide, by omega, rp 9 (by decide), _, rfl, _, rfl, big (az.rep 9) (by decide), ?_⟩
      refine ⟨_, rfl, ⟨_, rfl⟩, z, rfl, rfl, by omega, _, rfl, z, 900, rfl, rfl, by decide, by decide, by omega, rp 900 (by decide), ?_⟩
      refine ⟨(show 5 ≤ sizeLine by decide), fun p4 np4 => ?_⟩
      have sm8 := same_upd (o := HO.lst ([cutS (txtRep z 9) none (some 7), cutS (txtRep z 9) none (some 8), cutS (txtRep z 9) none (some 9), Txt.upper z, txtRep z 900].map V.str)) np4
      refine ⟨_, p4, f2.map V.str, [cutS (txtRep z 9) none (some 7), cutS (txtRep z 9) none (some 8), cutS (txtRep z 9) none (some 9), Txt.upper z, txtRep z 900].map V.str, rfl, rfl, sm8 _ _ e7, upd_same, ?_, fun p5 np5 => ?_⟩
      · rw [List.length_map, gLen]
        show 15 + 5 ≤ sizeLine
        decide
      have sm9 := same_snoc (o := HO.lst (f2.map V.str ++ [cutS (txtRep z 9) none (some 7), cutS (txtRep z 9) none (some 8), cutS (txtRep z 9) none (some 9), Txt.upper z, txtRep z 900].map V.str)) sm8 np5
      have np0 : H p5 = none := by
        have n7 := sm8.free np5
        cases e : H p5 with
        | none => rfl
        | some o =>
          have := k7 p5 o (fun e2 => absurd rfl (e2 ▸ (g7.ne n7).symm)) e
          rw [this] at n7
          cases n7
      refine q _ p5 (f2 ++ [cutS (txtRep z 9) none (some 7), cutS (txtRep z 9) none (some 8), cutS (txtRep z 9) none (some 9), Txt.upper z, txtRep z 900]) (k7.trans (.of sm9)) np0 (g7.same sm9) (by rw [List.map_append]; exact upd_same) ?_ ?_
      · rw [List.length_append, gLen]
        show 15 + 5 ≤ 100
        decide
      · exact .app gOk (.cons (((az.rep 9).cut _ _).mono (by decide)) (.cons (((az.rep 9).cut _ _).mono (by decide)) (.cons (((az.rep 9).cut _ _).mono (by decide)) (.cons (az.up.mono (by decide)) (.cons ((az.rep 900).mono (by decide)) (.nil _))))))
/-! ### _law_near_keyword -/
theorem scNearK : FnScope ["bag", "word", "other", "found", "one"] ["bag"] (defScope s_L_near_keyword) := ⟨rfl, rfl, rfl, by decide +kernel, rfl, by decide +kernel, by decide +kernel⟩
def spNearK : Sp := fun vs H Q _ => ∃ (b : Addr) (n : Nat), vs = [.ref b] ∧ Bag H b n ∧ n + 100 ≤ bagMost ∧
  ∀ (H' : Hp) (p : Addr) (zs : List Str), Keep b H H' → H p = none → Bag H' b (n + 2) → H' p = some (.lst (zs.map V.str)) → zs.length ≤ 100 → Ascs 8000 zs → Q (.ref p) H'
/-- what stands for one keyword -/
def kwForms (z : Str) : List Str := [z, z ++ Str.ofString "s", cutS z (some 1) none, cutS z none (some (-1)), z ++ ⟨#[(cs z).getLastD 0]⟩, revS z, Txt.upper z, Str.ofString "a" ++ z]
theorem kwForms_asc {z : Str} (h : Asc 6 z) (h0 : 1 ≤ z.length) : Ascs 8000 (kwForms z) := by
  have last : (cs z).getLastD 0 < 128 := by
    have ne : cs z ≠ [] := fun e => by
      rw [cs_len, e] at h0
      exact absurd h0 (by decide)
    rw [List.getLastD_eq_getLast?, List.getLast?_eq_some_getLast ne]
    exact h.2 _ (List.getLast_mem ne)
  exact .cons (h.mono (by decide)) (.cons ((h.app (asc_by (n := 1) (by decide +kernel))).mono (by decide)) (.cons ((h.cut _ _).mono (by decide)) (.cons ((h.cut _ _).mono (by decide)) (.cons ((h.app (.one last)).mono (by decide))
    (.cons (h.rev.mono (by decide)) (.cons (h.up.mono (by decide)) (.cons (((asc_by (n := 1) (z := Str.ofString "a") (by decide +kernel)).app h).mono (by decide)) (.nil _))))))))
theorem ok_nearK {f : Addr} {fd : FuncData} (F : Fun K "_law_near_keyword" "_law_near_keyword" s_L_near_keyword f fd) (cO : Cal P w K mg base 2 "_law_one" (spOne K)) : FnOk P w K mg base CX0 3 f fd ["bag"] spNearK := by
  refine F.ok scNearK (fun vs H Q E h => ?_) (fun cdv A outer s H vs Q E hr h => ?_)
  · obtain ⟨b, n, rfl, _⟩ := h
    rfl
  · obtain ⟨b, n, rfl, g, nm, q⟩ := h
    refine ⟨_, (pss_cons (ps_set (i := 1) scNearK.nd rfl (.inl rfl) (C8.pe_c cO hr (by omega) (by rfl) (pa_cons (pv 0) (pa_cons (pe_lst (pa_cons (pe_str) (pa_cons (pe_str) (pa_cons (pe_str) (pa_cons (pe_str) (pa_cons (pe_str) (pa_cons (pe_str) (pa_cons (pe_str) (pa_cons (pe_str) pa_nil))))))))) pa_nil))))
      (pss_cons (ps_set (i := 2) scNearK.nd rfl (.inl rfl) (C8.pe_c cO hr (by omega) (by rfl) (pa_cons (pv 0) (pa_cons (pe_lst (pa_cons (pe_str) (pa_cons (pe_str) (pa_cons (pe_str) (pa_cons (pe_str) (pa_cons (pe_str) (pa_cons (pe_str) (pa_cons (pe_str) (pa_cons (pe_str) pa_nil))))))))) pa_nil))))
      (pss_cons (ps_set (i := 3) scNearK.nd rfl (.inl rfl) (pe_lst pa_nil))
      (pss_cons (ps_for PassesOwn.never rfl (pi_tup (pe_tup (pa_cons (pv 1) (pa_cons (pv 2) pa_nil)))) (pg_name (i := 4) scNearK.nd rfl (.inl rfl)) (pss_one (ps_set (i := 3) scNearK.nd rfl (.inl rfl) (pe_op op_cat (pv 3) (pe_lst (pa_cons (pv 4) (pa_cons (pe_op op_add_str (pv 4) pe_str) (pa_cons (pe_slice sl_str (pv 4) (po_some pe_int) po_none) (pa_cons (pe_slice sl_str (pv 4) po_none (po_some (pe_un un_neg pe_int))) (pa_cons (pe_op op_add_str (pv 4) (pe_ix ix_str (pv 4) (pe_un un_neg pe_int) (fun _ _ => rfl))) (pa_cons (pe_revS (pv 4)) (pa_cons (pe_upper (pv 4)) (pa_cons (pe_op op_add_str pe_str (pv 4)) pa_nil)))))))))))))
      (pss_one (ps_ret (pv 3))))))), ?_⟩
    have kwOk : ∀ ks : List Str, (∀ k ∈ ks, k ∈ keywordsL) → ∀ v ∈ ks.map V.str, ∃ z, v = .str z ∧ Asc 6 z ∧ 1 ≤ z.length := fun ks hk v hv => by
      obtain ⟨z, hz, rfl⟩ := List.mem_map.mp hv
      have all : ∀ k ∈ keywordsL, (decide (k.length ≤ 6) && (cs k).all fun c => decide (c < 128)) = true ∧ 1 ≤ k.length := by decide +kernel
      exact ⟨z, rfl, asc_by (all z (hk z hz)).1, (all z (hk z hz)).2⟩
    refine ⟨_, rfl, (show 8 ≤ sizeLine by decide), fun p1 np1 => ?_⟩
    have b1 := g.ne np1
    refine ⟨b, _, [Str.ofString "call", Str.ofString "copy", Str.ofString "def", Str.ofString "drop", Str.ofString "fields", Str.ofString "full", Str.ofString "lend", Str.ofString "look"].map V.str, n, rfl, .inl ⟨p1, rfl, b1.symm, .inl (.inl (.inl upd_same))⟩, by simp, by decide, g.new np1, by omega, fun H2 x1 kp2 g2 hx1 => ?_⟩
    obtain ⟨z1, rfl, a1, l1⟩ := kwOk _ (by decide +kernel) x1 hx1
    refine ⟨_, rfl, (show 8 ≤ sizeLine by decide), fun p2 np2 => ?_⟩
    have b2 := g2.ne np2
    refine ⟨b, _, [Str.ofString "move", Str.ofString "new", Str.ofString "own", Str.ofString "put", Str.ofString "return", Str.ofString "skip", Str.ofString "take", Str.ofString "touch"].map V.str, n + 1, rfl, .inl ⟨p2, rfl, b2.symm, .inl (.inl (.inl upd_same))⟩, by simp, by decide, g2.new np2, by omega, fun H3 x2 kp3 g3 hx2 => ?_⟩
    obtain ⟨z2, rfl, a2, l2⟩ := kwOk _ (by decide +kernel) x2 hx2
    have k3 : Keep b H H3 := (((keep_new np1).trans kp2).snoc np2).trans kp3
    refine ⟨Nat.zero_le _, fun pf npf => ?_⟩
    have sf := same_upd (o := HO.lst []) npf
    refine ⟨.str z1, rfl, .str z2, rfl, (show 2 ≤ sizeLine by decide), fun pt npt => ?_⟩
    have st := same_snoc (o := HO.tup [.str z1, .str z2]) sf npt
    refine ⟨pt, rfl, ⟨_, .inl (.inl upd_same)⟩, ?_⟩
    refine for_tup (xs := [.str z1, .str z2]) (fun i σ' H' => ∃ (pq : Addr) (x4 : Option V) (zs : List Str), σ' = [some (.ref b), some (.str z1), some (.str z2), some (.ref pq), x4] ∧ Same H3 H' ∧ H3 pq = none ∧ H' pq = some (.lst (zs.map V.str)) ∧ zs.length = 8 * i ∧ Ascs 8000 zs ∧ H' pt = some (.tup [.str z1, .str z2]))
      ⟨pf, none, [], rfl, st, npf, (same_upd npt) _ _ upd_same, rfl, .nil _, upd_same⟩ (fun i σ' H' _ hP => ?_) (fun i x σ' H' hx hP => ?_) (fun σ' H' hP => ?_)
    · obtain ⟨_, _, _, _, _, _, _, _, _, h⟩ := hP
      exact .inl (.inl h)
    · obtain ⟨pq, x4, zs, rfl, sm, nq, hq, el, oz, ht⟩ := hP
      obtain ⟨z, rfl, az, lz⟩ : ∃ z, x = .str z ∧ Asc 6 z ∧ 1 ≤ z.length := by
        have m := List.mem_of_getElem? hx
        simp only [List.mem_cons, List.not_mem_nil, or_false] at m
        rcases m with rfl | rfl
        · exact ⟨z1, rfl, a1, l1⟩
        · exact ⟨z2, rfl, a2, l2⟩
      have zl := az.1
      have big : z.length ≤ sizeLine := Nat.le_trans zl (by decide)
      have one : z.length + 1 ≤ sizeLine := by rw [sizeLine_eq]; omega
      have hi : i < 2 := by
        have := (List.getElem?_eq_some_iff.mp hx).1
        exact this
      have last : atI (cs z) (-1) = some ((cs z).getLastD 0) := by
        have ne : cs z ≠ [] := fun e => by
          rw [cs_len, e] at lz
          exact absurd lz (by decide)
        rw [← List.dropLast_concat_getLast ne, atI_last, List.getLastD_concat]
      refine ⟨_, rfl, .str z, rfl, _, rfl, _, _, rfl, rfl, one, _, rfl, _, rfl, z, rfl, big, _, rfl, 1, rfl, _, rfl, z, rfl, big, ?_⟩
      refine ⟨_, rfl, _, rfl, 1, rfl, z, _, (cs z).getLastD 0, rfl, rfl, big, last, _, _, rfl, rfl, one, _, rfl, z, rfl, big, ?_⟩
      refine ⟨_, rfl, ⟨_, rfl⟩, z, rfl, rfl, by omega, _, rfl, _, _, rfl, rfl, (show 1 + z.length ≤ sizeLine by omega), (show 8 ≤ sizeLine by decide), fun p4 np4 => ?_⟩
      have s4 := same_upd (o := HO.lst ((kwForms z).map V.str)) np4
      refine ⟨pq, p4, zs.map V.str, (kwForms z).map V.str, rfl, rfl, s4 _ _ hq, upd_same, ?_, fun p5 np5 => ?_⟩
      · rw [List.length_map, el]
        show 8 * i + 8 ≤ sizeLine
        rw [sizeLine_eq]
        omega
      have s5 := same_snoc (o := HO.lst (zs.map V.str ++ (kwForms z).map V.str)) s4 np5
      refine ⟨p5, _, zs ++ kwForms z, rfl, sm.trans s5, (sm.trans s4).free np5, by rw [List.map_append]; exact upd_same, ?_, oz.app (kwForms_asc az lz), s5 _ _ ht⟩
      rw [List.length_append, el]
      rfl
    · obtain ⟨pq, x4, zs, rfl, sm, nq, hq, el, oz, ht⟩ := hP
      have np0 : H pq = none := by
        cases e : H pq with
        | none => rfl
        | some o =>
          have := k3 pq o (g3.ne nq).symm e
          rw [this] at nq
          cases nq
      refine ⟨_, rfl, q _ pq zs (k3.trans (.of sm)) np0 (g3.same sm) hq ?_ oz⟩
      rw [el]
      show 8 * 2 ≤ 100
      decide
/-! ### _law_bag -/
theorem scBag : FnScope ["script", "at", "cell", "great"] ["script", "at"] (defScope s_L_bag) := ⟨rfl, rfl, rfl, by decide +kernel, rfl, by decide +kernel, by decide +kernel⟩
def spBag (K : PySem.W.Frag) : Sp := fun vs H Q _ => ∃ (a : Addr) (ns : List Int) (i : Nat), vs = [.ref a, .int (i : Int)] ∧ SqL K H a (ns.map V.int) ∧
  ∀ H' p, Same H H' → H p = none → Bag H' p 0 → Q (.ref p) H'
theorem ok_bag {f : Addr} {fd : FuncData} (F : Fun K "_law_bag" "_law_bag" s_L_bag f fd) (ml : mg "len" = none) (mi : mg "int" = none) (ma : mg "abs" = none) (mx : mg "max" = none) :
    FnOk P w K mg base CX0 1 f fd ["script", "at"] (spBag K) := by
  refine F.ok scBag (fun vs H Q E h => ?_) (fun cdv A outer s H vs Q E hr h => ?_)
  · obtain ⟨a, ns, i, rfl, _⟩ := h
    rfl
  · obtain ⟨a, ns, i, rfl, hS, q⟩ := h
    refine ⟨_, Evl.pss_cut (ps_set (i := 2) scBag.nd rfl (.inl rfl) (pe_ifExp (pt_cmpR op_lt (pv 1) (pe_callB call_len_seq (by rfl) ml PySem.boot_len (pa_cons (pv 0) pa_nil)) (nomark _))
          (pe_ix ix_list (pv 0) (pv 1) (fun _ _ => rfl)) (pe_op op_add (pe_op op_mul pe_int (pv 1)) pe_int)))
      (pss_cons (ps_set (i := 3) scBag.nd rfl (.inl rfl) (pe_op op_mod (pe_callTy call_int1 (by rfl) mi boot_int (pa_cons (pe_callB call_abs (by rfl) ma (by decide +kernel) (pa_cons (pv 2) pa_nil)) pa_nil)) (pe_op op_powW (pe_op op_pow pe_int pe_int) pe_int)))
      (pss_one (ps_ret (pe_lst (pa_cons (pe_callB (call_max2 rfl) (by rfl) mx (by decide +kernel) (pa_cons pe_int (pa_cons (pe_op op_sub (pv 3) (pe_op op_pow pe_int pe_int)) pa_nil)))
        (pa_cons (pe_op op_add (pe_op op_add (pe_op op_mul (pe_op op_mod (pe_callTy call_int1 (by rfl) mi boot_int (pa_cons (pv 3) pa_nil)) pe_int) pe_int) (pe_op op_mul pe_int (pv 1)))
            (pe_callTy call_int1 (by rfl) mi boot_int (pa_cons (pe_cmpR op_lt (pv 2) pe_int (nomark _)) pa_nil)))
          (pa_cons pe_int pa_nil))))))), ?_⟩
    refine ⟨fun σ' H' => ∃ c : Int, σ' = [some (.ref a), some (.int i), some (.int c), none] ∧ H' = H, ?_, ?_⟩
    · refine ⟨_, rfl, .ref a, rfl, a, _, rfl, .inl hS, _, _, rfl, rfl, _, rfl, ite2 (fun e => ?_) (fun e => ?_)⟩
      · have lt : i < ns.length := by
          have e1 := of_decide_eq_true e
          rw [List.length_map] at e1
          omega
        exact ⟨_, rfl, _, rfl, a, _, _, _, rfl, rfl, hS, atI_nat (by rw [List.getElem?_map, List.getElem?_eq_getElem lt] <;> rfl), _, rfl, rfl⟩
      · exact ⟨_, rfl, _, _, rfl, rfl, .inl ⟨by decide, by decide⟩, _, _, rfl, rfl, _, rfl, rfl⟩
    · rintro σ' H' ⟨c, rfl, rfl⟩
      refine ⟨_, rfl, _, rfl, .inl ⟨_, rfl, 10, 60, rfl, rfl, ⟨by decide, by decide, by decide⟩, _, 9, rfl, rfl, ⟨by decide, by decide +kernel⟩, _, _, rfl, rfl, (show (0 : Int) < ((10 : Int) ^ (60 : Int).toNat) ^ (9 : Int).toNat by decide +kernel), ?_⟩⟩
      generalize ((if c < 0 then -c else c) % (10 ^ (60 : Int).toNat) ^ (9 : Int).toNat) = g
      refine ⟨_, rfl, 10, 18, rfl, rfl, ⟨by decide, by decide, by decide⟩, _, _, rfl, rfl, _, _, rfl, ?_⟩
      refine ⟨_, rfl, .inl ⟨_, rfl, _, _, rfl, rfl, (show (0 : Int) < 2305843009213693907 by decide), _, _, rfl, rfl, .inr ⟨by decide, by decide⟩, _, rfl, _, _, rfl, rfl, .inl ⟨by decide, by decide⟩, _, _, rfl, rfl, ?_⟩⟩
      refine ⟨_, rfl, _, _, rfl, rfl, .inr ⟨_, rfl, _, _, rfl, rfl, ?_⟩⟩
      refine ⟨(show 3 ≤ sizeLine by decide), fun p hp => ?_⟩
      exact q _ p (same_upd hp) hp ⟨_, _, _, upd_same, by decide, by decide⟩
/-! ### the law -/
abbrev lawN : List Str := ["script", "at", "bag", "names", "name", "text", "due", "fields"]
theorem scLaw : FnScope lawN ["script"] (defScope s_law) := ⟨rfl, rfl, rfl, by decide +kernel, rfl, by decide +kernel, by decide +kernel⟩
def spLaw (K : PySem.W.Frag) : Sp := fun vs H Q _ => ∃ (a : Addr) (ns : List Int), vs = [.ref a] ∧ SqL K H a (ns.map V.int) ∧ ns.length ≤ 63 ∧ ∀ H', Q (.bl true) H'
theorem keep_same {b : Addr} {H0 H1 H2 : Hp} (s : Same H0 H1) (n : H0 b = none) (k : Keep b H1 H2) : Same H0 H2 := fun a o e => k a o (ne_of_none e n) (s a o e)
theorem fields_mid {x t y : Str} (hx : isName x = true) (hy : isName y = true) (ne : x ≠ y) : FieldsOk [x, t, y] ↔ isName t = true ∧ t ∉ [x, y] := by
  unfold FieldsOk
  simp only [List.length_cons, List.length_nil, List.mem_cons, List.not_mem_nil, or_false, forall_eq_or_imp, forall_eq, List.nodup_cons, not_or, not_false_eq_true, List.nodup_nil, and_true]
  constructor
  · rintro ⟨_, _, ⟨_, h, _⟩, ⟨h1, _⟩, h2⟩
    exact ⟨h, fun e => h1 e.symm, h2⟩
  · rintro ⟨h, h1, h2⟩
    exact ⟨by decide, by decide, ⟨hx, h, hy⟩, ⟨fun e => h1 e.symm, ne⟩, h2⟩
theorem fields_three {x y z : Str} (hx : isName x = true) (hy : isName y = true) (hz : isName z = true) (nd : [x, y, z].Nodup) : FieldsOk [x, y, z] := by
  refine ⟨(show 1 ≤ 3 by decide), (show 3 ≤ 4 by decide), fun w hw => ?_, nd⟩
  simp only [List.mem_cons, List.not_mem_nil, or_false] at hw
  rcases hw with rfl | rfl | rfl
  · exact hx
  · exact hy
  · exact hz
theorem ok_law {f : Addr} {fd : FuncData} (F : Fun K "law" "law" s_law f fd) (mr : mg "range" = none) (mx : mg "max" = none) (mn : mg "min" = none) (ml : mg "len" = none) (cB : Cal P w K mg base 1 "_law_bag" (spBag K))
    (cNs : Cal P w K mg base 4 "_law_names" spNames) (cNe : Cal P w K mg base 3 "_law_near" spNear) (cNk : Cal P w K mg base 3 "_law_near_keyword" spNearK) (cD : Cal P w K mg base 1 "_law_due" spDue) (cF : Cal P w K mg base 3 "is_fields" spFields)
    (cI : Cal P w K mg base 1 "_law_is" spIs) (cN : Cal P w K mg base 1 "is_name" spIsName) (cP : Cal P w K mg base 4 "is_part" spPartS) : FnOk P w K mg base CX0 6 f fd ["script"] (spLaw K) := by
  refine F.ok scLaw (fun vs H Q E h => ?_) (fun cdv A outer s H vs Q E hr h => ?_)
  · obtain ⟨a, ns, rfl, _⟩ := h
    rfl
  · obtain ⟨a, ns, rfl, hS, few, q⟩ := h
    refine ⟨_, (pss_cons (ps_for PassesOwn.never rfl (pi_range1 (by rfl) mr (pa_cons (pe_callB (call_max2 rfl) (by rfl) mx (by decide +kernel) (pa_cons (pe_int) (pa_cons (pe_callB (call_min2 rfl) (by rfl) mn (by decide +kernel) (pa_cons (pe_int) (pa_cons (pe_callB call_len_seq (by rfl) ml PySem.boot_len (pa_cons (pv 0) pa_nil)) pa_nil))) pa_nil))) pa_nil))
          (pg_name (i := 1) scLaw.nd rfl (Or.inl rfl)) (pss_cons (ps_set (i := 2) scLaw.nd rfl (.inl rfl) (C8.pe_c cB hr (by omega) (by rfl) (pa_cons (pv 0) (pa_cons (pv 1) pa_nil))))
      (pss_cons (ps_set (i := 3) scLaw.nd rfl (.inl rfl) (C8.pe_c cNs hr (by omega) (by rfl) (pa_cons (pv 2) (pa_cons (pe_int) pa_nil))))
      (pss_cons (ps_set (i := 4) scLaw.nd rfl (.inl rfl) (pe_ix ix_list (pv 3) pe_int (fun _ _ => rfl)))
      (pss_cons (ps_if (PW.pt (pw_or (pt_not (pt_val (C8.pe_c cN hr (by omega) (by rfl) (pa_cons (pv 4) pa_nil)))) (pw_or1 (pt_not (pt_val (C8.pe_c cF hr (by omega) (by rfl) (pa_cons (pe_tup (pa_cons (pv 4) (pa_cons (pe_ix ix_list (pv 3) pe_int (fun _ _ => rfl)) (pa_cons (pe_ix ix_list (pv 3) pe_int (fun _ _ => rfl)) pa_nil)))) pa_nil)))))))
          (pss_one (ps_ret pe_bl)) pss_nil)
      (pss_one (ps_for PassesOwn.never rfl (pi_list (pe_op op_cat (C8.pe_c cNe hr (by omega) (by rfl) (pa_cons (pv 2) (pa_cons (pv 4) pa_nil))) (C8.pe_c cNk hr (by omega) (by rfl) (pa_cons (pv 2) pa_nil)))) (pg_name (i := 5) scLaw.nd rfl (Or.inl rfl)) (pss_cons (ps_set (i := 6) scLaw.nd rfl (.inl rfl) (C8.pe_c cD hr (by omega) (by rfl) (pa_cons (pv 5) pa_nil)))
      (pss_cons (ps_set (i := 7) scLaw.nd rfl (.inl rfl) (pe_tup (pa_cons (pe_ix ix_list (pv 3) pe_int (fun _ _ => rfl)) (pa_cons (pv 5) (pa_cons (pe_ix ix_list (pv 3) pe_int (fun _ _ => rfl)) pa_nil)))))
      (pss_cons (ps_if (PW.pt (pw_or (pt_not (pt_val (C8.pe_c cI hr (by omega) (by rfl) (pa_cons (C8.pe_c cN hr (by omega) (by rfl) (pa_cons (pv 5) pa_nil)) (pa_cons (pv 6) pa_nil))))) (pw_or1 (pt_not (pt_val (C8.pe_c cI hr (by omega) (by rfl) (pa_cons (C8.pe_c cF hr (by omega) (by rfl) (pa_cons (pe_tup (pa_cons (pv 5) pa_nil)) pa_nil)) (pa_cons (pv 6) pa_nil))))))))
            (pss_one (ps_ret pe_bl)) pss_nil)
      (Evl.pss_cut (ps_if (pt_not (pt_val (C8.pe_c cI hr (by omega) (by rfl) (pa_cons (C8.pe_c cF hr (by omega) (by rfl) (pa_cons (pv 7) pa_nil)) (pa_cons (pe_and (pv 6) (pe_one (pe_cmpR op_notIn_seq (pv 5) (pe_tup (pa_cons (pe_ix ix_list (pv 3) pe_int (fun _ _ => rfl)) (pa_cons (pe_ix ix_list (pv 3) pe_int (fun _ _ => rfl)) pa_nil))) (by rfl)))) pa_nil)))))
            (pss_one (ps_ret pe_bl)) pss_nil)
      (pss_one (ps_if (pt_not (pt_val (C8.pe_c cI hr (by omega) (by rfl) (pa_cons (C8.pe_c cP hr (by omega) (by rfl) (pa_cons (pe_tup (pa_cons (pv 4) pa_nil)) (pa_cons (pv 5) pa_nil))) (pa_cons (pe_cmpR op_in_seq (pv 5) (pe_tup (pa_cons (pe_str) (pa_cons (pv 4) pa_nil))) (by rfl)) pa_nil)))))
            (pss_one (ps_ret pe_bl)) pss_nil)))))))))))))
      (pss_one (ps_ret pe_bl))), ?_⟩
    refine ⟨.ref a, rfl, a, _, rfl, .inl hS, _, _, rfl, _, _, rfl, _, rfl, by split <;> split <;> omega, by split <;> split <;> omega, ?_⟩
    generalize (if (if ((ns.map V.int).length : Int) < 8 then ((ns.map V.int).length : Int) else 8) > 1 then (if ((ns.map V.int).length : Int) < 8 then ((ns.map V.int).length : Int) else 8) else 1) = turns
    refine for_range (n := turns.toNat) (fun i σ' H' => (∃ x1 x2 x3 x4 x5 x6 x7 : Option V, σ' = [some (.ref a), x1, x2, x3, x4, x5, x6, x7]) ∧ Same H H')
      ⟨⟨_, _, _, _, _, _, _, rfl⟩, .refl H⟩ (fun i σ' H' hi hP => ?_) (fun σ' H' hP => q H')
    obtain ⟨⟨x1, x2, x3, x4, x5, x6, x7, rfl⟩, sm0⟩ := hP
    refine ⟨_, rfl, _, rfl, a, ns, i, (by show [V.ref a, V.int ((0 : Int) + (i : Int))] = _; rw [Int.zero_add]), sm0.seq hS, fun H1 b sm1 nb g1 => ?_⟩
    refine ⟨_, rfl, b, 3, 0, rfl, by decide, g1, by decide, fun H2 pn zs kp2 npn g2 hpn zl zok => ?_⟩
    have sm2 : Same H' H2 := keep_same sm1 nb kp2
    obtain ⟨n0, n1, n2, rfl⟩ : ∃ n0 n1 n2, zs = [n0, n1, n2] := by
      match zs, zl with
      | [x, y, z], _ => exact ⟨x, y, z, rfl⟩
    have o0 := zok.names (z := n0) (by simp)
    have o1 := zok.names (z := n1) (by simp)
    have o2 := zok.names (z := n2) (by simp)
    have nd := zok.nodup
    have n12 : n1 ≠ n2 := fun e => by
      subst e
      simp at nd
    have qn : SqL K H2 pn ([n0, n1, n2].map V.str) := .inl (.inl hpn)
    have datN : ∀ {z : Str} (H' : Hp), isName z = true → Dat H' (.str z) := fun H' h => Nat.le_trans (name_size h).2 (by decide)
    have pnb := g2.strs hpn
    refine ⟨_, rfl, pn, _, 0, .str n0, rfl, rfl, qn, atI_nat (j := 0) rfl, ?_⟩
    refine ⟨_, rfl, _, rfl, datN _ o0, fun H3 s3 => ⟨true, by rw [show nameV (.str n0) = true from o0], iteF ?_⟩⟩
    have qn3 := s3.seq qn
    refine ⟨_, rfl, _, rfl, pn, _, 1, .str n1, rfl, rfl, qn3, atI_nat (j := 1) rfl, _, rfl, pn, _, 2, .str n2, rfl, rfl, qn3, atI_nat (j := 2) rfl, (show 3 ≤ sizeLine by decide), fun pt npt => ?_⟩
    have st := same_upd (o := HO.tup [.str n0, .str n1, .str n2]) npt
    refine ⟨_, rfl, .inr (.inl ⟨_, upd_same⟩), fun a' xs e1 e2 => ?_, fun H4 rr s4 er => ?_⟩
    · cases e1
      rw [upd_same] at e2
      cases e2
      exact name_dat (zs := [n0, n1, n2]) (fun w hw => zok.names hw) _
    have e0 : rr = true := er.mpr ((fieldsV_iff (zs := [n0, n1, n2]) upd_same).mpr (fields_three o0 o1 o2 nd))
    subst e0
    refine ⟨true, rfl, iteF ?_⟩
    have sm4 := (s3.trans st).trans s4
    have g4 := g2.same sm4
    clear s3 st s4 npt qn3 er
    refine ⟨_, rfl, _, rfl, b, n0, _, rfl, o0, g4, by decide, fun H5 p5 za kp5 np5 g5 hp5 la oa => ?_⟩
    refine ⟨_, rfl, b, _, rfl, g5, by decide, fun H6 p6 zb kp6 np6 g6 hp6 lb ob => ?_⟩
    have p5b := g5.strs hp5
    refine ⟨p5, p6, _, _, rfl, rfl, kp6 _ _ p5b hp5, hp6, by rw [List.length_map, List.length_map, sizeLine_eq]; omega, fun p7 np7 => ?_⟩
    have s7 := same_upd (o := HO.lst (za.map V.str ++ zb.map V.str)) np7
    have k7 : Keep b H4 (L2.upd H6 p7 (HO.lst (za.map V.str ++ zb.map V.str))) := (kp5.trans kp6).snoc np7
    have sm7 : Same H' (L2.upd H6 p7 (HO.lst (za.map V.str ++ zb.map V.str))) := keep_same (sm2.trans sm4) nb k7
    have hpn7 := k7 _ _ pnb (sm4 _ _ hpn)
    have h7 : L2.upd H6 p7 (HO.lst (za.map V.str ++ zb.map V.str)) p7 = some (.lst ((za ++ zb).map V.str)) := by rw [List.map_append]; exact upd_same
    have oab := oa.app ob
    generalize L2.upd H6 p7 (HO.lst (za.map V.str ++ zb.map V.str)) = H7 at sm7 hpn7 h7
    clear kp5 kp6 g5 g6 hp5 hp6 np5 np6 np7 k7 s7 oa ob la lb
    refine ⟨p7, rfl, ⟨_, .inl (.inl h7)⟩, ?_⟩
    refine for_list (xs := (za ++ zb).map V.str) (fun _ σ8 H8 => ∃ x5 x6 x7 : Option V, σ8 = [some (.ref a), some (.int ((0 : Int) + (i : Int))), some (.ref b), some (.ref pn), some (.str n0), x5, x6, x7] ∧ Same H7 H8)
      ⟨_, _, _, rfl, .refl _⟩ (fun _ σ8 H8 _ hP => ?_) (fun i8 x σ8 H8 hx hP => ?_) (fun σ8 H8 hP => ?_)
    · obtain ⟨_, _, _, _, sm⟩ := hP
      exact .inl (.inl (sm _ _ h7))
    · obtain ⟨x5, x6, x7, rfl, sm8⟩ := hP
      obtain ⟨z, hz, rfl⟩ := List.mem_map.mp (List.mem_of_getElem? hx)
      have az := oab z hz
      have datZ : ∀ (H' : Hp), Dat H' (.str z) := fun H' => Nat.le_trans az.1 (by decide)
      have qn8 : SqL K H8 pn ([n0, n1, n2].map V.str) := .inl (.inl (sm8 _ _ hpn7))
      -- due
      refine ⟨_, rfl, z, rfl, az.mono (by decide), fun H9 s9 => ?_⟩
      have qn9 := s9.seq qn8
      refine ⟨_, rfl, pn, _, 1, .str n1, rfl, rfl, qn9, atI_nat (j := 1) rfl, .str z, rfl, _, rfl, pn, _, 2, .str n2, rfl, rfl, qn9, atI_nat (j := 2) rfl, (show 3 ≤ sizeLine by decide), fun pf npf => ?_⟩
      have sf := same_upd (o := HO.tup [.str n1, .str z, .str n2]) npf
      have hf : L2.upd H9 pf (HO.tup [.str n1, .str z, .str n2]) pf = some (.tup ([n1, z, n2].map V.str)) := upd_same
      -- is_name(text), is_fields((text,))
      refine ⟨_, rfl, _, rfl, datZ _, fun H10 s10 => ⟨_, rfl, _, _, rfl, true, by rw [show nameV (.str z) = isName z from rfl, decide_eq_true rfl], iteF ?_⟩⟩
      refine ⟨_, rfl, (show 1 ≤ sizeLine by decide), fun p1 np1 => ?_⟩
      have s1 := same_upd (o := HO.tup [V.str z]) np1
      refine ⟨_, rfl, .inr (.inl ⟨_, upd_same⟩), fun a' xs e1 e2 => ?_, fun H11 rr s11 er => ?_⟩
      · cases e1
        rw [upd_same] at e2
        cases e2
        intro y hy
        rw [List.mem_singleton.mp hy]
        exact datZ _
      have e11 := bool_of (er.trans ((fieldsV_iff (zs := [z]) upd_same).trans (fields_one z)))
      have e12 : rr = isName z := by
        rw [e11]
        cases isName z <;> rfl
      subst e12
      refine ⟨_, rfl, _, _, rfl, true, by rw [decide_eq_true rfl], iteF ?_⟩
      -- is_fields(fields)
      have s12 := (s10.trans s1).trans s11
      have hf11 := s12 _ _ hf
      refine ⟨fun σ9 Hx => σ9 = [some (.ref a), some (.int ((0 : Int) + (i : Int))), some (.ref b), some (.ref pn), some (.str n0), some (V.str z), some (V.bl (isName z)), some (.ref pf)] ∧ Same H8 Hx, ?_, ?_⟩
      · refine ⟨_, rfl, _, rfl, .inr (.inl ⟨_, hf11⟩), fun a' xs e1 e2 => ?_, fun H12 rr s13 er => ?_⟩
        · cases e1
          rw [hf11] at e2
          cases e2
          intro y hy
          simp only [List.map_cons, List.map_nil, List.mem_cons, List.not_mem_nil, or_false] at hy
          rcases hy with rfl | rfl | rfl
          · exact datN _ o1
          · exact datZ _
          · exact datN _ o2
        have e13 := er.trans ((fieldsV_iff hf11).trans (fields_mid (t := z) o1 o2 n12))
        have sA := ((s9.trans sf).trans s12).trans s13
        have qn12 := sA.seq qn8
        cases hn : isName z with
        | true =>
          have e : rr = !decide (z ∈ [n1, n2]) := by
            cases rr with
            | true => rw [decide_eq_false (e13.mp rfl).2]; rfl
            | false =>
              by_cases hm : z ∈ [n1, n2]
              · rw [decide_eq_true hm]; rfl
              · exact absurd (e13.mpr ⟨hn, hm⟩) Bool.false_ne_true
          subst e
          refine ⟨_, rfl, _, rfl, ?_⟩
          refine iteT ⟨.str z, rfl, _, rfl, pn, _, 1, .str n1, rfl, rfl, qn12, atI_nat (j := 1) rfl, _, rfl, pn, _, 2, .str n2, rfl, rfl, qn12, atI_nat (j := 2) rfl, (show 2 ≤ sizeLine by decide), fun p2 np2 => ?_⟩
          have s2 := same_upd (o := HO.tup [V.str n1, V.str n2]) np2
          refine ⟨p2, _, rfl, .inr (.inl (.inl upd_same)), rfl, rfl, ?_⟩
          rw [show inV (.str z) [V.str n1, V.str n2] = decide (z ∈ [n1, n2]) from inV_strs z [n1, n2]]
          exact ⟨_, _, rfl, true, congrArg V.bl (decide_eq_true rfl), iteF ⟨rfl, sA.trans s2⟩⟩
        | false =>
          have e : rr = false := by
            cases rr with
            | false => rfl
            | true => rw [(e13.mp rfl).1] at hn; cases hn
          subst e
          refine ⟨_, rfl, _, rfl, ?_⟩
          exact iteF ⟨_, _, rfl, true, rfl, iteF ⟨rfl, sA⟩⟩
      · rintro σ9 H13 ⟨rfl, sB⟩
        -- is_part((name,), text)
        refine ⟨_, rfl, (show 1 ≤ sizeLine by decide), fun p3 np3 => ?_⟩
        have s3 := same_upd (o := HO.tup [V.str n0]) np3
        refine ⟨_, rfl, p3, [n0], z, rfl, upd_same, (fields_one n0).mpr o0, fun H14 s14 => ?_⟩
        refine ⟨_, rfl, _, rfl, (show 2 ≤ sizeLine by decide), fun p4 np4 => ?_⟩
        have s4 := same_upd (o := HO.tup [V.str (Str.ofString ""), V.str n0]) np4
        refine ⟨p4, _, rfl, .inr (.inl (.inl upd_same)), rfl, rfl, ?_⟩
        rw [show inV (.str z) [V.str (Str.ofString ""), V.str n0] = decide (z = Str.ofString "" ∨ z ∈ [n0]) from (inV_strs z [Str.ofString "", n0]).trans (decide_eq_decide.mpr (by simp))]
        exact ⟨_, _, rfl, true, congrArg V.bl (decide_eq_true rfl), iteF ⟨_, _, _, rfl, ((sm8.trans sB).trans s3).trans (s14.trans s4)⟩⟩
    · obtain ⟨x5, x6, x7, rfl, sm8⟩ := hP
      exact ⟨⟨_, _, _, _, _, _, _, rfl⟩, (sm0.trans sm7).trans sm8⟩
/-! ### what the top has written -/
theorem all_mk {l : PySem.W.OpenLaw} {w : World} {K : PySem.W.Frag} {h : Heap} {mg : Str → Option Value} {fa : Addr} (X : K.In h) (G : h.Ns mainGlobals mg) (hfa : mg "law" = some (.ref fa))
    {f0 : Addr} {od0 an0 : Option Addr} {sl0 : Array (Option Value)} {oc0 kV0 dc0 pm0 cd0 ct0 : Value}
    {f1 : Addr} {od1 an1 : Option Addr} {sl1 : Array (Option Value)} {oc1 kV1 dc1 pm1 cd1 ct1 : Value}
    {f2 : Addr} {od2 an2 : Option Addr} {sl2 : Array (Option Value)} {oc2 kV2 dc2 pm2 cd2 ct2 : Value}
    {f3 : Addr} {od3 an3 : Option Addr} {sl3 : Array (Option Value)} {oc3 kV3 dc3 pm3 cd3 ct3 : Value}
    {f4 : Addr} {od4 an4 : Option Addr} {sl4 : Array (Option Value)} {oc4 kV4 dc4 pm4 cd4 ct4 : Value}
    {f5 : Addr} {od5 an5 : Option Addr} {sl5 : Array (Option Value)} {oc5 kV5 dc5 pm5 cd5 ct5 : Value}
    {f6 : Addr} {od6 an6 : Option Addr} {sl6 : Array (Option Value)} {oc6 kV6 dc6 pm6 cd6 ct6 : Value}
    {f7 : Addr} {od7 an7 : Option Addr} {sl7 : Array (Option Value)} {oc7 kV7 dc7 pm7 cd7 ct7 : Value}
    {f8 : Addr} {od8 an8 : Option Addr} {sl8 : Array (Option Value)} {oc8 kV8 dc8 pm8 cd8 ct8 : Value}
    {f9 : Addr} {od9 an9 : Option Addr} {sl9 : Array (Option Value)} {oc9 kV9 dc9 pm9 cd9 ct9 : Value}
    {f10 : Addr} {od10 an10 : Option Addr} {sl10 : Array (Option Value)} {oc10 kV10 dc10 pm10 cd10 ct10 : Value}
    {f11 : Addr} {od11 an11 : Option Addr} {sl11 : Array (Option Value)} {oc11 kV11 dc11 pm11 cd11 ct11 : Value}
    {f12 : Addr} {od12 an12 : Option Addr} {sl12 : Array (Option Value)} {oc12 kV12 dc12 pm12 cd12 ct12 : Value}
    {f13 : Addr} {od13 an13 : Option Addr} {sl13 : Array (Option Value)} {oc13 kV13 dc13 pm13 cd13 ct13 : Value}
    {pKEYWORDS : Addr} {odKEYWORDS : Option Addr} {itsKEYWORDS : Array Value} {nKEYWORDS : Nat} {slKEYWORDS : Array (Option Value)}
    {tLETTERS : Tok}
    {tMAX_LETTERS : Tok}
    {tMAX_FIELDS : Tok}
    (a0 : PySem.W.nsIn K mainGlobals "is_name" = some (some (.ref f0)))
    (l0 : K.lookup f0 = some ⟨oc0, od0, .func (PySem.W.fnOf "is_name" "is_name" (defArgs s_is_name) (defBody s_is_name) (defScope s_is_name) .none kV0 dc0 pm0 an0 cd0 ct0), sl0⟩)
    (c0 : PySem.W.codeIn K cd0 "is_name" = true) (k0 : PySem.W.keepIn K (.ref f0) = true)
    (a1 : PySem.W.nsIn K mainGlobals "are_different_names" = some (some (.ref f1)))
    (l1 : K.lookup f1 = some ⟨oc1, od1, .func (PySem.W.fnOf "are_different_names" "are_different_names" (defArgs s_are_different_names) (defBody s_are_different_names) (defScope s_are_different_names) .none kV1 dc1 pm1 an1 cd1 ct1), sl1⟩)
    (c1 : PySem.W.codeIn K cd1 "are_different_names" = true) (k1 : PySem.W.keepIn K (.ref f1) = true)
    (a2 : PySem.W.nsIn K mainGlobals "is_fields" = some (some (.ref f2)))
    (l2 : K.lookup f2 = some ⟨oc2, od2, .func (PySem.W.fnOf "is_fields" "is_fields" (defArgs s_is_fields) (defBody s_is_fields) (defScope s_is_fields) .none kV2 dc2 pm2 an2 cd2 ct2), sl2⟩)
    (c2 : PySem.W.codeIn K cd2 "is_fields" = true) (k2 : PySem.W.keepIn K (.ref f2) = true)
    (a3 : PySem.W.nsIn K mainGlobals "is_part" = some (some (.ref f3)))
    (l3 : K.lookup f3 = some ⟨oc3, od3, .func (PySem.W.fnOf "is_part" "is_part" (defArgs s_is_part) (defBody s_is_part) (defScope s_is_part) .none kV3 dc3 pm3 an3 cd3 ct3), sl3⟩)
    (c3 : PySem.W.codeIn K cd3 "is_part" = true) (k3 : PySem.W.keepIn K (.ref f3) = true)
    (a4 : PySem.W.nsIn K mainGlobals "_law_bag" = some (some (.ref f4)))
    (l4 : K.lookup f4 = some ⟨oc4, od4, .func (PySem.W.fnOf "_law_bag" "_law_bag" (defArgs s_L_bag) (defBody s_L_bag) (defScope s_L_bag) .none kV4 dc4 pm4 an4 cd4 ct4), sl4⟩)
    (c4 : PySem.W.codeIn K cd4 "_law_bag" = true) (k4 : PySem.W.keepIn K (.ref f4) = true)
    (a5 : PySem.W.nsIn K mainGlobals "_law_roll" = some (some (.ref f5)))
    (l5 : K.lookup f5 = some ⟨oc5, od5, .func (PySem.W.fnOf "_law_roll" "_law_roll" (defArgs s_L_roll) (defBody s_L_roll) (defScope s_L_roll) .none kV5 dc5 pm5 an5 cd5 ct5), sl5⟩)
    (c5 : PySem.W.codeIn K cd5 "_law_roll" = true) (k5 : PySem.W.keepIn K (.ref f5) = true)
    (a6 : PySem.W.nsIn K mainGlobals "_law_is" = some (some (.ref f6)))
    (l6 : K.lookup f6 = some ⟨oc6, od6, .func (PySem.W.fnOf "_law_is" "_law_is" (defArgs s_L_is) (defBody s_L_is) (defScope s_L_is) .none kV6 dc6 pm6 an6 cd6 ct6), sl6⟩)
    (c6 : PySem.W.codeIn K cd6 "_law_is" = true) (k6 : PySem.W.keepIn K (.ref f6) = true)
    (a7 : PySem.W.nsIn K mainGlobals "_law_one" = some (some (.ref f7)))
    (l7 : K.lookup f7 = some ⟨oc7, od7, .func (PySem.W.fnOf "_law_one" "_law_one" (defArgs s_L_one) (defBody s_L_one) (defScope s_L_one) .none kV7 dc7 pm7 an7 cd7 ct7), sl7⟩)
    (c7 : PySem.W.codeIn K cd7 "_law_one" = true) (k7 : PySem.W.keepIn K (.ref f7) = true)
    (a8 : PySem.W.nsIn K mainGlobals "_law_word" = some (some (.ref f8)))
    (l8 : K.lookup f8 = some ⟨oc8, od8, .func (PySem.W.fnOf "_law_word" "_law_word" (defArgs s_L_word) (defBody s_L_word) (defScope s_L_word) .none kV8 dc8 pm8 an8 cd8 ct8), sl8⟩)
    (c8 : PySem.W.codeIn K cd8 "_law_word" = true) (k8 : PySem.W.keepIn K (.ref f8) = true)
    (a9 : PySem.W.nsIn K mainGlobals "_law_names" = some (some (.ref f9)))
    (l9 : K.lookup f9 = some ⟨oc9, od9, .func (PySem.W.fnOf "_law_names" "_law_names" (defArgs s_L_names) (defBody s_L_names) (defScope s_L_names) .none kV9 dc9 pm9 an9 cd9 ct9), sl9⟩)
    (c9 : PySem.W.codeIn K cd9 "_law_names" = true) (k9 : PySem.W.keepIn K (.ref f9) = true)
    (a10 : PySem.W.nsIn K mainGlobals "_law_near" = some (some (.ref f10)))
    (l10 : K.lookup f10 = some ⟨oc10, od10, .func (PySem.W.fnOf "_law_near" "_law_near" (defArgs s_L_near) (defBody s_L_near) (defScope s_L_near) .none kV10 dc10 pm10 an10 cd10 ct10), sl10⟩)
    (c10 : PySem.W.codeIn K cd10 "_law_near" = true) (k10 : PySem.W.keepIn K (.ref f10) = true)
    (a11 : PySem.W.nsIn K mainGlobals "_law_near_keyword" = some (some (.ref f11)))
    (l11 : K.lookup f11 = some ⟨oc11, od11, .func (PySem.W.fnOf "_law_near_keyword" "_law_near_keyword" (defArgs s_L_near_keyword) (defBody s_L_near_keyword) (defScope s_L_near_keyword) .none kV11 dc11 pm11 an11 cd11 ct11), sl11⟩)
    (c11 : PySem.W.codeIn K cd11 "_law_near_keyword" = true) (k11 : PySem.W.keepIn K (.ref f11) = true)
    (a12 : PySem.W.nsIn K mainGlobals "_law_due" = some (some (.ref f12)))
    (l12 : K.lookup f12 = some ⟨oc12, od12, .func (PySem.W.fnOf "_law_due" "_law_due" (defArgs s_L_due) (defBody s_L_due) (defScope s_L_due) .none kV12 dc12 pm12 an12 cd12 ct12), sl12⟩)
    (c12 : PySem.W.codeIn K cd12 "_law_due" = true) (k12 : PySem.W.keepIn K (.ref f12) = true)
    (a13 : PySem.W.nsIn K mainGlobals "law" = some (some (.ref f13)))
    (l13 : K.lookup f13 = some ⟨oc13, od13, .func (PySem.W.fnOf "law" "law" (defArgs s_law) (defBody s_law) (defScope s_law) .none kV13 dc13 pm13 an13 cd13 ct13), sl13⟩)
    (c13 : PySem.W.codeIn K cd13 "law" = true) (k13 : PySem.W.keepIn K (.ref f13) = true)
    (gKEYWORDS : PySem.W.nsIn K mainGlobals "KEYWORDS" = some (some (.ref pKEYWORDS)))
    (wKEYWORDS : K.lookup pKEYWORDS = some ⟨.type "tuple", odKEYWORDS, .seq itsKEYWORDS nKEYWORDS, slKEYWORDS⟩)
    (vKEYWORDS : itsKEYWORDS.size ≤ sizeLine ∧ Vals (keywordsL.map V.str) itsKEYWORDS.toList)
    (gLETTERS : PySem.W.nsIn K mainGlobals "LETTERS" = some (some (.str "abcdefghijklmnopqrstuvwxyz" tLETTERS)))
    (gMAX_LETTERS : PySem.W.nsIn K mainGlobals "MAX_LETTERS" = some (some (.int 8 tMAX_LETTERS)))
    (gMAX_FIELDS : PySem.W.nsIn K mainGlobals "MAX_FIELDS" = some (some (.int 4 tMAX_FIELDS)))
    (zisinstance : PySem.W.nsIn K mainGlobals "isinstance" = some none)
    (zstr : PySem.W.nsIn K mainGlobals "str" = some none)
    (zbool : PySem.W.nsIn K mainGlobals "bool" = some none)
    (zlen : PySem.W.nsIn K mainGlobals "len" = some none)
    (zall : PySem.W.nsIn K mainGlobals "all" = some none)
    (zset : PySem.W.nsIn K mainGlobals "set" = some none)
    (ztuple : PySem.W.nsIn K mainGlobals "tuple" = some none)
    (zrange : PySem.W.nsIn K mainGlobals "range" = some none)
    (zmax : PySem.W.nsIn K mainGlobals "max" = some none)
    (zmin : PySem.W.nsIn K mainGlobals "min" = some none)
    (zint : PySem.W.nsIn K mainGlobals "int" = some none)
    (zabs : PySem.W.nsIn K mainGlobals "abs" = some none)
    : ∃ fd : FuncData, (∀ (s : Shared) (v : Value), BindsTo s fd ⟨[v], []⟩ [("script", v)]) ∧ ∀ base : Heap, K.In base → base.Ns mainGlobals mg → FnOk l.prog w K mg base CX0 6 fa fd ["script"] (spLaw K) := by
  have e := hfa.symm.trans (PySem.W.mg_of X G a13)
  cases e
  have F0 := fun_mk (st := s_is_name) l0 c0 k0
  have b0 := F0.binds (ps := ["value"]) fun _ _ _ _ _ _ us hl => match us, hl with | [_], _ => rfl
  have m0 := PySem.W.mg_of X G a0
  have F1 := fun_mk (st := s_are_different_names) l1 c1 k1
  have b1 := F1.binds (ps := ["values"]) fun _ _ _ _ _ _ us hl => match us, hl with | [_], _ => rfl
  have m1 := PySem.W.mg_of X G a1
  have F2 := fun_mk (st := s_is_fields) l2 c2 k2
  have b2 := F2.binds (ps := ["value"]) fun _ _ _ _ _ _ us hl => match us, hl with | [_], _ => rfl
  have m2 := PySem.W.mg_of X G a2
  have F3 := fun_mk (st := s_is_part) l3 c3 k3
  have b3 := F3.binds (ps := ["fields", "value"]) fun _ _ _ _ _ _ us hl => match us, hl with | [_, _], _ => rfl
  have m3 := PySem.W.mg_of X G a3
  have F4 := fun_mk (st := s_L_bag) l4 c4 k4
  have b4 := F4.binds (ps := ["script", "at"]) fun _ _ _ _ _ _ us hl => match us, hl with | [_, _], _ => rfl
  have m4 := PySem.W.mg_of X G a4
  have F5 := fun_mk (st := s_L_roll) l5 c5 k5
  have b5 := F5.binds (ps := ["bag", "total"]) fun _ _ _ _ _ _ us hl => match us, hl with | [_, _], _ => rfl
  have m5 := PySem.W.mg_of X G a5
  have F6 := fun_mk (st := s_L_is) l6 c6 k6
  have b6 := F6.binds (ps := ["thing", "due"]) fun _ _ _ _ _ _ us hl => match us, hl with | [_, _], _ => rfl
  have m6 := PySem.W.mg_of X G a6
  have F7 := fun_mk (st := s_L_one) l7 c7 k7
  have b7 := F7.binds (ps := ["bag", "items"]) fun _ _ _ _ _ _ us hl => match us, hl with | [_, _], _ => rfl
  have m7 := PySem.W.mg_of X G a7
  have F8 := fun_mk (st := s_L_word) l8 c8 k8
  have b8 := F8.binds (ps := ["bag"]) fun _ _ _ _ _ _ us hl => match us, hl with | [_], _ => rfl
  have m8 := PySem.W.mg_of X G a8
  have F9 := fun_mk (st := s_L_names) l9 c9 k9
  have b9 := F9.binds (ps := ["bag", "many"]) fun _ _ _ _ _ _ us hl => match us, hl with | [_, _], _ => rfl
  have m9 := PySem.W.mg_of X G a9
  have F10 := fun_mk (st := s_L_near) l10 c10 k10
  have b10 := F10.binds (ps := ["bag", "name"]) fun _ _ _ _ _ _ us hl => match us, hl with | [_, _], _ => rfl
  have m10 := PySem.W.mg_of X G a10
  have F11 := fun_mk (st := s_L_near_keyword) l11 c11 k11
  have b11 := F11.binds (ps := ["bag"]) fun _ _ _ _ _ _ us hl => match us, hl with | [_], _ => rfl
  have m11 := PySem.W.mg_of X G a11
  have F12 := fun_mk (st := s_L_due) l12 c12 k12
  have b12 := F12.binds (ps := ["text"]) fun _ _ _ _ _ _ us hl => match us, hl with | [_], _ => rfl
  have m12 := PySem.W.mg_of X G a12
  have F13 := fun_mk (st := s_law) l13 c13 k13
  have mKEYWORDS := PySem.W.mg_of X G gKEYWORDS
  have mLETTERS := PySem.W.mg_of X G gLETTERS
  have mMAX_LETTERS := PySem.W.mg_of X G gMAX_LETTERS
  have mMAX_FIELDS := PySem.W.mg_of X G gMAX_FIELDS
  have nisinstance := PySem.W.mg_none_of X G zisinstance
  have nstr := PySem.W.mg_none_of X G zstr
  have nbool := PySem.W.mg_none_of X G zbool
  have nlen := PySem.W.mg_none_of X G zlen
  have nall := PySem.W.mg_none_of X G zall
  have nset := PySem.W.mg_none_of X G zset
  have ntuple := PySem.W.mg_none_of X G ztuple
  have nrange := PySem.W.mg_none_of X G zrange
  have nmax := PySem.W.mg_none_of X G zmax
  have nmin := PySem.W.mg_none_of X G zmin
  have nint := PySem.W.mg_none_of X G zint
  have nabs := PySem.W.mg_none_of X G zabs
  refine ⟨PySem.W.fnOf "law" "law" (defArgs s_law) (defBody s_law) (defScope s_law) .none kV13 dc13 pm13 an13 cd13 ct13, fun s v => .of_eq rfl, fun base _ _ => ?_⟩
  have KW : ∃ a, mg "KEYWORDS" = some (.ref a) ∧ WrT K a (keywordsL.map V.str) := ⟨_, mKEYWORDS, _, _, _, wKEYWORDS, rfl, rfl, vKEYWORDS.1, vKEYWORDS.2⟩
  have NT : NameTxt K mg := ⟨KW, ⟨_, mLETTERS⟩, ⟨_, mMAX_LETTERS⟩, nisinstance, nstr, nlen, nall⟩
  have cN : Cal l.prog w K mg base 1 "is_name" spIsName := mkCal (ok_isName F0 NT) F0 b0 m0
  have cDf : Cal l.prog w K mg base 2 "are_different_names" (spDiff K) := mkCal (ok_diff F1 nall nlen nset cN) F1 b1 m1
  have cF : Cal l.prog w K mg base 3 "is_fields" spFields := mkCal (ok_fields F2 nisinstance ntuple nlen ⟨_, mMAX_FIELDS⟩ cDf) F2 b2 m2
  have cP : Cal l.prog w K mg base 4 "is_part" spPartS := mkCal (ok_partS F3 cF) F3 b3 m3
  have cB : Cal l.prog w K mg base 1 "_law_bag" (spBag K) := mkCal (ok_bag F4 nlen nint nabs nmax) F4 b4 m4
  have cR : Cal l.prog w K mg base 1 "_law_roll" spRoll := mkCal (ok_roll F5 nint) F5 b5 m5
  have cI : Cal l.prog w K mg base 1 "_law_is" spIs := mkCal (ok_is F6 nbool nisinstance) F6 b6 m6
  have cO : Cal l.prog w K mg base 2 "_law_one" (spOne K) := mkCal (ok_one F7 nlen cR) F7 b7 m7
  have cW : Cal l.prog w K mg base 3 "_law_word" spWord := mkCal (ok_word F8 nrange cR cO) F8 b8 m8
  have cNs : Cal l.prog w K mg base 4 "_law_names" spNames := mkCal (ok_names F9 nrange cW) F9 b9 m9
  have cNe : Cal l.prog w K mg base 3 "_law_near" spNear := mkCal (ok_near F10 nlen cR cO) F10 b10 m10
  have cNk : Cal l.prog w K mg base 3 "_law_near_keyword" spNearK := mkCal (ok_nearK F11 cO) F11 b11 m11
  have cDu : Cal l.prog w K mg base 1 "_law_due" spDue := mkCal (ok_due F12 nlen) F12 b12 m12
  exact ok_law F13 nrange nmax nmin nlen cB cNs cNe cNk cDu cF cI cN cP
end
end Lp
open PySem PySem.W PyProof.Rows
set_option maxHeartbeats 0 in
theorem PySem.Challenge.cw_loanpairs_k03_near_names_holds : PySem.Challenge.rw_loanpairs_k03_near_names.Holds := by
  w_on; o_law; k_head; (case hw => w_witness2)
  k_fill
  refine L2.walk_of (l := PySem.Challenge.rw_loanpairs_k03_near_names) (n := 63) (k := 6) (x := "script") (CX := fun _ => L2.CX0) (sp := fun w => Lp.spLaw _) rfl (by decide) rfl ⟨rfl, by decide, by decide⟩ (fun w h Y => PySem.W.kIn_of Y) ?F (fun _ _ a ns hl _ hS => ⟨a, ns, rfl, hS, hl, fun _ => rfl⟩) (fun _ _ _ _ _ h => h)
  case F =>
    intro w mg fa h KX G hmg
    refine' Lp.all_mk KX G hmg ?a0 ?l0 ?c0 ?k0 ?a1 ?l1 ?c1 ?k1 ?a2 ?l2 ?c2 ?k2 ?a3 ?l3 ?c3 ?k3 ?a4 ?l4 ?c4 ?k4 ?a5 ?l5 ?c5 ?k5 ?a6 ?l6 ?c6 ?k6 ?a7 ?l7 ?c7 ?k7 ?a8 ?l8 ?c8 ?k8 ?a9 ?l9 ?c9 ?k9 ?a10 ?l10 ?c10 ?k10 ?a11 ?l11 ?c11 ?k11 ?a12 ?l12 ?c12 ?k12 ?a13 ?l13 ?c13 ?k13 ?gKEYWORDS ?wKEYWORDS ?vKEYWORDS ?gLETTERS ?gMAX_LETTERS ?gMAX_FIELDS ?zisinstance ?zstr ?zbool ?zlen ?zall ?zset ?ztuple ?zrange ?zmax ?zmin ?zint ?zabs
    (case a0 => k_is)
    (case l0 => k_is)
    (case c0 => k_is)
    (case k0 => k_is)
    (case a1 => k_is)
    (case l1 => k_is)
    (case c1 => k_is)
    (case k1 => k_is)
    (case a2 => k_is)
    (case l2 => k_is)
    (case c2 => k_is)
    (case k2 => k_is)
    (case a3 => k_is)
    (case l3 => k_is)
    (case c3 => k_is)
    (case k3 => k_is)
    (case a4 => k_is)
    (case l4 => k_is)
    (case c4 => k_is)
    (case k4 => k_is)
    (case a5 => k_is)
    (case l5 => k_is)
    (case c5 => k_is)
    (case k5 => k_is)
    (case a6 => k_is)
    (case l6 => k_is)
    (case c6 => k_is)
    (case k6 => k_is)
    (case a7 => k_is)
    (case l7 => k_is)
    (case c7 => k_is)
    (case k7 => k_is)
    (case a8 => k_is)
    (case l8 => k_is)
    (case c8 => k_is)
    (case k8 => k_is)
    (case a9 => k_is)
    (case l9 => k_is)
    (case c9 => k_is)
    (case k9 => k_is)
    (case a10 => k_is)
    (case l10 => k_is)
    (case c10 => k_is)
    (case k10 => k_is)
    (case a11 => k_is)
    (case l11 => k_is)
    (case c11 => k_is)
    (case k11 => k_is)
    (case a12 => k_is)
    (case l12 => k_is)
    (case c12 => k_is)
    (case k12 => k_is)
    (case a13 => k_is)
    (case l13 => k_is)
    (case c13 => k_is)
    (case k13 => k_is)
    (case gKEYWORDS => k_is)
    (case wKEYWORDS => k_is)
    (case gLETTERS => k_is)
    (case gMAX_LETTERS => k_is)
    (case gMAX_FIELDS => k_is)
    (case zisinstance => k_is)
    (case zstr => k_is)
    (case zbool => k_is)
    (case zlen => k_is)
    (case zall => k_is)
    (case zset => k_is)
    (case ztuple => k_is)
    (case zrange => k_is)
    (case zmax => k_is)
    (case zmin => k_is)
    (case zint => k_is)
    (case zabs => k_is)
    (case vKEYWORDS => exact ⟨by decide, by repeat (first | exact .nil | refine .cons ⟨_, rfl⟩ ?_)⟩)
