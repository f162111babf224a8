import PyProof.Rows.All
import Wide.All
import OpenK.AllK
import Wide.FinOn
import HandS.ForMost
import HandS.SetKeys
import HandS.Strs
import HandS.Wide
import HandS.IsInst
import HandS.Evl
import HandS.Codes
import HandS.Walk
import HandS.TupAny
import HandS.Style
import HandS.TupLe
import HandS.Deep
import HandS.DictEq
import PyProof.EqKinds
import KE.GoesMore
import HandS.Iter
import PyProof.EnumMake
import PyProof.NeKinds
import PySem.Challenge.RW_loanpairs_k00_words_judged
set_option Elab.async false
set_option linter.all false
set_option maxRecDepth 100000
namespace Lp
open PySem PySem.Spec PyProof.Rows L2

/-! ### the members of a list, each once -/
section
variable {α : Type} [DecidableEq α]
def dstep (acc : List α) (k : α) : List α := if k ∈ acc then acc else acc ++ [k]
def dist (ks : List α) : List α := ks.foldl dstep []
theorem dist_snoc (ks : List α) (k : α) : dist (ks ++ [k]) = dstep (dist ks) k := by
  unfold dist
  rw [List.foldl_append]
  rfl
theorem dstep_mem {acc : List α} {k j : α} : j ∈ dstep acc k ↔ j ∈ acc ∨ j = k := by
  unfold dstep
  by_cases h : k ∈ acc
  · rw [if_pos h]
    constructor
    · exact .inl
    · rintro (z | rfl)
      · exact z
      · exact h
  · rw [if_neg h, List.mem_append, List.mem_singleton]
theorem foldl_dstep_mem (j : α) : ∀ (ks acc : List α), j ∈ ks.foldl dstep acc ↔ j ∈ acc ∨ j ∈ ks
  | [], acc => by simp
  | k :: r, acc => by
    show j ∈ r.foldl dstep (dstep acc k) ↔ _
    rw [foldl_dstep_mem j r, dstep_mem, List.mem_cons, or_assoc]
theorem dist_mem {ks : List α} {j : α} : j ∈ dist ks ↔ j ∈ ks := by
  unfold dist
  rw [foldl_dstep_mem]
  simp
theorem foldl_dstep_le : ∀ (ks acc : List α), (ks.foldl dstep acc).length ≤ acc.length + ks.length
  | [], acc => by simp
  | k :: r, acc => by
    have ih := foldl_dstep_le r (dstep acc k)
    have h : (dstep acc k).length ≤ acc.length + 1 := by
      unfold dstep
      split
      · omega
      · rw [List.length_append, List.length_singleton]
        omega
    show (r.foldl dstep (dstep acc k)).length ≤ _
    rw [List.length_cons]
    omega
theorem dist_le (ks : List α) : (dist ks).length ≤ ks.length := by
  have h := foldl_dstep_le ks []
  unfold dist
  simpa using h
theorem foldl_dstep_eq : ∀ (ks acc : List α), (ks.foldl dstep acc).length = acc.length + ks.length ↔ (∀ k ∈ ks, k ∉ acc) ∧ ks.Nodup
  | [], acc => by simp
  | k :: r, acc => by
    show (r.foldl dstep (dstep acc k)).length = _ ↔ _
    rw [List.length_cons, List.nodup_cons]
    have le := foldl_dstep_le r (dstep acc k)
    by_cases h : k ∈ acc
    · have e : dstep acc k = acc := if_pos h
      rw [e] at le ⊢
      constructor
      · intro z
        omega
      · rintro ⟨z, _⟩
        exact absurd h (z k List.mem_cons_self)
    · have e : dstep acc k = acc ++ [k] := if_neg h
      rw [e, show acc.length + (r.length + 1) = (acc ++ [k]).length + r.length by rw [List.length_append, List.length_singleton]; omega, foldl_dstep_eq r (acc ++ [k])]
      constructor
      · rintro ⟨z1, z2⟩
        refine ⟨fun j hj => ?_, ?_, z2⟩
        · rcases List.mem_cons.mp hj with rfl | hj
          · exact h
          · exact fun q => z1 j hj (List.mem_append_left _ q)
        · exact fun q => z1 k q (List.mem_append_right _ (List.mem_singleton.mpr rfl))
      · rintro ⟨z1, z2, z3⟩
        refine ⟨fun j hj q => ?_, z3⟩
        rcases List.mem_append.mp q with q | q
        · exact z1 j (List.mem_cons_of_mem _ hj) q
        · rw [List.mem_singleton] at q
          subst q
          exact z2 hj
theorem dist_eq (ks : List α) : (dist ks).length = ks.length ↔ ks.Nodup := by
  have h := foldl_dstep_eq ks []
  simp only [List.length_nil, Nat.zero_add] at h
  unfold dist
  rw [h]
  simp
end

/-! ### set(xs) of a list or tuple of ints and texts -/
instance (priority := 5000) keyBeq : BEq Key := instBEqOfDecidableEq
section
variable {P : Program} {w : World} {A : Around} {R : Result → Shared → Prop} {I : Addr} {fp wr : List Addr} {G : Array GenState → Array GenState → Prop} {n : Nat} {Pv : Nat → Value → Prop} {St : Nat → Shared → Prop}
/-- what the set at c is to hold when the keys of ks have been added -/
abbrev SetHas (P : Program) (w : World) (h : Heap) (c : Addr) (ks : List Key) : Prop := h.SetOf (mixKind P w) c (fun j => decide (j ∈ ks)) (dist ks).length
theorem SetHas.moved {h h' : Heap} {c : Addr} {ks : List Key} (z : SetHas P w h c ks) (k : ∀ o, h.get? c = some o → h'.get? c = some o) : SetHas P w h' c ks := by
  obtain ⟨o, es, ep, t, ho, q⟩ := z
  exact ⟨o, es, ep, t, k o ho, q⟩
theorem loopKeys (W : WalksS P w A.in1 I fp wr G n Pv St) {c : Addr} (out : c ∉ fp) (ks : List Key) (len : ks.length = n) (few : n + 1 < scanBound)
    (hval : ∀ i v, Pv i v → ∃ k, ks[i]? = some k ∧ RelV (kV k) v) :
    ∀ (m i : Nat) (s : Shared), i + m = n → St i s → SetHas P w s.heap c (ks.take i) →
      (∀ z, Moved (c :: wr) G s z → SetHas P w z.heap c ks → R (.ok (.ret .none)) z) →
      codeAny (model P w) A (.builtin "set.update.loop" ⟨[.ref c, .ref I], []⟩) R s := by
  have outw : c ∉ wr := fun q => out (W.sub _ q)
  have wide : ∀ q ∈ wr, q ∈ c :: wr := fun q hq => List.mem_cons_of_mem _ hq
  intro m
  induction m with
  | zero =>
    intro i s him hst hold fin
    obtain rfl : i = n := by omega
    refine codeAny_builtin PyProof.Rows.F.entry_set_update_loop (?_ : _)
    rw [Around.under_plainId PyProof.Rows.F.plain_set_update_loop (_ : _)]
    show wpAny _ A.in1 (pyNext (Value.ref I) >>= _) _ _ s
    refine wpAny_bind (W.done s _ _ hst fun z mv => ?_)
    show wpAny _ A.in1 (ret (Value.none)) _ _ z
    have al : ks.take i = ks := List.take_of_length_le (by omega)
    rw [al] at hold
    exact wpAny_pure (fin z (mv.mono wide) (hold.moved fun o e => mv.heap c o outw e))
  | succ m ih =>
    intro i s him hst hold fin
    have below : i < n := by omega
    refine codeAny_builtin PyProof.Rows.F.entry_set_update_loop (?_ : _)
    rw [Around.under_plainId PyProof.Rows.F.plain_set_update_loop (_ : _)]
    show wpAny _ A.in1 (pyNext (Value.ref I) >>= _) _ _ s
    refine wpAny_bind (W.item i s _ _ below hst fun v z pv hst2 mv => ?_)
    obtain ⟨k, hk, rk⟩ := hval i v pv
    have hold2 : SetHas P w z.heap c (ks.take i) := hold.moved fun o e => mv.heap c o outw e
    show wpAny _ A.in1 (holding [v] (setAdd c v) >>= _) _ _ z
    refine wpAny_bind (wpAny_holding (?_ : _))
    unfold setAdd
    refine wpAny_holding (?_ : _)
    refine wpAny_bind ((mixKind P w).pyHash (k := k) (kV_is rk) (?_ : _))
    have room : (dist (ks.take i)).length + 1 < scanBound := by
      have a := dist_le (ks.take i)
      rw [List.length_take] at a
      omega
    refine wpAny_setAddHashed_of (knd := mixKind P w) (s := { z with toks := z.toks + 1 }) (kV_is rk) (key_scan rk) hold2 room fun h' same hold3 => ?_
    have next : SetHas P w h' c (ks.take (i + 1)) := by
      have e : ks.take (i + 1) = ks.take i ++ [k] := by
        rw [List.take_add_one, hk]
        rfl
      rw [e]
      refine SetOf_congr hold3 (fun j => (?_ : _)) (?_ : _)
      · rw [← Bool.decide_or]
        exact decide_eq_decide.mpr (by rw [List.mem_append, List.mem_singleton])
      · rw [dist_snoc]
        unfold dstep
        by_cases q : k ∈ ks.take i
        · rw [if_pos (decide_eq_true q), if_pos (dist_mem.mpr q)]
        · rw [if_neg (fun b => q (of_decide_eq_true b)), if_neg (fun b => q (dist_mem.mp b)), List.length_append, List.length_singleton]
    refine wpAny_pure ⟨plainId_quiet PyProof.Rows.F.plain_set_update_loop _, ih (i + 1) _ (by omega) (W.frame _ z _ _ hst2 (Nat.le_succ _) fun q hq o e => ?_) next fun y mv2 hold4 => ?_⟩
    · rw [same.2 q (fun z : q = c => out (z ▸ hq))]
      exact e
    · refine fin y (Moved.trans W.gtrans ((mv.mono wide).then_heap (Nat.le_succ _) fun q o hq e => ?_) mv2) hold4
      rw [same.2 q (fun z : q = c => hq (z ▸ List.mem_cons_self))]
      exact e
end
section
variable {P : Program} {w : World} {A : Around} {E : Value → Shared → Prop} {s : Shared}
/-- a set as it begins -/
abbrev noSet (led : Bool) : Obj := { cls := .type "set", dict := none, data := .set #[] 0 (.fresh 0 0 led) }

set_option maxHeartbeats 3200000 in
theorem set_of_list {l : Addr} {vs : List Value} {ks : List Key} {Q : Value → Shared → Prop} (calm : A.handled = none) (at_ : s.heap.IsList l vs.toArray)
    (rel : Vals (ks.map kV) vs) (few : ks.length + 1 < scanBound)
    (q : ∀ (h' : Heap) (tk : Nat), SetHas P w h' s.heap.objs.size ks → (∀ b o, s.heap.get? b = some o → h'.get? b = some o) → Q (.ref s.heap.objs.size) { s with heap := h', toks := tk }) :
    wpAny (model P w) A (call (.type "set") [.ref l]) Q E s := by
  have len : vs.toArray.size = ks.length := by
    rw [List.size_toArray, ← rel.length, List.length_map]
  obtain ⟨_, _, mro⟩ := PySem.F.called_set.mro
  have f1 := PySem.F.called_set.made
  have f2 := PySem.F.called_set.sub
  refine wpAny_call (codeAny_of_tree (?_ : _))
  show wpAny _ _ (callAny (Value.type "set") _) _ _ _
  refine wpAny_pure ⟨Code.quiet_builtin (_ : _) (by decide +kernel), codeAny_builtin PySem.F.entry_type_call (?_ : _)⟩
  rw [Around.under_plain (weight_type_call_type "set" [Value.ref l] []) rfl]
  have f3 := PySem.F.called_set.notType
  have f4 := PySem.F.called_set.canCreate
  have f5 := PySem.F.typeCall_set_1 (Value.ref l)
  repeat (any_goals (first | assumption | wp_step))
  refine codeAny_mono (code_set_new_1 (Value.ref l) (E := E) (Q₁ := fun r z => ∃ led : Bool, r = .ref s.heap.objs.size ∧ z = { s with heap := s.heap.push (noSet led) }) fun led => ⟨led, rfl, rfl⟩) fun r z hr => ?_
  cases r with
  | error e => exact hr
  | ok fl =>
    cases fl with
    | ret obj =>
      obtain ⟨led, rfl, rfl⟩ := hr
      have g0 : (s.heap.push (noSet led)).get? s.heap.objs.size = some (noSet led) := Heap.get?_push_size _ rfl
      have ty : Shared.TypeIs { s with heap := s.heap.push (noSet led) } (.ref s.heap.objs.size) "set" := ⟨_, g0, rfl⟩
      have f6 := PySem.F.called_set.init.lookup
      have f7 := PySem.F.called_set.init.bind (Value.ref s.heap.objs.size)
      repeat (any_goals (first | assumption | wp_step))
      refine codeAny_mono (codeAny_call_builtin (R := wants (fun r z => r = .none ∧ ∃ h' tk, z = { s with heap := h', toks := tk } ∧ SetHas P w h' s.heap.objs.size ks ∧
        (∀ b o, s.heap.get? b = some o → h'.get? b = some o)) E) PySem.F.called_set.init.plain PySem.F.entry_set_init (check_set_init_1 ty (?_ : _))) fun r2 z2 hr2 => ?_
      · obtain ⟨⟨oc, od, odt, osl⟩, ho, hc, nl, hd⟩ := at_
        simp only at hc hd
        subst hc
        subst hd
        have ho' : (s.heap.push (noSet led)).get? l = some { cls := .type "list", dict := od, data := .seq vs.toArray nl, slots := osl } := Heap.get?_push_of_some _ ho
        have f8 := PySem.F.sub_list_set
        have f9 := PySem.F.sub_list_frozenset
        have nd : (Value.type "list" == Value.type "dict") = false := by decide +kernel
        have at1 : (s.heap.push (noSet led)).IsList l vs.toArray := ⟨_, ho', rfl, nl, rfl⟩
        have nsd : noSet led = { cls := .type "set", dict := none, data := .set #[] 0 (.fresh 0 0 led) } := rfl
        unfold Builtin.«set.__init__» noKeywords Builtin.Frozenset.updateFrom
        generalize hPI : pyIter = PI
        wp_walk
        subst hPI
        refine wpAny_pyIter_list at1 (?_ : _)
        refine wpAny_bind (wpAny_runValue (?_ : _))
        have lo : l < s.heap.objs.size := Heap.lt_size ho
        have calm3 : A.in1.in1.in1.handled = none := by
          simp [calm]
        have apart : l ≠ (s.heap.push (noSet led)).objs.size := by
          rw [Heap.size_push]
          exact Nat.ne_of_lt (Nat.lt_succ_of_lt lo)
        have out : s.heap.objs.size ∉ [(s.heap.push (noSet led)).objs.size, l] := by
          rw [Heap.size_push]
          simp only [List.mem_cons, List.not_mem_nil, or_false, not_or]
          exact ⟨Nat.ne_of_lt (Nat.lt_succ_self _), (Nat.ne_of_lt lo).symm⟩
        refine loopKeys ((Walks.list calm3 _ l apart vs.toArray).toS) out ks len.symm (by omega) (fun i v hv => ?hv) vs.toArray.size 0 _ (by omega) ⟨⟨_, Heap.get?_push_size _ rfl, rfl, rfl⟩, (at1.push _)⟩ ?h0 ?h1
        case hv =>
          have hv2 : vs[i]? = some v := by simpa using hv
          cases e : ks[i]? with
          | none =>
            have b1 : ks.length ≤ i := List.getElem?_eq_none_iff.mp e
            have b2 := (List.getElem?_eq_some_iff.mp hv2).1
            rw [List.size_toArray] at len
            omega
          | some k =>
            obtain ⟨u, hu, ru⟩ := rel.get (i := i) (x := kV k) (by rw [List.getElem?_map, e] <;> rfl)
            rw [hv2] at hu
            cases hu
            exact ⟨k, rfl, ru⟩
        case h0 =>
          have gi : ((s.heap.push (noSet led)).push { cls := .type "list_iterator", data := .fields #[.ref l, .int 0 0] }).get? s.heap.objs.size = some (noSet led) := Heap.get?_push_of_some _ g0
          exact (setObjOf_fresh (knd := mixKind P w) led).setOf gi (by unfold scanBound; omega)
        case h1 =>
          intro z mv hold
          obtain ⟨h', g', d', tk', os'⟩ := z
          obtain rfl : g' = s.gens := mv.gens
          obtain rfl : d' = s.drawn := mv.drawn
          obtain rfl : os' = s.os := mv.os
          show wpAny _ _ _ _ _ _
          refine wpAny_pure (?_ : _)
          show wpAny _ _ (ret (Value.none)) _ _ _
          refine wpAny_pure ⟨rfl, h', tk', rfl, hold, fun b o e => ?_⟩
          have lb : b < s.heap.objs.size := Heap.lt_size e
          have e2 : ((s.heap.push (noSet led)).push { cls := .type "list_iterator", data := .fields #[.ref l, .int 0 0] }).get? b = some o := Heap.get?_push_of_some _ (Heap.get?_push_of_some _ e)
          refine mv.heap b o (?_ : _) e2
          rw [Heap.size_push]
          simp only [List.mem_cons, List.not_mem_nil, or_false, not_or]
          exact ⟨Nat.ne_of_lt lb, Nat.ne_of_lt (Nat.lt_succ_of_lt lb)⟩
      · cases r2 with
        | error e => exact hr2
        | ok fl2 =>
          cases fl2 with
          | ret r =>
            obtain ⟨rfl, h', tk, rfl, hold, keep⟩ := hr2
            repeat (any_goals (first | assumption | wp_step))
            exact q _ _ hold keep
          | _ => exact hr2.elim
    | _ => exact hr.elim

set_option maxHeartbeats 3200000 in
theorem set_of_tuple {l : Addr} {vs : List Value} {ks : List Key} {Q : Value → Shared → Prop} (calm : A.handled = none) (at_ : s.heap.IsTuple l vs.toArray)
    (rel : Vals (ks.map kV) vs) (few : ks.length + 1 < scanBound)
    (q : ∀ (h' : Heap) (tk : Nat), SetHas P w h' s.heap.objs.size ks → (∀ b o, s.heap.get? b = some o → h'.get? b = some o) → Q (.ref s.heap.objs.size) { s with heap := h', toks := tk }) :
    wpAny (model P w) A (call (.type "set") [.ref l]) Q E s := by
  have len : vs.toArray.size = ks.length := by
    rw [List.size_toArray, ← rel.length, List.length_map]
  obtain ⟨_, _, mro⟩ := PySem.F.called_set.mro
  have f1 := PySem.F.called_set.made
  have f2 := PySem.F.called_set.sub
  refine wpAny_call (codeAny_of_tree (?_ : _))
  show wpAny _ _ (callAny (Value.type "set") _) _ _ _
  refine wpAny_pure ⟨Code.quiet_builtin (_ : _) (by decide +kernel), codeAny_builtin PySem.F.entry_type_call (?_ : _)⟩
  rw [Around.under_plain (weight_type_call_type "set" [Value.ref l] []) rfl]
  have f3 := PySem.F.called_set.notType
  have f4 := PySem.F.called_set.canCreate
  have f5 := PySem.F.typeCall_set_1 (Value.ref l)
  repeat (any_goals (first | assumption | wp_step))
  refine codeAny_mono (code_set_new_1 (Value.ref l) (E := E) (Q₁ := fun r z => ∃ led : Bool, r = .ref s.heap.objs.size ∧ z = { s with heap := s.heap.push (noSet led) }) fun led => ⟨led, rfl, rfl⟩) fun r z hr => ?_
  cases r with
  | error e => exact hr
  | ok fl =>
    cases fl with
    | ret obj =>
      obtain ⟨led, rfl, rfl⟩ := hr
      have g0 : (s.heap.push (noSet led)).get? s.heap.objs.size = some (noSet led) := Heap.get?_push_size _ rfl
      have ty : Shared.TypeIs { s with heap := s.heap.push (noSet led) } (.ref s.heap.objs.size) "set" := ⟨_, g0, rfl⟩
      have f6 := PySem.F.called_set.init.lookup
      have f7 := PySem.F.called_set.init.bind (Value.ref s.heap.objs.size)
      repeat (any_goals (first | assumption | wp_step))
      refine codeAny_mono (codeAny_call_builtin (R := wants (fun r z => r = .none ∧ ∃ h' tk, z = { s with heap := h', toks := tk } ∧ SetHas P w h' s.heap.objs.size ks ∧
        (∀ b o, s.heap.get? b = some o → h'.get? b = some o)) E) PySem.F.called_set.init.plain PySem.F.entry_set_init (check_set_init_1 ty (?_ : _))) fun r2 z2 hr2 => ?_
      · obtain ⟨⟨oc, od, odt, osl⟩, ho, hc, nl, hd⟩ := at_
        simp only at hc hd
        subst hc
        subst hd
        have ho' : (s.heap.push (noSet led)).get? l = some { cls := .type "tuple", dict := od, data := .seq vs.toArray nl, slots := osl } := Heap.get?_push_of_some _ ho
        have f8 := PySem.F.sub_tuple_set
        have f9 := PySem.F.sub_tuple_frozenset
        have nd : (Value.type "tuple" == Value.type "dict") = false := by decide +kernel
        have at1 : (s.heap.push (noSet led)).IsTuple l vs.toArray := ⟨_, ho', rfl, nl, rfl⟩
        have nsd : noSet led = { cls := .type "set", dict := none, data := .set #[] 0 (.fresh 0 0 led) } := rfl
        unfold Builtin.«set.__init__» noKeywords Builtin.Frozenset.updateFrom
        generalize hPI : pyIter = PI
        wp_walk
        subst hPI
        refine wpAny_pyIter_tuple at1 (?_ : _)
        refine wpAny_bind (wpAny_runValue (?_ : _))
        have lo : l < s.heap.objs.size := Heap.lt_size ho
        have calm3 : A.in1.in1.in1.handled = none := by
          simp [calm]
        have apart : l ≠ (s.heap.push (noSet led)).objs.size := by
          rw [Heap.size_push]
          exact Nat.ne_of_lt (Nat.lt_succ_of_lt lo)
        have out : s.heap.objs.size ∉ [(s.heap.push (noSet led)).objs.size, l] := by
          rw [Heap.size_push]
          simp only [List.mem_cons, List.not_mem_nil, or_false, not_or]
          exact ⟨Nat.ne_of_lt (Nat.lt_succ_self _), (Nat.ne_of_lt lo).symm⟩
        refine loopKeys ((Walks.tuple calm3 _ l apart vs.toArray).toS) out ks len.symm (by omega) (fun i v hv => ?hv) vs.toArray.size 0 _ (by omega) ⟨⟨_, Heap.get?_push_size _ rfl, rfl, rfl⟩, (at1.push _)⟩ ?h0 ?h1
        case hv =>
          have hv2 : vs[i]? = some v := by simpa using hv
          cases e : ks[i]? with
          | none =>
            have b1 : ks.length ≤ i := List.getElem?_eq_none_iff.mp e
            have b2 := (List.getElem?_eq_some_iff.mp hv2).1
            rw [List.size_toArray] at len
            omega
          | some k =>
            obtain ⟨u, hu, ru⟩ := rel.get (i := i) (x := kV k) (by rw [List.getElem?_map, e] <;> rfl)
            rw [hv2] at hu
            cases hu
            exact ⟨k, rfl, ru⟩
        case h0 =>
          have gi : ((s.heap.push (noSet led)).push { cls := .type "tuple_iterator", data := .fields #[.ref l, .int 0 0] }).get? s.heap.objs.size = some (noSet led) := Heap.get?_push_of_some _ g0
          exact (setObjOf_fresh (knd := mixKind P w) led).setOf gi (by unfold scanBound; omega)
        case h1 =>
          intro z mv hold
          obtain ⟨h', g', d', tk', os'⟩ := z
          obtain rfl : g' = s.gens := mv.gens
          obtain rfl : d' = s.drawn := mv.drawn
          obtain rfl : os' = s.os := mv.os
          show wpAny _ _ _ _ _ _
          refine wpAny_pure (?_ : _)
          show wpAny _ _ (ret (Value.none)) _ _ _
          refine wpAny_pure ⟨rfl, h', tk', rfl, hold, fun b o e => ?_⟩
          have lb : b < s.heap.objs.size := Heap.lt_size e
          have e2 : ((s.heap.push (noSet led)).push { cls := .type "tuple_iterator", data := .fields #[.ref l, .int 0 0] }).get? b = some o := Heap.get?_push_of_some _ (Heap.get?_push_of_some _ e)
          refine mv.heap b o (?_ : _) e2
          rw [Heap.size_push]
          simp only [List.mem_cons, List.not_mem_nil, or_false, not_or]
          exact ⟨Nat.ne_of_lt lb, Nat.ne_of_lt (Nat.lt_succ_of_lt lb)⟩
      · cases r2 with
        | error e => exact hr2
        | ok fl2 =>
          cases fl2 with
          | ret r =>
            obtain ⟨rfl, h', tk, rfl, hold, keep⟩ := hr2
            repeat (any_goals (first | assumption | wp_step))
            exact q _ _ hold keep
          | _ => exact hr2.elim
    | _ => exact hr.elim

end
section
variable {X : Cx}
/-- set(xs): xs a list or tuple of ints and texts -/
def rSetOfK (K : PySem.W.Frag) (P : Program) (w : World) : List V → Hp → VK → Prop := fun vs H Q => ∃ (l : Addr) (ks : List Key), vs = [V.ref l] ∧ (SqL K H l (ks.map kV) ∨ SqT K H l (ks.map kV)) ∧ ks.length ≤ 4000 ∧
  ∀ p, H p = none → Q (.ref p) (upd H p (SetK P w p (fun j => decide (j ∈ ks)) (dist ks).length))
theorem cr_setOfK (hc : X.calm = true) : CallR X (.type "set") (rSetOfK X.K X.prog X.w) := by
  intro pins s σ H vs us Q I r h
  obtain ⟨l, ks, rfl, sq, few, q⟩ := h
  rw [Vals.ref1 r]
  have few2 : ks.length + 1 < scanBound := by
    unfold scanBound
    omega
  have fin : ∀ (h' : Heap) (tk : Nat), SetHas X.prog X.w h' s.heap.objs.size ks → (∀ b o, s.heap.get? b = some o → h'.get? b = some o) →
      ∃ y H2, Inv X pins σ H2 { s with heap := h', toks := tk } ∧ RelV y (.ref s.heap.objs.size) ∧ Q y H2 := fun h' tk hold keep =>
    ⟨.ref s.heap.objs.size, _, I.laid (t' := tk) keep (Nat.le_refl _) (setK_new hold), rfl, q _ (I.hok.fresh (Nat.le_refl _))⟩
  rcases sq with sq | sq
  · obtain ⟨its, rv, pl, _⟩ := I.list sq
    exact set_of_list (I.ok.hd hc) pl.isList rv few2 fin
  · obtain ⟨its, rv, pl, _⟩ := I.tuple sq
    exact set_of_tuple (I.ok.hd hc) pl rv few2 fin
/-- len of a set of ints and texts -/
theorem call_lenK : CallR X (.builtin "len") (fun vs H Q => ∃ (a : Addr) (S : Key → Bool) (n : Nat), vs = [V.ref a] ∧ H a = some (SetK X.prog X.w a S n) ∧ Q (.int n) H) := by
  intro pins s σ H vs us Q I r h
  obtain ⟨a, S, n, rfl, ha, q⟩ := h
  rw [Vals.ref1 r]
  obtain ⟨o, es, ep, t, ho, hex, hd, _, _, few, hf, hn⟩ := setK_get I ha
  unfold scanBound at few
  refine call_len_set ho hex hd hf (by omega) ⟨.int n, H, I.tok _, ⟨_, by rw [hn]⟩, q⟩
end
end Lp

namespace Lp
open PySem PySem.Spec PyProof.Rows L2

/-! ### further operators -/
def CPowW (i j : Int) : Prop := 0 ≤ j ∧ (Builtin.Int.intBits i : Int) * j ≤ 2 ^ 27
section
variable {X : Cx}
theorem op_powW : OpR X (binaryOp .Pow) (rI CPowW fun i j => .int (i ^ j.toNat)) := opI fun _ _ _ _ _ _ _ hc q => pow_int hc.1 hc.2 q
/-- a text k times -/
def txtRep (z : Str) (k : Nat) : Str := ⟨((List.replicate k z.cps.toList).flatten).toArray⟩
theorem txtRep_list (z : Str) (k : Nat) : (txtRep z k).cps.toList = (List.replicate k z.cps.toList).flatten := rfl
theorem fold_app (a : Array Nat) : ∀ (k : Nat) (acc : Array Nat), ((List.replicate k a).foldl (· ++ ·) acc).toList = acc.toList ++ (List.replicate k a.toList).flatten
  | 0, acc => by simp
  | k + 1, acc => by
    rw [List.replicate_succ, List.foldl_cons, fold_app a k (acc ++ a), List.replicate_succ, List.flatten_cons, Array.toList_append, List.append_assoc]
theorem op_repS : OpR X (binaryOp .Mult) (fun x y H Q => ∃ (z : Str) (k : Nat), x = .str z ∧ y = .int (k : Int) ∧ 2 ≤ k ∧ k ≤ 100000 ∧ 0 < z.length ∧ z.length * k ≤ 100000 ∧ Q (.str (txtRep z k)) H) := by
  intro pins s σ H x y v u Q I rx ry h
  obtain ⟨z, k, rfl, rfl, h2, hk, h0, hz, q⟩ := h
  obtain ⟨t, rfl⟩ := rx
  obtain ⟨t', rfl⟩ := ry
  have e1 : ¬ ((k : Int) < 1) := by omega
  have e2 : ((k : Int) == 1 || z.length == 0) = false := by
    rw [Bool.or_eq_false_iff]
    exact ⟨beq_eq_false_iff_ne.mpr (by omega), beq_eq_false_iff_ne.mpr (by omega)⟩
  refine PySem.P.mul_str ?_ (fun _ _ => ?_) (fun _ _ => ?_) ?_
  · rw [Bool.or_eq_false_iff]
    exact ⟨decide_eq_false (by omega), decide_eq_false (by omega)⟩
  · have a : (2 ^ 63 - 1 : Int) / k ≥ (2 ^ 63 - 1 : Int) / 100000 := by
      rw [ge_iff_le, Int.le_ediv_iff_mul_le (by omega), show (2 ^ 63 - 1 : Int) / 100000 = 92233720368547 by decide]
      omega
    have b : (2 ^ 63 - 1 : Int) / 100000 = 92233720368547 := by decide
    have c : z.length ≤ z.length * k := Nat.le_mul_of_pos_right _ (by omega)
    omega
  · show Builtin.Str.tooLong _ = false
    unfold Builtin.Str.tooLong
    have := sizeLine_eq
    exact decide_eq_false (by rw [Int.toNat_natCast]; omega)
  · rw [if_neg e1, if_neg (by rw [e2]; exact Bool.false_ne_true)]
    have e3 : (⟨(List.replicate (k : Int).toNat z.cps).foldl (· ++ ·) #[]⟩ : Str) = txtRep z k := by
      unfold txtRep
      congr 1
      apply Array.ext'
      rw [fold_app]
      simp
    rw [e3]
    dsimp only [Made.post]
    refine ⟨?_, .str (txtRep z k), H, I.tok _, ⟨_, rfl⟩, q⟩
    have e4 : (txtRep z k).length = k * z.length := by
      show (txtRep z k).cps.size = k * z.cps.size
      rw [← Array.length_toList, txtRep_list]
      simp only [List.length_flatten, List.map_replicate, List.sum_replicate_nat, Array.length_toList]
    rw [e4, Nat.mul_comm, sizeLine_eq]
    omega
end

/-! ### what stays, the bag -/
/-- all that is tracked stays, but at b -/
def Keep (b : Addr) (H H' : Hp) : Prop := ∀ a o, a ≠ b → H a = some o → H' a = some o
theorem Keep.refl (b : Addr) (H : Hp) : Keep b H H := fun _ _ _ h => h
theorem Keep.trans {b : Addr} {H H1 H2 : Hp} (k : Keep b H H1) (l : Keep b H1 H2) : Keep b H H2 := fun a o n h => l a o n (k a o n h)
theorem Keep.of {b : Addr} {H H' : Hp} (s : Same H H') : Keep b H H' := fun a o _ h => s a o h
theorem Keep.upd {b : Addr} {H : Hp} {o : HO} : Keep b H (upd H b o) := fun a u n h => by
  rw [upd_ne n]
  exact h
theorem same_upd {H : Hp} {p : Addr} {o : HO} (h : H p = none) : Same H (upd H p o) := fun b x e => by
  rw [upd_ne (ne_of_none e h)]
  exact e
theorem keep_new {b : Addr} {H : Hp} {p : Addr} {o : HO} (h : H p = none) : Keep b H (L2.upd H p o) := .of (same_upd h)
theorem Keep.snoc {b : Addr} {H H1 : Hp} {p : Addr} {o : HO} (k : Keep b H H1) (h : H1 p = none) : Keep b H (L2.upd H1 p o) := k.trans (keep_new h)
theorem same_snoc {H H1 : Hp} {p : Addr} {o : HO} (k : Same H H1) (h : H1 p = none) : Same H (L2.upd H1 p o) := k.trans (same_upd h)
/-- what was not there may change -/
theorem same_put {H : Hp} {p : Addr} {o : HO} {H1 : Hp} (k : Same H H1) (h : H p = none) : Same H (L2.upd H1 p o) := fun a u e => by
  rw [upd_ne (ne_of_none e h)]
  exact k a u e
theorem keep_put {b : Addr} {H : Hp} {p : Addr} {o : HO} {H1 : Hp} (k : Keep b H H1) (h : H p = none) : Keep b H (L2.upd H1 p o) := fun a u n e => by
  rw [upd_ne (ne_of_none e h)]
  exact k a u n e
theorem sqT_same {K : PySem.W.Frag} {H H' : Hp} {a : Addr} {xs : List V} (e : Same H H') (h : SqT K H a xs) : SqT K H' a xs := by
  rcases h with (h | ⟨o, h⟩) | h
  · exact .inl (.inl (e _ _ h))
  · exact .inl (.inr ⟨o, e _ _ h⟩)
  · exact .inr h
theorem sqL_keep {K : PySem.W.Frag} {b : Addr} {H H' : Hp} {a : Addr} {xs : List V} (e : Keep b H H') (n : a ≠ b) (h : SqL K H a xs) : SqL K H' a xs := by
  rcases h with (h | ⟨o, h⟩) | h
  · exact .inl (.inl (e _ _ n h))
  · exact .inl (.inr ⟨o, e _ _ n h⟩)
  · exact .inr h
theorem sqT_keep {K : PySem.W.Frag} {b : Addr} {H H' : Hp} {a : Addr} {xs : List V} (e : Keep b H H') (n : a ≠ b) (h : SqT K H a xs) : SqT K H' a xs := by
  rcases h with (h | ⟨o, h⟩) | h
  · exact .inl (.inl (e _ _ n h))
  · exact .inl (.inr ⟨o, e _ _ n h⟩)
  · exact .inr h
/-- a bag at b, out of which at most n rolls were drawn behind its number's end -/
def Bag (H : Hp) (b : Addr) (n : Nat) : Prop := ∃ x y z : Int, H b = some (.lst [.int x, .int y, .int z]) ∧ 0 ≤ z ∧ z ≤ n
theorem Bag.mono {H : Hp} {b : Addr} {n m : Nat} (g : Bag H b n) (h : n ≤ m) : Bag H b m := by
  obtain ⟨x, y, z, h1, h2, h3⟩ := g
  exact ⟨x, y, z, h1, h2, by omega⟩
theorem Bag.same {H H' : Hp} {b : Addr} {n : Nat} (g : Bag H b n) (k : Same H H') : Bag H' b n := by
  obtain ⟨x, y, z, h1, h2⟩ := g
  exact ⟨x, y, z, k _ _ h1, h2⟩
theorem Bag.put {H : Hp} {b p : Addr} {n : Nat} {o : HO} (g : Bag H b n) (h : b ≠ p) : Bag (upd H p o) b n := by
  obtain ⟨x, y, z, h1, h2⟩ := g
  exact ⟨x, y, z, by rw [upd_ne h]; exact h1, h2⟩
theorem Bag.new {H : Hp} {b p : Addr} {n : Nat} {o : HO} (g : Bag H b n) (h : H p = none) : Bag (upd H p o) b n := g.same (same_upd h)
theorem Bag.ne {H : Hp} {b p : Addr} {n : Nat} (g : Bag H b n) (h : H p = none) : b ≠ p := by
  obtain ⟨x, y, z, h1, _⟩ := g
  exact ne_of_none h1 h
/-- a list of texts is no bag -/
theorem Bag.strs {H : Hp} {b a : Addr} {n : Nat} {zs : List Str} (g : Bag H b n) (h : H a = some (.lst (zs.map V.str))) : a ≠ b := by
  obtain ⟨x, y, z, h1, _⟩ := g
  refine ne_of h h1 fun e => ?_
  cases zs with
  | nil => cases e
  | cons s r => cases e
theorem Bag.tup {H : Hp} {b a : Addr} {n : Nat} {xs : List V} (g : Bag H b n) (h : H a = some (.tup xs)) : a ≠ b := by
  obtain ⟨x, y, z, h1, _⟩ := g
  exact ne_of h h1 fun e => nomatch e
theorem Bag.dk {H : Hp} {b a : Addr} {n : Nat} {xs : List (Key × V)} (g : Bag H b n) (h : H a = some (.dK xs)) : a ≠ b := by
  obtain ⟨x, y, z, h1, _⟩ := g
  exact ne_of h h1 fun e => nomatch e
/-- most rolls that a bag may have given -/
def bagMost : Nat := 1000000000
/-! ### a def by its name -/
abbrev Cal (P : Program) (w : World) (K : PySem.W.Frag) (mg : Str → Option Value) (base : Heap) (k : Nat) (x : Str) (sp : Sp) : Prop := C8.Cal P w K mg base k x sp []
theorem mkCal {P : Program} {w : World} {K : PySem.W.Frag} {mg : Str → Option Value} {base : Heap} {k : Nat} {x : Str} {st : Stmt} {sp : Sp} {f : Addr} {fd : FuncData} {ps : List Str}
    (h : FnOk P w K mg base CX0 k f fd ps sp) (F : Fun K x x st f fd) (b : Binds K fd ps []) (g : mg x = some (.ref f)) : Cal P w K mg base k x sp := ⟨f, fd, ps, [], h, g, F.kp, b, .nil⟩
/-! ### rules with the written part named, for use within a comprehension -/
section
variable {X : Cx} {K : PySem.W.Frag}
theorem in_K (h : X.K = K) : OpR X (compareOp .In) (rIn K false) := h ▸ op_in_seq
theorem notIn_K (h : X.K = K) : OpR X (compareOp .NotIn) (rIn K true) := h ▸ op_notIn_seq
theorem ixL_K (h : X.K = K) : IxR X (rIxL K) := h ▸ ix_list
theorem ixT_K (h : X.K = K) : IxR X (rIxT K) := h ▸ ix_tup
theorem slL_K (h : X.K = K) : SlR X (rSlL K) := h ▸ sl_list
theorem len_K (h : X.K = K) : CallR X (.builtin "len") (fun xs H Q => ∃ p ys, xs = [.ref p] ∧ (SqL K H p ys ∨ SqT K H p ys) ∧ Q (.int ys.length) H) := h ▸ call_len_seq
theorem eqD_K (h : X.K = K) (hu : X.A.units + 64 < cLine) : OpR X (compareOp .Eq) (rEqD K) := h ▸ op_eqD hu
theorem neD_K (h : X.K = K) (hu : X.A.units + 64 < cLine) : OpR X (compareOp .NotEq) (rNeD K) := h ▸ op_neD hu
theorem isi_K (h : X.K = K) : CallR X (.builtin "isinstance") (rIsi K) := h ▸ call_isi
theorem all_K (h : X.K = K) (hc : X.calm = true) : CallR X (.builtin "all") (rAll K) := h ▸ cr_all hc
end
end Lp

namespace Lp
open PySem PySem.Spec PyProof.Rows L2

/-! ### texts as lists of codes -/
abbrev cs (z : Str) : List Nat := z.cps.toList
theorem cs_len (z : Str) : z.length = (cs z).length := by
  show z.cps.size = _
  rw [Array.length_toList]
theorem cs_ext {x y : Str} (h : cs x = cs y) : x = y := by
  cases x
  cases y
  congr 1
  exact Array.ext' h
theorem cs_iff {x y : Str} : x = y ↔ cs x = cs y := ⟨fun h => by rw [h], cs_ext⟩
theorem cs_app (x y : Str) : cs (x ++ y) = cs x ++ cs y := by
  show (x.cps ++ y.cps).toList = _
  rw [Array.toList_append]
theorem cs_one (c : Nat) : cs ⟨#[c]⟩ = [c] := rfl
theorem cs_mk (l : List Nat) : cs ⟨l.toArray⟩ = l := rfl
theorem cs_rep (z : Str) (k : Nat) : cs (txtRep z k) = (List.replicate k (cs z)).flatten := rfl
theorem fold_join (a : Array Nat) : ∀ (ys : List Str) (acc : Array Nat), (ys.foldl (fun acc p => acc ++ (Str.ofString "").cps ++ p.cps) acc).toList = acc.toList ++ (ys.map cs).flatten
  | [], acc => by simp
  | y :: r, acc => by
    rw [List.foldl_cons, fold_join a r, List.map_cons, List.flatten_cons, ← List.append_assoc]
    congr 1
    rw [Array.toList_append, Array.toList_append]
    show acc.toList ++ [] ++ _ = _
    rw [List.append_nil]
theorem cs_join (ys : List Str) : cs (Txt.join (Str.ofString "") ys) = (ys.map cs).flatten := by
  cases ys with
  | nil => rfl
  | cons y r =>
    show (r.foldl (fun acc p => acc ++ (Str.ofString "").cps ++ p.cps) y.cps).toList = _
    rw [fold_join #[], List.map_cons, List.flatten_cons]
theorem join_ones (ws : List Nat) : cs (Txt.join (Str.ofString "") (ws.map fun c => ⟨#[c]⟩)) = ws := by
  rw [cs_join, List.map_map]
  induction ws with
  | nil => rfl
  | cons c r ih =>
    rw [List.map_cons, List.flatten_cons, ih]
    rfl
theorem ones_sum (ws : List Nat) : ((ws.map fun c => (⟨#[c]⟩ : Str)).map (·.length)).sum = ws.length := by
  induction ws with
  | nil => rfl
  | cons c r ih =>
    rw [List.map_cons, List.map_cons, List.sum_cons, ih, List.length_cons]
    show 1 + r.length = _
    omega
theorem one_inj {a b : Nat} (h : (⟨#[a]⟩ : Str) = ⟨#[b]⟩) : a = b := by
  have e := congrArg cs h
  rw [cs_one, cs_one] at e
  exact List.cons.inj e |>.1

/-! ### names -/
def lettersL : List Nat := cs (Str.ofString "abcdefghijklmnopqrstuvwxyz")
def keywordsL : List Str := ["call", "copy", "def", "drop", "fields", "full", "lend", "look", "move", "new", "own", "put", "return", "skip", "take", "touch"]
/-- the document's names -/
def isName (z : Str) : Bool := decide (1 ≤ z.length) && decide (z.length ≤ 8) && !decide (z ∈ keywordsL) && (cs z).all fun c => decide (c ∈ lettersL)
/-- the document's fields -/
def FieldsOk (zs : List Str) : Prop := 1 ≤ zs.length ∧ zs.length ≤ 4 ∧ (∀ z ∈ zs, isName z = true) ∧ zs.Nodup
instance (zs : List Str) : Decidable (FieldsOk zs) := by
  unfold FieldsOk
  infer_instance
/-- the six letters of drawn words, the ten at their ends -/
def sixL : List Nat := cs (Str.ofString "abcxyz")
def endsL : List Nat := cs (Str.ofString "abcdghij")
def WordOk (z : Str) : Prop := 1 ≤ z.length ∧ z.length ≤ 7 ∧ ∀ c ∈ cs z, c ∈ sixL
/-- a drawn name: a front of drawn letters, of one to seven, and the letter that belongs to its turn -/
def NameOk (t : Nat) (z : Str) : Prop := ∃ front : List Nat, ∃ c, cs z = front ++ [c] ∧ 2 ≤ front.length ∧ front.length ≤ 7 ∧ (∀ d ∈ front, d ∈ sixL) ∧ endsL[t]? = some c
def looksDrawn (l : List Nat) : Bool := decide (3 ≤ l.length) && (l.dropLast.all fun c => decide (c ∈ sixL)) && (match l.getLast? with | some c => decide (c ∈ endsL) | none => false)
theorem six_letters : ∀ c ∈ sixL, c ∈ lettersL := by decide +kernel
theorem ends_letters : ∀ c ∈ endsL, c ∈ lettersL := by decide +kernel
theorem keywords_look : ∀ k ∈ keywordsL, looksDrawn (cs k) = false := by decide +kernel
theorem NameOk.looks {t : Nat} {z : Str} (h : NameOk t z) : looksDrawn (cs z) = true := by
  obtain ⟨f, c, e, h1, h2, h3, h4⟩ := h
  have hc : c ∈ endsL := List.mem_of_getElem? h4
  unfold looksDrawn
  rw [e, List.dropLast_concat, List.getLast?_concat, List.length_append, List.length_singleton]
  simp only [Bool.and_eq_true, decide_eq_true_eq, List.all_eq_true]
  exact ⟨⟨by omega, h3⟩, hc⟩
theorem NameOk.name {t : Nat} {z : Str} (h : NameOk t z) : isName z = true := by
  have look := h.looks
  obtain ⟨f, c, e, h1, h2, h3, h4⟩ := h
  have hc : c ∈ endsL := List.mem_of_getElem? h4
  have hl : z.length = f.length + 1 := by
    rw [cs_len, e, List.length_append, List.length_singleton]
  unfold isName
  simp only [Bool.and_eq_true, decide_eq_true_eq, Bool.not_eq_true', decide_eq_false_iff_not, List.all_eq_true]
  refine ⟨⟨⟨by omega, by omega⟩, fun hk => ?_⟩, fun d hd => ?_⟩
  · have q := keywords_look z hk
    rw [q] at look
    cases look
  · rw [e, List.mem_append, List.mem_singleton] at hd
    rcases hd with hd | rfl
    · exact six_letters d (h3 d hd)
    · exact ends_letters d hc
theorem ends_nodup : endsL.Nodup := by decide +kernel
theorem NameOk.inj {t u : Nat} {z : Str} (h : NameOk t z) (k : NameOk u z) : t = u := by
  obtain ⟨f, c, e, _, _, _, h4⟩ := h
  obtain ⟨f', c', e', _, _, _, k4⟩ := k
  rw [e] at e'
  have ec : c = c' := by
    have q := congrArg List.getLast? e'
    rw [List.getLast?_concat, List.getLast?_concat] at q
    exact Option.some.inj q
  subst ec
  exact nd_ix ends_nodup h4 k4
/-- the names of several turns -/
def NamesOk (zs : List Str) : Prop := ∀ i z, zs[i]? = some z → NameOk i z
theorem NamesOk.nodup {zs : List Str} (h : NamesOk zs) : zs.Nodup := by
  refine List.pairwise_iff_getElem.mpr fun i j hi hj hij e => ?_
  have a := List.getElem?_eq_getElem hj
  have b := h j _ a
  have c := h i _ (List.getElem?_eq_getElem hi)
  rw [e] at c
  exact absurd (c.inj b) (by omega)
theorem NamesOk.names {zs : List Str} (h : NamesOk zs) {z : Str} (m : z ∈ zs) : isName z = true := by
  obtain ⟨i, hi⟩ := List.mem_iff_getElem?.mp m
  exact (h i z hi).name
theorem NamesOk.snoc {zs : List Str} {z : Str} (h : NamesOk zs) (k : NameOk zs.length z) : NamesOk (zs ++ [z]) := fun i y e => by
  rw [List.getElem?_append] at e
  split at e
  · exact h i y e
  · rename_i hi
    rw [List.getElem?_singleton] at e
    split at e
    · cases e
      have : i = zs.length := by omega
      exact this ▸ k
    · cases e
end Lp

namespace Lp
open PySem PySem.Spec PyProof.Rows L2

/-! ### comprehensions whose turns leave all that stood -/
section
variable {J : It} {n : Nat} {G : Hp → Prop} {Y : Nat → Hp → V → Hp → Prop} {g : TG} {tt : TT} {te : TE} {vs : List Nat} {σ : L2.St} {H1 : Hp} {D : Addr} {Qd : Hp → Prop}
theorem lc_gen (w : Walk J n G Y) (r : Nat → List V) (r0 : r 0 = []) (rl : ∀ i, i < n → (r i).length ≤ 100000) (nD : H1 D = none) (hG : ∀ H', Same H1 H' → G H')
    (hs : ∀ (i : Nat) (x : V) (H2 H3 : Hp) (Ky : V → Hp → Prop) (Kn : Hp → Prop), i < n → Same H1 H2 → Y i H2 x H3 → (∀ y H4, Same H2 H4 → r (i + 1) = r i ++ [y] → Ky y H4) → (∀ H4, Same H2 H4 → r (i + 1) = r i → Kn H4) →
      g x (wipe σ vs) H3 fun σ2 H4 => wipe σ2 vs = wipe σ vs ∧ tt σ2 H4 fun b H5 => if b = true then te σ2 H5 Ky else Kn H5)
    (hd : ∀ H', Same H1 H' → H' D = some (.lst (r n)) → Qd H') :
    ∃ W : Nat → Nat → Hp → Prop, (∃ m, W 0 m (upd H1 D (.lst []))) ∧ ∀ i m H, W i m H →
      (J.stop i H ∧ Qd H) ∨ (J.go i H ∧ ∃ Nx : Hp → Prop, (∀ H', Nx H' → ∃ m', m' < m ∧ W (i + 1) m' H') ∧ ∀ x H', J.yld i H x H' → g x (wipe σ vs) H' fun σ2 H2 => wipe σ2 vs = wipe σ vs ∧ tt σ2 H2 fun b H3 =>
        if b = true then te σ2 H3 fun y H4 => ∃ acc, H4 D = some (.lst acc) ∧ acc.length < sizeLine ∧ Nx (upd H4 D (.lst (acc ++ [y]))) else Nx H3) := by
  refine lc_it w (fun i H' => Same H1 H' ∧ H' D = some (.lst (r i))) ⟨same_upd nD, by rw [upd_same, r0]⟩ (fun i H' _ p => hG H' p.1) (fun i x H2 H3 hi p y => ?_) (fun H' p => hd H' p.1 p.2)
  obtain ⟨sm, hD⟩ := p
  refine hs i x H2 H3 _ _ hi sm y (fun v H4 s4 e => ⟨r i, s4 D _ hD, Nat.lt_of_le_of_lt (rl i hi) (by decide), same_put (sm.trans s4) nD, ?_⟩) (fun H4 s4 e => ⟨sm.trans s4, ?_⟩)
  · rw [upd_same, e]
  · rw [e]
    exact s4 D _ hD
/-- over values that are known: f tells which give, v what -/
theorem lc_vals {vals : List V} (w : Walk J vals.length G (YAt vals)) (f : V → Bool) (v : V → V) (few : vals.length ≤ 100000) (nD : H1 D = none) (hG : ∀ H', Same H1 H' → G H')
    (hs : ∀ (x : V) (H2 : Hp) (Ky : V → Hp → Prop) (Kn : Hp → Prop), x ∈ vals → Same H1 H2 → (∀ H4, Same H2 H4 → f x = true → Ky (v x) H4) → (∀ H4, Same H2 H4 → f x = false → Kn H4) →
      g x (wipe σ vs) H2 fun σ2 H4 => wipe σ2 vs = wipe σ vs ∧ tt σ2 H4 fun b H5 => if b = true then te σ2 H5 Ky else Kn H5)
    (hd : ∀ H', Same H1 H' → H' D = some (.lst ((vals.filter f).map v)) → Qd H') :
    ∃ W : Nat → Nat → Hp → Prop, (∃ m, W 0 m (upd H1 D (.lst []))) ∧ ∀ i m H, W i m H →
      (J.stop i H ∧ Qd H) ∨ (J.go i H ∧ ∃ Nx : Hp → Prop, (∀ H', Nx H' → ∃ m', m' < m ∧ W (i + 1) m' H') ∧ ∀ x H', J.yld i H x H' → g x (wipe σ vs) H' fun σ2 H2 => wipe σ2 vs = wipe σ vs ∧ tt σ2 H2 fun b H3 =>
        if b = true then te σ2 H3 fun y H4 => ∃ acc, H4 D = some (.lst acc) ∧ acc.length < sizeLine ∧ Nx (upd H4 D (.lst (acc ++ [y]))) else Nx H3) := by
  refine lc_gen w (fun i => ((vals.take i).filter f).map v) rfl (fun i hi => ?_) nD hG (fun i x H2 H3 Ky Kn hi sm y k1 k0 => ?_) (fun H' sm e => hd H' sm ?_)
  · rw [List.length_map]
    have := List.length_filter_le f (vals.take i)
    rw [List.length_take] at this
    omega
  · obtain ⟨rfl, hx⟩ := y
    have tk : vals.take (i + 1) = vals.take i ++ [x] := by
      rw [List.take_add_one, hx]
      rfl
    refine hs x H3 Ky Kn (List.mem_of_getElem? hx) sm (fun H4 s4 e => k1 _ H4 s4 ?_) (fun H4 s4 e => k0 H4 s4 ?_)
    · show ((vals.take (i + 1)).filter f).map v = _
      rw [tk, List.filter_append, List.map_append, List.filter_cons, if_pos e]
      rfl
    · show ((vals.take (i + 1)).filter f).map v = _
      rw [tk, List.filter_append, List.map_append, List.filter_cons, if_neg (by rw [e]; exact Bool.false_ne_true)]
      show _ ++ [] = _
      rw [List.append_nil]
  · rw [e]
    show some (HO.lst (((vals.take vals.length).filter f).map v)) = _
    rw [List.take_length]
end
/-- the signs of a text, as values -/
def signs (z : Str) : List V := (cs z).map fun c => .str ⟨#[c]⟩
theorem signs_len (z : Str) : (signs z).length = (cs z).length := List.length_map _
theorem walk_signs {z : Str} : Walk (Its z) (signs z).length (fun _ => True) (YAt (signs z)) := by
  have w := walk_str (z := z)
  have e : z.cps.size = (signs z).length := by
    rw [signs_len, Array.length_toList]
  rw [e] at w
  refine w.mono (fun _ h => h) fun i H x H' hi _ y => ⟨y.1, ?_⟩
  obtain ⟨c, hc, rfl⟩ := y.2
  unfold signs
  rw [List.getElem?_map, Array.getElem?_toList, hc]
  rfl
/-- the numbers of a range, as values -/
def upto (n : Nat) : List V := (List.range n).map fun i : Nat => V.int (i : Int)
theorem upto_len (n : Nat) : (upto n).length = n := by
  unfold upto
  rw [List.length_map, List.length_range]
theorem walk_upto {n : Nat} : Walk (Itr 0 n) (upto n).length (fun _ => True) (YAt (upto n)) := by
  have w := walk_range (lo := 0) (n := n)
  rw [upto_len]
  refine w.mono (fun _ h => h) fun i H x H' hi _ y => ⟨y.1, ?_⟩
  rw [y.2]
  show (upto n)[i]? = some (V.int ((0 : Int) + (i : Int)))
  rw [Int.zero_add]
  unfold upto
  rw [List.getElem?_map, List.getElem?_range hi]
  rfl
end Lp
namespace Lp
open PySem PySem.Spec PyProof.Rows L2
/-! ### plain data -/
def Dat (H : Hp) : V → Prop
  | .non => True
  | .bl _ => True
  | .int _ => True
  | .str z => z.length ≤ 100000
  | .ref a => (∃ xs, H a = some (.lst xs)) ∨ (∃ xs, H a = some (.tup xs)) ∨ ∃ kvs, H a = some (.dK kvs)
  | _ => False
def nameV : V → Bool
  | .str z => isName z
  | _ => false
theorem Dat.same {H H' : Hp} {v : V} (k : Same H H') (d : Dat H v) : Dat H' v := by
  cases v with
  | ref a =>
    rcases d with ⟨xs, e⟩ | ⟨xs, e⟩ | ⟨xs, e⟩
    · exact .inl ⟨xs, k _ _ e⟩
    · exact .inr (.inl ⟨xs, k _ _ e⟩)
    · exact .inr (.inr ⟨xs, k _ _ e⟩)
  | _ => exact d
theorem dat_not_str {K : PySem.W.Frag} {H : Hp} {v : V} (d : Dat H v) (h : ¬ ∃ z, v = .str z) : ∃ t, TyX K H v (.type t) ∧ PySem.W.kitOne K (.type t) (.type "str") = some false := by
  cases v with
  | non => exact ⟨_, .base .non, kit_ty (by decide +kernel)⟩
  | bl b => exact ⟨_, .base (.bl b), kit_ty (by decide +kernel)⟩
  | int i => exact ⟨_, .base (.int i), kit_ty (by decide +kernel)⟩
  | str z => exact absurd ⟨z, rfl⟩ h
  | ref a =>
    rcases d with ⟨xs, e⟩ | ⟨xs, e⟩ | ⟨xs, e⟩
    · exact ⟨_, .base (.lst e), kit_ty (by decide +kernel)⟩
    · exact ⟨_, .base (.tup e), kit_ty (by decide +kernel)⟩
    · exact ⟨_, .base (.dK e), kit_ty (by decide +kernel)⟩
  | byt b => exact False.elim d
  | flt b => exact False.elim d
  | ty n => exact False.elim d
theorem dat_not_tup {K : PySem.W.Frag} {H : Hp} {v : V} (d : Dat H v) (h : ¬ ∃ a xs, v = .ref a ∧ H a = some (.tup xs)) : ∃ t, TyX K H v (.type t) ∧ PySem.W.kitOne K (.type t) (.type "tuple") = some false := by
  cases v with
  | non => exact ⟨_, .base .non, kit_ty (by decide +kernel)⟩
  | bl b => exact ⟨_, .base (.bl b), kit_ty (by decide +kernel)⟩
  | int i => exact ⟨_, .base (.int i), kit_ty (by decide +kernel)⟩
  | str z => exact ⟨_, .base (.str z), kit_ty (by decide +kernel)⟩
  | ref a =>
    rcases d with ⟨xs, e⟩ | ⟨xs, e⟩ | ⟨xs, e⟩
    · exact ⟨_, .base (.lst e), kit_ty (by decide +kernel)⟩
    · exact absurd ⟨a, xs, rfl, e⟩ h
    · exact ⟨_, .base (.dK e), kit_ty (by decide +kernel)⟩
  | byt b => exact False.elim d
  | flt b => exact False.elim d
  | ty n => exact False.elim d
/-- in, of a text among texts -/
theorem inV_strs (z : Str) (ks : List Str) : inV (.str z) (ks.map V.str) = decide (z ∈ ks) := by
  unfold inV
  rw [List.any_map]
  induction ks with
  | nil => rfl
  | cons k r ih =>
    rw [List.any_cons, ih]
    show ((k == z) || decide (z ∈ r)) = decide (z ∈ k :: r)
    by_cases e : k = z
    · subst e
      simp
    · have e2 : (k == z) = false := beq_eq_false_iff_ne.mpr e
      rw [e2, Bool.false_or]
      exact decide_eq_decide.mpr ⟨fun h => List.mem_cons_of_mem _ h, fun h => (List.mem_cons.mp h).resolve_left fun q => e q.symm⟩
theorem bools_all {xs : List V} {f : V → Bool} : ((xs.filter fun _ => true).map fun x => V.bl (f x)) = (xs.map f).map V.bl := by
  rw [List.filter_eq_self.mpr fun _ _ => rfl, List.map_map]
  rfl
theorem strs_all_flat (zs : List Str) : (zs.map V.str).all flatV = true := by
  rw [List.all_map]
  exact List.all_eq_true.mpr fun _ _ => rfl
def letterV : V → Bool
  | .str y => (cs y).all fun c => decide (c ∈ lettersL)
  | _ => false
theorem letterV_one (c : Nat) : letterV (.str ⟨#[c]⟩) = decide (c ∈ lettersL) := by
  show (cs ⟨#[c]⟩).all (fun c => decide (c ∈ lettersL)) = _
  rw [cs_one]
  simp
theorem letters_all (z : Str) : ((signs z).map letterV).all id = (cs z).all fun c => decide (c ∈ lettersL) := by
  unfold signs
  rw [List.map_map, List.all_map]
  congr 1
  funext c
  exact letterV_one c
/-- whether values are different names -/
def DiffOk (xs : List V) : Prop := ∃ zs : List Str, xs = zs.map V.str ∧ (∀ z ∈ zs, isName z = true) ∧ zs.Nodup
theorem all_names : ∀ {xs : List V}, (xs.map nameV).all id = true → ∃ zs : List Str, xs = zs.map V.str ∧ ∀ z ∈ zs, isName z = true
  | [], _ => ⟨[], rfl, fun _ h => nomatch h⟩
  | x :: r, h => by
    rw [List.map_cons, List.all_cons, Bool.and_eq_true] at h
    obtain ⟨zs, rfl, hz⟩ := all_names h.2
    cases x with
    | str z =>
      refine ⟨z :: zs, rfl, fun y hy => ?_⟩
      rcases List.mem_cons.mp hy with rfl | hy
      · exact h.1
      · exact hz y hy
    | _ => exact absurd (show false = true from h.1) Bool.false_ne_true
theorem names_all {zs : List Str} (h : ∀ z ∈ zs, isName z = true) : ((zs.map V.str).map nameV).all id = true := by
  rw [List.map_map, List.all_map]
  exact List.all_eq_true.mpr fun z hz => h z hz
theorem strs_inj : ∀ {a b : List Str}, a.map V.str = b.map V.str → a = b
  | [], [], _ => rfl
  | [], _ :: _, h => nomatch h
  | _ :: _, [], h => nomatch h
  | x :: r, y :: t, h => by
    rw [List.map_cons, List.map_cons] at h
    injection h with h1 h2
    injection h1 with h1
    rw [h1, strs_inj h2]
theorem nodup_inr {zs : List Str} : (zs.map (Sum.inr : Str → Key)).Nodup ↔ zs.Nodup := by
  unfold List.Nodup
  rw [List.pairwise_map]
  constructor
  · exact fun h => h.imp fun n e => n (congrArg _ e)
  · exact fun h => h.imp fun n e => n (Sum.inr.inj e)
end Lp

namespace Lp
open PySem PySem.Spec PyProof.Rows L2

/-! ### == of lists of texts, of lists of truths -/
def lowS (z : Str) : Prop := ∀ c ∈ cs z, c < 1114112
theorem lowS.ok {z : Str} (h : lowS z) : PyData.strOk z = true := by
  unfold PyData.strOk
  rw [Array.all_eq_true']
  intro c hc
  exact decide_eq_true (h c (Array.mem_toList_iff.mpr hc))
theorem letters_low : ∀ c ∈ lettersL, c < 1114112 := by decide +kernel
theorem name_low {z : Str} (h : isName z = true) : lowS z := by
  unfold isName at h
  simp only [Bool.and_eq_true, List.all_eq_true, decide_eq_true_eq] at h
  exact fun c hc => letters_low c (h.2 c hc)
theorem dp_strs {K : PySem.W.Frag} {H : Hp} : ∀ zs : List Str, DpAll K H (zs.map V.str) (zs.map PyData.str)
  | [] => .nil
  | z :: r => .cons (.str z) (dp_strs r)
theorem dp_bools {K : PySem.W.Frag} {H : Hp} : ∀ zs : List Bool, DpAll K H (zs.map V.bl) (zs.map PyData.bool)
  | [] => .nil
  | z :: r => .cons (.bl z) (dp_bools r)
theorem lay_strs : ∀ {zs : List Str}, (∀ z ∈ zs, lowS z) → PyData.canLayAll0 (zs.map PyData.str) = true ∧ PyData.depthAll (zs.map PyData.str) = 0
  | [], _ => ⟨rfl, rfl⟩
  | z :: r, h => by
    have ih := lay_strs (zs := r) fun y hy => h y (List.mem_cons_of_mem _ hy)
    have hz := (h z List.mem_cons_self).ok
    rw [List.map_cons]
    refine ⟨?_, ?_⟩
    · show (PyData.canLay0 (.str z) && PyData.canLayAll0 _) = true
      rw [ih.1, Bool.and_true]
      exact hz
    · show max (PyData.depth (.str z)) (PyData.depthAll _) = 0
      rw [ih.2]
      rfl
theorem lay_bools : ∀ (zs : List Bool), PyData.canLayAll0 (zs.map PyData.bool) = true ∧ PyData.depthAll (zs.map PyData.bool) = 0
  | [] => ⟨rfl, rfl⟩
  | z :: r => by
    have ih := lay_bools r
    rw [List.map_cons]
    refine ⟨?_, ?_⟩
    · show (PyData.canLay0 (.bool z) && PyData.canLayAll0 _) = true
      rw [ih.1, Bool.and_true]
      rfl
    · show max (PyData.depth (.bool z)) (PyData.depthAll _) = 0
      rw [ih.2]
      rfl
theorem shaped_of {ds : List PyData} (h : PyData.canLayAll0 ds = true ∧ PyData.depthAll ds = 0) : SeqAt.shaped (.list ds) = true ∧ SeqAt.shaped (.tuple ds) = true := by
  constructor
  · show (PyData.canLayAll0 ds && decide (PyData.depthAll ds + 1 ≤ 64)) = true
    rw [h.1, h.2]
    rfl
  · show (PyData.canLayAll0 ds && decide (PyData.depthAll ds + 1 ≤ 64)) = true
    rw [h.1, h.2]
    rfl
theorem eqv_strs : ∀ (zs ws : List Str), PyData.eqvAll (zs.map PyData.str) (ws.map PyData.str) = decide (zs = ws)
  | [], [] => rfl
  | [], _ :: _ => rfl
  | _ :: _, [] => rfl
  | x :: r, y :: t => by
    show (PyData.eqv (.str x) (.str y) && PyData.eqvAll (r.map PyData.str) (t.map PyData.str)) = _
    rw [eqv_strs r t]
    show ((x == y) && decide (r = t)) = _
    by_cases e : x = y
    · subst e
      rw [beq_self_eq_true, Bool.true_and]
      exact decide_eq_decide.mpr ⟨fun h => by rw [h], fun h => (List.cons.inj h).2⟩
    · rw [beq_eq_false_iff_ne.mpr e, Bool.false_and]
      exact (decide_eq_false fun h => e (List.cons.inj h).1).symm
theorem eqv_bools : ∀ (zs ws : List Bool), PyData.eqvAll (zs.map PyData.bool) (ws.map PyData.bool) = decide (zs = ws)
  | [], [] => rfl
  | [], _ :: _ => rfl
  | _ :: _, [] => rfl
  | x :: r, y :: t => by
    show (PyData.eqv (.bool x) (.bool y) && PyData.eqvAll (r.map PyData.bool) (t.map PyData.bool)) = _
    rw [eqv_bools r t]
    show ((x == y) && decide (r = t)) = _
    by_cases e : x = y
    · subst e
      rw [beq_self_eq_true, Bool.true_and]
      exact decide_eq_decide.mpr ⟨fun h => by rw [h], fun h => (List.cons.inj h).2⟩
    · rw [beq_eq_false_iff_ne.mpr e, Bool.false_and]
      exact (decide_eq_false fun h => e (List.cons.inj h).1).symm
section
variable {K : PySem.W.Frag} {H : Hp} {a b : Addr} {Q : VK}
theorem eq_strsL {zs ws : List Str} (ha : SqL K H a (zs.map V.str)) (hb : SqL K H b (ws.map V.str)) (la : ∀ z ∈ zs, lowS z) (lb : ∀ z ∈ ws, lowS z) (q : Q (.bl (decide (zs = ws))) H) : rEqD K (.ref a) (.ref b) H Q :=
  ⟨_, _, .lst ha (dp_strs zs), .lst hb (dp_strs ws), (shaped_of (lay_strs la)).1, (shaped_of (lay_strs lb)).1, by rw [show PyData.eqv (.list (zs.map PyData.str)) (.list (ws.map PyData.str)) = _ from eqv_strs zs ws]; exact q⟩
theorem ne_strsL {zs ws : List Str} (ha : SqL K H a (zs.map V.str)) (hb : SqL K H b (ws.map V.str)) (la : ∀ z ∈ zs, lowS z) (lb : ∀ z ∈ ws, lowS z) (q : Q (.bl (!decide (zs = ws))) H) : rNeD K (.ref a) (.ref b) H Q :=
  ⟨_, _, .lst ha (dp_strs zs), .lst hb (dp_strs ws), (shaped_of (lay_strs la)).1, (shaped_of (lay_strs lb)).1, by rw [show PyData.eqv (.list (zs.map PyData.str)) (.list (ws.map PyData.str)) = _ from eqv_strs zs ws]; exact q⟩
theorem eq_boolsL {zs ws : List Bool} (ha : SqL K H a (zs.map V.bl)) (hb : SqL K H b (ws.map V.bl)) (q : Q (.bl (decide (zs = ws))) H) : rEqD K (.ref a) (.ref b) H Q :=
  ⟨_, _, .lst ha (dp_bools zs), .lst hb (dp_bools ws), (shaped_of (lay_bools zs)).1, (shaped_of (lay_bools ws)).1, by rw [show PyData.eqv (.list (zs.map PyData.bool)) (.list (ws.map PyData.bool)) = _ from eqv_bools zs ws]; exact q⟩
theorem ne_boolsL {zs ws : List Bool} (ha : SqL K H a (zs.map V.bl)) (hb : SqL K H b (ws.map V.bl)) (q : Q (.bl (!decide (zs = ws))) H) : rNeD K (.ref a) (.ref b) H Q :=
  ⟨_, _, .lst ha (dp_bools zs), .lst hb (dp_bools ws), (shaped_of (lay_bools zs)).1, (shaped_of (lay_bools ws)).1, by rw [show PyData.eqv (.list (zs.map PyData.bool)) (.list (ws.map PyData.bool)) = _ from eqv_bools zs ws]; exact q⟩
end
end Lp
namespace Lp
open PySem PySem.Spec PyProof.Rows L2
/-- zs[:i] -/
theorem cut_to (zs : List Str) (i : Nat) : cutV (zs.map V.str) none (some (i : Int)) = (zs.take i).map V.str := by
  unfold cutV
  rw [HT.sIx_none, HT.sIx_nat, List.drop_zero, Nat.sub_zero, List.map_take, Nat.min_def]
  split
  · rfl
  · rw [List.take_length, List.take_of_length_le (by omega)]
end Lp
namespace Lp
open PySem PySem.Spec PyProof.Rows L2
theorem cut_strs (zs : List Str) (lo hi : Option Int) : ∃ ws : List Str, cutV (zs.map V.str) lo hi = ws.map V.str ∧ (∀ w ∈ ws, w ∈ zs) ∧ ws.length ≤ zs.length := by
  refine ⟨(zs.drop (HT.sIx (zs.map V.str).length 0 lo)).take (HT.sIx (zs.map V.str).length (zs.map V.str).length hi - HT.sIx (zs.map V.str).length 0 lo), ?_, fun w hw => List.mem_of_mem_drop (List.mem_of_mem_take hw), ?_⟩
  · unfold cutV
    rw [List.map_take, List.map_drop]
  · rw [List.length_take, List.length_drop]
    omega
end Lp

namespace Lp
open PySem PySem.Spec PyProof.Rows L2

/-! ### t[::-1] of a tuple -/
section
variable {prog : Program} {w : World} {A : Around} {E : Value → Shared → Prop} {s : Shared}
theorem apply_back {sl : Addr} {vk : Value} {n : Nat} {Q : Int × Int × Nat → Shared → Prop} (here : s.heap.IsSliceOf sl .none .none vk) (pk : IsPart vk (some (-1))) (q : Q (((n : Nat) : Int) - 1, -1, n) s) :
    wpAny (model prog w) A (Builtin.Slice.sliceApplied (.ref sl) (pure (n : Int))) Q E s := by
  obtain ⟨o, ho, _, hd⟩ := here
  unfold Builtin.Slice.sliceApplied Builtin.Slice.sliceFields
  refine wpAny_bind (wpAny_bind (wpAny_field ho hd (x := .none) rfl (wpAny_bind (wpAny_field ho hd (x := .none) rfl (wpAny_bind (wpAny_field ho hd (x := vk) rfl (wpAny_pure (?_ : _))))))))
  refine wpAny_bind (HT.slicePart_ pk (?_ : _))
  show wpAny _ _ (if ((-1 : Int) == 0) = true then _ else _) _ _ s
  rw [if_neg (by decide)]
  refine wpAny_bind (HT.slicePart_ .none (wpAny_bind (HT.slicePart_ .none (wpAny_bind (wpAny_pure (?_ : _))))))
  have places : Builtin.Slice.slicePlaces ((n : Int) - 1) (-1) (-1) = n := by
    unfold Builtin.Slice.slicePlaces
    rw [if_neg (by decide)]
    by_cases h : (n : Int) - 1 > -1
    · rw [if_pos h, show (- -1 : Int) = 1 by decide, Int.ediv_one]
      omega
    · rw [if_neg h]
      show (0 : Int).toNat = n
      omega
  show wpAny _ _ (pure ((n : Int) - 1, (-1 : Int), Builtin.Slice.slicePlaces ((n : Int) - 1) (-1) (-1))) _ _ s
  rw [places]
  exact wpAny_pure q
theorem pick_back (xs : Array Value) : ((List.range xs.size).filterMap fun (m : Nat) => xs[((xs.size : Int) - 1 + (m : Int) * -1).toNat]?).toArray = xs.toList.reverse.toArray := by
  have e1 : (List.range xs.size).filterMap (fun (m : Nat) => xs[((xs.size : Int) - 1 + (m : Int) * -1).toNat]?) = ((List.range xs.size).map fun k => xs.size - 1 - k).filterMap (xs[·]?) := by
    rw [List.filterMap_map]
    congr 1
    funext m
    have e2 : ((xs.size : Int) - 1 + (m : Int) * -1).toNat = xs.size - 1 - m := by omega
    rw [e2]
    rfl
  rw [e1, PySem.W.krv_range, List.filterMap_reverse, PySem.W.krv_all]
theorem item_back {t sl : Addr} {items : Array Value} {vk : Value} {Q : Value → Shared → Prop} (ht : IsTup s.heap t items) (here : s.heap.IsSliceOf sl .none .none vk) (pk : IsPart vk (some (-1))) (small : items.size ≤ sizeLine)
    (q : Q (.ref s.heap.objs.size) { s with heap := s.heap.push { cls := .type "tuple", data := .seq items.toList.reverse.toArray } }) : wpAny (model prog w) A (getItem (.ref t) (.ref sl)) Q E s := by
  obtain ⟨o, ho, hc, _⟩ := id here
  have ty : s.TypeIs (.ref sl) "slice" := ⟨o, ho, hc⟩
  have fits : sizeOk (.seq items.toList.reverse.toArray) := by
    show items.toList.reverse.toArray.size ≤ sizeLine
    rw [List.size_toArray, List.length_reverse, Array.length_toList]
    exact small
  unfold getItem
  refine wpAny_holding (?_ : _)
  refine wpAny_bind (wpAny_sequenceKey ht.typeIs (by decide) (?_ : _))
  refine wpAny_bind (wpAny_callSpecial?_slot (name := Str.ofString "__getitem__") ht.typeIs PyProof.Rows.slot_tuple_getitem (wpAny_call_entry PyProof.Rows.slot_tuple_getitem ht.typeIs entry_tuple_getitem (?_ : _) (args_tuple_getitem _ _)))
  show wpAny _ _ (Builtin.Tuple.tupleItemsOf (Value.ref t) >>= _) _ _ s
  refine wpAny_bind (tupleItemsOf_ ht (?_ : _))
  refine wpAny_bind (wpAny_typeOf ty (?_ : _))
  rw [if_pos (by decide)]
  refine wpAny_bind (apply_back here pk (?_ : _))
  show wpAny _ _ (if (((items.size : Int) - 1) == 0 && (-1 : Int) == 1 && items.size == items.size) = true then _ else _) _ _ s
  rw [if_neg (by simp), pick_back]
  first
    | exact wpAny_bind (m := Builtin.Tuple.tupleExact _) (wpAny_newObj_type (wpAny_pure ⟨_, rfl, wpAny_pure q⟩) fits)
    | exact wpAny_bind (m := Builtin.Tuple.tupleExact _) (wpAny_newObj_type (wpAny_bind (wpAny_pure (wpAny_pure ⟨_, rfl, wpAny_pure q⟩))) fits)
    | exact wpAny_bind (wpAny_bind (m := Builtin.Tuple.tupleExact _) (wpAny_newObj_type (wpAny_pure (wpAny_pure ⟨_, rfl, wpAny_pure q⟩)) fits))
    | exact wpAny_bind (wpAny_bind (m := Builtin.Tuple.tupleExact _) (wpAny_newObj_type (wpAny_pure ⟨_, rfl, wpAny_pure q⟩) fits))
end
section
variable {X : Cx}
def tRevT (K : PySem.W.Frag) (te : TE) : TE := fun σ H Q => te σ H fun x H1 => ∃ a xs, x = .ref a ∧ SqT K H1 a xs ∧ ∀ p, H1 p = none → Q (.ref p) (upd H1 p (.tup xs.reverse))
theorem pe_revT {e : Expr} {te : TE} {k : Nat} {p1 p2 p3 pos : Pos} (he : PE X e te) : PE X (.Subscript e (.Slice none none (some (.UnaryOp .USub (.Constant (.int 1) k p1) p2)) p3) pos) (tRevT X.K te) := by
  refine ⟨fun pins s σ H Q I h => ?_⟩
  refine Subscript_ (thn (he.run pins s σ H _ I h) fun v s1 ⟨x, H1, I1, r1, q1⟩ => ?_)
  obtain ⟨a, xs, rfl, hx, q⟩ := q1
  cases r1
  have back : PO X (some (.UnaryOp .USub (.Constant (.int 1) k p1) p2)) (tPart (tUn (rU fun i => .int (-i)) (tC (.int 1)))) := po_some (pe_un un_neg pe_int)
  refine wpAny_Slice (thn (po_none.run pins s1 σ H1 (fun o H2 => o = none ∧ H2 = H1) I1 ⟨rfl, rfl⟩) fun vl s2 ⟨l, H2, I2, pl, el, e2⟩ => (?_ : _))
  subst el
  subst e2
  refine thn (po_none.run pins s2 σ H2 (fun o H3 => o = none ∧ H3 = H2) I2 ⟨rfl, rfl⟩) fun vu s3 ⟨u, H3, I3, pu, eu, e3⟩ => (?_ : _)
  subst eu
  subst e3
  refine thn (back.run pins s3 σ H3 (fun o H4 => o = some (-1) ∧ H4 = H3) I3 ⟨1, rfl, -1, rfl, rfl, rfl⟩) fun vs s4 ⟨o, H4, I4, ps, eo, e4⟩ => (?_ : _)
  subst eo
  subst e4
  cases pl
  cases pu
  have I5 : Inv X pins σ H4 { s4 with heap := s4.heap.push { cls := .type "slice", data := .fields #[.none, .none, vs] } } := I4.kept (t' := s4.toks) fun b ob z => Heap.get?_push_of_some _ z
  obtain ⟨its, r, ht, hz⟩ := I5.tuple hx
  have len := r.length
  show wpAny (model X.prog X.w) X.A (subscriptTail e (.Slice none none (some (.UnaryOp .USub (.Constant (.int 1) k p1) p2)) p3) (.ref a) (.ref s4.heap.objs.size)) (EP X pins σ Q) X.xe
    { s4 with heap := s4.heap.push { cls := .type "slice", data := .fields #[.none, .none, vs] } }
  refine tail_any (ops := [.ref a, .ref s4.heap.objs.size]) ht.typeIs PyProof.Rows.slot_tuple_getitem.lookup (?_ : _) (by with_unfolding_all rfl)
  refine item_back ht (Heap.IsSliceOf.new _ .none .none vs) ps (by rw [List.size_toArray]; omega) (?_ : _)
  refine ⟨.ref _, _, I5.laid (t' := s4.toks) (o := .tup xs.reverse) (fun b ob z => Heap.get?_push_of_some _ z) (Nat.le_refl _) (?_ : _), rfl, q _ (I5.hok.fresh (Nat.le_refl _))⟩
  exact ⟨by rw [List.length_reverse]; exact hz, its.reverse, r.reverse, ⟨_, Heap.get?_push_size _ rfl, rfl, 0, by simp⟩⟩
end
end Lp

namespace Lp
open PySem PySem.Spec PyProof.Rows L2

/-! ### texts of ASCII signs, of at most n -/
def Asc (n : Nat) (z : Str) : Prop := z.length ≤ n ∧ ∀ c ∈ cs z, c < 128
theorem Asc.mono {n m : Nat} {z : Str} (h : Asc n z) (k : n ≤ m) : Asc m z := ⟨Nat.le_trans h.1 k, h.2⟩
theorem Asc.low {n : Nat} {z : Str} (h : Asc n z) : lowS z := fun c hc => Nat.lt_trans (h.2 c hc) (by decide)
theorem Asc.cut {n : Nat} {z : Str} (h : Asc n z) (lo hi : Option Int) : Asc n (cutS z lo hi) := by
  refine ⟨Nat.le_trans (cutS_length z lo hi) h.1, fun c hc => ?_⟩
  unfold cutS at hc
  rw [cs_mk] at hc
  exact h.2 c (List.mem_of_mem_drop (List.mem_of_mem_take hc))
theorem Asc.app {n m : Nat} {x y : Str} (h : Asc n x) (k : Asc m y) : Asc (n + m) (x ++ y) := by
  refine ⟨?_, fun c hc => ?_⟩
  · have a := h.1
    have b := k.1
    rw [cs_len] at a b ⊢
    rw [cs_app, List.length_append]
    omega
  · rw [cs_app] at hc
    rcases List.mem_append.mp hc with hc | hc
    · exact h.2 c hc
    · exact k.2 c hc
theorem Asc.rep {n : Nat} {z : Str} (h : Asc n z) (k : Nat) : Asc (k * n) (txtRep z k) := by
  refine ⟨?_, fun c hc => ?_⟩
  · have a := h.1
    rw [cs_len] at a ⊢
    rw [cs_rep]
    simp only [List.length_flatten, List.map_replicate, List.sum_replicate_nat]
    exact Nat.mul_le_mul_left k a
  · rw [cs_rep] at hc
    obtain ⟨l, hl, hc⟩ := List.mem_flatten.mp hc
    rw [(List.mem_replicate.mp hl).2] at hc
    exact h.2 c hc
/-- a text backward -/
def revS (z : Str) : Str := ⟨(cs z).reverse.toArray⟩
theorem cs_revS (z : Str) : cs (revS z) = (cs z).reverse := rfl
theorem Asc.rev {n : Nat} {z : Str} (h : Asc n z) : Asc n (revS z) := by
  refine ⟨?_, fun c hc => h.2 c (List.mem_reverse.mp hc)⟩
  have a := h.1
  rw [cs_len] at a ⊢
  rw [cs_revS, List.length_reverse]
  exact a
theorem up1_low : ∀ c, c < 128 → up1 c < 128 := by decide +kernel
theorem Asc.up {n : Nat} {z : Str} (h : Asc n z) : Asc n (Txt.upper z) := by
  rw [upper_ascii h.2]
  refine ⟨?_, fun c hc => ?_⟩
  · show (z.cps.map up1).size ≤ n
    rw [Array.size_map]
    exact h.1
  · have hc : c ∈ (z.cps.map up1).toList := hc
    rw [Array.toList_map] at hc
    obtain ⟨d, hd, rfl⟩ := List.mem_map.mp hc
    exact up1_low d (h.2 d hd)
theorem Asc.one {c : Nat} (h : c < 128) : Asc 1 ⟨#[c]⟩ := ⟨Nat.le_refl _, fun d hd => by
  rw [cs_one, List.mem_singleton] at hd
  exact hd ▸ h⟩
theorem letters_asc : ∀ c ∈ lettersL, c < 128 := by decide +kernel
theorem name_size {z : Str} (h : isName z = true) : 1 ≤ z.length ∧ z.length ≤ 8 := by
  unfold isName at h
  simp only [Bool.and_eq_true, decide_eq_true_eq] at h
  exact ⟨h.1.1.1, h.1.1.2⟩
theorem name_asc {z : Str} (h : isName z = true) : Asc 8 z := by
  refine ⟨(name_size h).2, ?_⟩
  unfold isName at h
  simp only [Bool.and_eq_true, List.all_eq_true, decide_eq_true_eq] at h
  exact fun c hc => letters_asc c (h.2 c hc)
/-- a written text -/
theorem asc_by {n : Nat} {z : Str} (h : (decide (z.length ≤ n) && (cs z).all fun c => decide (c < 128)) = true) : Asc n z := by
  rw [Bool.and_eq_true, List.all_eq_true] at h
  exact ⟨of_decide_eq_true h.1, fun c hc => of_decide_eq_true (h.2 c hc)⟩

/-! ### s[::-1] of a text -/
section
variable {X : Cx}
theorem back_revS (z : Str) (u : Tok) : Txt.sliceBy z none none (-1, u) = revS z := by
  apply cs_ext
  rw [cs_revS]
  show (Txt.sliceBy z none none (-1, u)).cps.toList = _
  rw [step_rev_list]
  apply List.ext_getElem
  · rw [List.length_map, List.length_range, List.length_reverse, cs_len]
  · intro i h1 h2
    rw [List.getElem_map, List.getElem_range, List.getElem_reverse]
    have lt : i < (cs z).length := by
      rw [List.length_reverse] at h2
      exact h2
    have b : z.length - 1 - i < z.cps.size := by
      have := cs_len z
      have e : z.cps.size = z.length := rfl
      omega
    rw [← Array.getElem_eq_getD 0 (h := b), ← Array.getElem_toList]
    congr 1
def tRevS (te : TE) : TE := fun σ H Q => te σ H fun x H1 => ∃ z, x = .str z ∧ z.length ≤ sizeLine ∧ Q (.str (revS z)) H1
theorem pe_revS {e : Expr} {te : TE} {k : Nat} {p1 p2 p3 pos : Pos} (he : PE X e te) : PE X (.Subscript e (.Slice none none (some (.UnaryOp .USub (.Constant (.int 1) k p1) p2)) p3) pos) (tRevS te) := by
  refine ⟨fun pins s σ H Q I h => ?_⟩
  refine Subscript_ (thn (he.run pins s σ H _ I h) fun v s1 ⟨x, H1, I1, r1, q1⟩ => ?_)
  obtain ⟨z, rfl, small, q⟩ := q1
  obtain ⟨t, rfl⟩ := r1
  have back : PO X (some (.UnaryOp .USub (.Constant (.int 1) k p1) p2)) (tPart (tUn (rU fun i => .int (-i)) (tC (.int 1)))) := po_some (pe_un un_neg pe_int)
  refine wpAny_Slice (thn (po_none.run pins s1 σ H1 (fun o H2 => o = none ∧ H2 = H1) I1 ⟨rfl, rfl⟩) fun vl s2 ⟨l, H2, I2, pl, el, e2⟩ => (?_ : _))
  subst el
  subst e2
  refine thn (po_none.run pins s2 σ H2 (fun o H3 => o = none ∧ H3 = H2) I2 ⟨rfl, rfl⟩) fun vu s3 ⟨u, H3, I3, pu, eu, e3⟩ => (?_ : _)
  subst eu
  subst e3
  refine thn (back.run pins s3 σ H3 (fun o H4 => o = some (-1) ∧ H4 = H3) I3 ⟨1, rfl, -1, rfl, rfl, rfl⟩) fun vs s4 ⟨o, H4, I4, ps, eo, e4⟩ => (?_ : _)
  subst eo
  subst e4
  cases pl
  cases pu
  obtain ⟨uk, rfl⟩ : ∃ uk, vs = .int (-1) uk := by
    cases ps
    exact ⟨_, rfl⟩
  have I5 : Inv X pins σ H4 { s4 with heap := s4.heap.push { cls := .type "slice", data := .fields #[.none, .none, .int (-1) uk] } } := I4.kept (t' := s4.toks) fun b ob y => Heap.get?_push_of_some _ y
  show wpAny (model X.prog X.w) X.A (subscriptTail e (.Slice none none (some (.UnaryOp .USub (.Constant (.int 1) k p1) p2)) p3) (.str z t) (.ref s4.heap.objs.size)) (EP X pins σ Q) X.xe
    { s4 with heap := s4.heap.push { cls := .type "slice", data := .fields #[.none, .none, .int (-1) uk] } }
  refine tail_any (ops := [.ref s4.heap.objs.size, .str z t]) (typeIs_str _ _ _) PySem.F.slot_str_getitem.lookup (?_ : _) (by with_unfolding_all rfl)
  refine wpAny_getItem_str_slice (l := none) (u := none) (st := some (-1, uk)) ⟨_, Heap.get?_push_size _ rfl, rfl, rfl⟩ rfl (?_ : _)
  refine post_val_or_str ⟨Nat.le_trans (Txt.sliceBy_le z _ _ (-1, uk) (show (-1 : Int) ≠ 0 by decide)) small, fun t' c => ?_⟩
  refine ⟨.str (revS z), H4, I5.tok c, ⟨t', ?_⟩, q⟩
  rw [← back_revS z uk]
  rfl
end
end Lp

namespace Lp
open PySem PySem.Spec PyProof.Rows L2

/-! ### comprehensions over values that stand for something -/
section
variable {J : It} {G : Hp → Prop} {g : TG} {tt : TT} {te : TE} {vs : List Nat} {σ : L2.St} {H1 : Hp} {D : Addr} {Qd : Hp → Prop} {α : Type}
theorem lc_src {src : List α} (val : α → V) (w : Walk J (src.map val).length G (YAt (src.map val))) (f : α → Bool) (v : α → V) (few : src.length ≤ 100000) (nD : H1 D = none) (hG : ∀ H', Same H1 H' → G H')
    (hs : ∀ (x : α) (H2 : Hp) (Ky : V → Hp → Prop) (Kn : Hp → Prop), x ∈ src → Same H1 H2 → (∀ H4, Same H2 H4 → f x = true → Ky (v x) H4) → (∀ H4, Same H2 H4 → f x = false → Kn H4) →
      g (val x) (wipe σ vs) H2 fun σ2 H4 => wipe σ2 vs = wipe σ vs ∧ tt σ2 H4 fun b H5 => if b = true then te σ2 H5 Ky else Kn H5)
    (hd : ∀ H', Same H1 H' → H' D = some (.lst ((src.filter f).map v)) → Qd H') :
    ∃ W : Nat → Nat → Hp → Prop, (∃ m, W 0 m (upd H1 D (.lst []))) ∧ ∀ i m H, W i m H →
      (J.stop i H ∧ Qd H) ∨ (J.go i H ∧ ∃ Nx : Hp → Prop, (∀ H', Nx H' → ∃ m', m' < m ∧ W (i + 1) m' H') ∧ ∀ x H', J.yld i H x H' → g x (wipe σ vs) H' fun σ2 H2 => wipe σ2 vs = wipe σ vs ∧ tt σ2 H2 fun b H3 =>
        if b = true then te σ2 H3 fun y H4 => ∃ acc, H4 D = some (.lst acc) ∧ acc.length < sizeLine ∧ Nx (upd H4 D (.lst (acc ++ [y]))) else Nx H3) := by
  refine lc_gen w (fun i => ((src.take i).filter f).map v) rfl (fun i hi => ?_) nD hG (fun i x H2 H3 Ky Kn hi sm y k1 k0 => ?_) (fun H' sm e => hd H' sm ?_)
  · rw [List.length_map]
    have := List.length_filter_le f (src.take i)
    rw [List.length_take] at this
    omega
  · obtain ⟨rfl, hx⟩ := y
    rw [List.getElem?_map] at hx
    obtain ⟨u, hu, rfl⟩ := Option.map_eq_some_iff.mp hx
    have tk : src.take (i + 1) = src.take i ++ [u] := by
      rw [List.take_add_one, hu]
      rfl
    refine hs u H3 Ky Kn (List.mem_of_getElem? hu) sm (fun H4 s4 e => k1 _ H4 s4 ?_) (fun H4 s4 e => k0 H4 s4 ?_)
    · show ((src.take (i + 1)).filter f).map v = _
      rw [tk, List.filter_append, List.map_append, List.filter_cons, if_pos e]
      rfl
    · show ((src.take (i + 1)).filter f).map v = _
      rw [tk, List.filter_append, List.map_append, List.filter_cons, if_neg (by rw [e]; exact Bool.false_ne_true)]
      show _ ++ [] = _
      rw [List.append_nil]
  · rw [e]
    show some (HO.lst (((src.take (src.map val).length).filter f).map v)) = _
    rw [List.length_map, List.take_length]
end

/-! ### lists of pairs of texts -/
/-- pairs as they stand in a heap -/
abbrev PairL := List (Addr × Str × Str)
def PairsAt (H : Hp) (ps : PairL) : Prop := ∀ q ∈ ps, H q.1 = some (.tup [.str q.2.1, .str q.2.2])
theorem PairsAt.same {H H' : Hp} {ps : PairL} (h : PairsAt H ps) (k : Same H H') : PairsAt H' ps := fun q hq => k _ _ (h q hq)
def refs (ps : PairL) : List V := ps.map fun q => V.ref q.1
def dat2 (p : Str × Str) : PyData := .tuple [.str p.1, .str p.2]
theorem dp_pair {K : PySem.W.Frag} {H : Hp} {q : Addr × Str × Str} (h : H q.1 = some (.tup [.str q.2.1, .str q.2.2])) : Dp K H (.ref q.1) (dat2 q.2) := .tup (.inl (.inl h)) (.cons (.str _) (.cons (.str _) .nil))
theorem dp_pairs {K : PySem.W.Frag} {H : Hp} : ∀ {ps : PairL}, PairsAt H ps → DpAll K H (refs ps) (ps.map fun q => dat2 q.2)
  | [], _ => .nil
  | q :: r, h => .cons (dp_pair (h q List.mem_cons_self)) (dp_pairs fun u hu => h u (List.mem_cons_of_mem _ hu))
theorem lay_pair {p : Str × Str} (h1 : lowS p.1) (h2 : lowS p.2) : PyData.canLay0 (dat2 p) = true ∧ PyData.depth (dat2 p) = 1 := by
  have a : PyData.strOk p.1 = true := h1.ok
  have b : PyData.strOk p.2 = true := h2.ok
  constructor
  · show (PyData.strOk p.1 && (PyData.strOk p.2 && true)) = true
    rw [a, b]
    rfl
  · rfl
theorem lay_pairs : ∀ {ps : List (Str × Str)}, (∀ p ∈ ps, lowS p.1 ∧ lowS p.2) → PyData.canLayAll0 (ps.map dat2) = true ∧ PyData.depthAll (ps.map dat2) ≤ 1
  | [], _ => ⟨rfl, Nat.zero_le _⟩
  | p :: r, h => by
    have ih := lay_pairs (ps := r) fun y hy => h y (List.mem_cons_of_mem _ hy)
    have hp := lay_pair (h p List.mem_cons_self).1 (h p List.mem_cons_self).2
    rw [List.map_cons]
    refine ⟨?_, ?_⟩
    · show (PyData.canLay0 (dat2 p) && PyData.canLayAll0 _) = true
      rw [ih.1, hp.1]
      rfl
    · show max (PyData.depth (dat2 p)) (PyData.depthAll _) ≤ 1
      rw [hp.2]
      omega
theorem shaped_pairs {ps : List (Str × Str)} (h : ∀ p ∈ ps, lowS p.1 ∧ lowS p.2) : SeqAt.shaped (.list (ps.map dat2)) = true := by
  have l := lay_pairs h
  show (PyData.canLayAll0 (ps.map dat2) && decide (PyData.depthAll (ps.map dat2) + 1 ≤ 64)) = true
  rw [l.1, Bool.true_and]
  exact decide_eq_true (by omega)
theorem shaped_pair {p : Str × Str} (h1 : lowS p.1) (h2 : lowS p.2) : SeqAt.shaped (dat2 p) = true := by
  have l := lay_pair h1 h2
  unfold SeqAt.shaped
  rw [l.1, l.2]
  rfl
theorem eqv_pair (p q : Str × Str) : PyData.eqv (dat2 p) (dat2 q) = decide (p = q) := by
  show ((p.1 == q.1) && ((p.2 == q.2) && true)) = _
  obtain ⟨a, b⟩ := p
  obtain ⟨c, d⟩ := q
  rw [Bool.and_true]
  by_cases h1 : a = c
  · by_cases h2 : b = d
    · subst h1
      subst h2
      simp
    · have : ((a, b) : Str × Str) ≠ (c, d) := fun e => h2 (Prod.mk.inj e).2
      rw [decide_eq_false this, show (b == d) = false from beq_eq_false_iff_ne.mpr h2, Bool.and_false]
  · have : ((a, b) : Str × Str) ≠ (c, d) := fun e => h1 (Prod.mk.inj e).1
    rw [decide_eq_false this, show (a == c) = false from beq_eq_false_iff_ne.mpr h1, Bool.false_and]
theorem any_pair (ps : List (Str × Str)) (p : Str × Str) : ((ps.map dat2).any fun z => PyData.eqv z (dat2 p)) = decide (p ∈ ps) := by
  rw [List.any_map]
  induction ps with
  | nil => rfl
  | cons q r ih =>
    rw [List.any_cons, ih]
    show (PyData.eqv (dat2 q) (dat2 p) || decide (p ∈ r)) = _
    rw [eqv_pair]
    by_cases e : q = p
    · subst e
      simp
    · rw [decide_eq_false e, Bool.false_or]
      exact decide_eq_decide.mpr ⟨fun h => List.mem_cons_of_mem _ h, fun h => (List.mem_cons.mp h).resolve_left fun z => e z.symm⟩
section
variable {X : Cx} {K : PySem.W.Frag}
theorem inD_K (h : X.K = K) (hu : X.A.units + 65 < cLine) : OpR X (compareOp .In) (rInD K) := h ▸ op_inD hu
theorem pair_in {H : Hp} {Q : VK} {a : Addr} {x y : Str} {l : Addr} {ps : PairL} (ha : H a = some (.tup [.str x, .str y])) (hl : H l = some (.lst (refs ps))) (hp : PairsAt H ps) (low : ∀ p ∈ ps.map (·.2), lowS p.1 ∧ lowS p.2) (lx : lowS x) (ly : lowS y)
    (q : Q (.bl (decide ((x, y) ∈ ps.map (·.2)))) H) : rInD K (.ref a) (.ref l) H Q := by
  have e : (ps.map fun q => dat2 q.2) = (ps.map (·.2)).map dat2 := by rw [List.map_map]; rfl
  refine ⟨dat2 (x, y), ps.map fun q => dat2 q.2, dp_pair (q := (a, x, y)) ha, .lst (.inl (.inl hl)) (dp_pairs hp), shaped_pair (p := (x, y)) lx ly, ?_, ?_⟩
  · rw [e]
    exact shaped_pairs low
  · rw [e, any_pair]
    exact q
/-- a list of pairs beside [] -/
theorem ne_pairs_nil {H : Hp} {Q : VK} {l m : Addr} {ps : PairL} (hl : H l = some (.lst (refs ps))) (hp : PairsAt H ps) (low : ∀ p ∈ ps.map (·.2), lowS p.1 ∧ lowS p.2) (hm : H m = some (.lst [])) (q : Q (.bl (!decide (ps = []))) H) : rNeD K (.ref l) (.ref m) H Q := by
  have e : (ps.map fun q => dat2 q.2) = (ps.map (·.2)).map dat2 := by rw [List.map_map]; rfl
  refine ⟨.list (ps.map fun q => dat2 q.2), .list [], .lst (.inl (.inl hl)) (dp_pairs hp), .lst (.inl (.inl hm)) .nil, ?_, rfl, ?_⟩
  · rw [e]
    exact shaped_pairs low
  · cases ps with
    | nil => exact q
    | cons p r => exact q
end
/-- names[a:b], of numbers that are none below 0 -/
theorem cut_mid (zs : List Str) (a b : Nat) : cutV (zs.map V.str) (some (a : Int)) (some (b : Int)) = ((zs.take b).drop a).map V.str := by
  unfold cutV
  rw [HT.sIx_nat, HT.sIx_nat, List.length_map, ← List.map_drop, ← List.map_take]
  congr 1
  rw [List.drop_take]
  by_cases ha : a ≤ zs.length
  · rw [Nat.min_eq_left ha]
    by_cases hb : b ≤ zs.length
    · rw [Nat.min_eq_left hb]
    · rw [Nat.min_eq_right (Nat.le_of_lt (Nat.lt_of_not_le hb)), List.take_of_length_le (by rw [List.length_drop]; exact Nat.le_refl _), List.take_of_length_le (by rw [List.length_drop]; omega)]
  · rw [Nat.min_eq_right (Nat.le_of_lt (Nat.lt_of_not_le ha)), List.drop_eq_nil_of_le (Nat.le_refl _), List.drop_eq_nil_of_le (Nat.le_of_lt (Nat.lt_of_not_le ha)), List.take_nil, List.take_nil]
theorem cut_from (zs : List Str) (a : Nat) : cutV (zs.map V.str) (some (a : Int)) none = (zs.drop a).map V.str := by
  unfold cutV
  rw [HT.sIx_nat, HT.sIx_none, List.length_map, ← List.map_drop, ← List.map_take]
  congr 1
  by_cases ha : a ≤ zs.length
  · rw [Nat.min_eq_left ha, List.take_of_length_le (by rw [List.length_drop]; omega)]
  · rw [Nat.min_eq_right (by omega), List.drop_eq_nil_of_le (by omega), List.drop_eq_nil_of_le (by omega), List.take_nil]
end Lp

namespace Lp
open PySem PySem.Spec PyProof.Rows L2

/-! ### == of a text and a dict -/
section
variable {prog : Program} {w : World} {A : Around} {s : Shared}
open PySem.SeqAt AutoSeq1
theorem dict_declines_str {l : Addr} {o : Obj} (ho : s.heap.get? l = some o) (hc : o.cls = .type "dict") (b : Str) (u : Tok) {E Q : Value → Shared → Prop} (hq : Q .notImplemented s) : wpAny (model prog w) A (call (.builtin "dict.__eq__") [.ref l, .str b u]) Q E s := by
  have ty : s.TypeIs (.ref l) "dict" := ⟨o, ho, hc⟩
  refine wpAny_call_entry PySem.F.slot_dict_eq ty PySem.F.entry_dict_eq ?_ (PySem.F.args_dict_eq_2 _ _)
  show wpAny _ _ (Builtin.Dict.dictSlotArgs "__eq__" ⟨[.ref l, .str b u], []⟩ >>= _) _ _ s
  refine wpAny_bind ?_
  unfold Builtin.Dict.dictSlotArgs
  refine wpAny_bind (wpAny_notOrdered_dict ty ?_)
  show wpAny _ _ (pure (Value.ref l, Value.str b u)) _ _ s
  refine wpAny_pure ?_
  refine wpAny_bind (wpAny_isInstance (T := "str") (typeIs_str s b u) PySem.F.sub_str_dict ?_)
  simp only [Bool.not_false, if_true]
  refine wpAny_bind (wpAny_rule (wpAny_bind (wpAny_pure (wpAny_pure ⟨_, rfl, ?_⟩))))
  exact hq
theorem str_declines_dict (b : Str) (u : Tok) (l : Addr) (c : Value) (es : Array DictEntry) (ep : Nat) (dd : Option Addr) (sl : Array (Option Value)) :
    Meets (Builtin.«str.__eq__» ⟨[.str b u, .ref l], []⟩) (fun _ R s => s.heap.get? l = some { cls := c, dict := dd, data := .dict es ep, slots := sl } ∧ R (.ok (.ret .notImplemented)) s) :=
  .of_wp fun prog w A R s h => by obtain ⟨hp, g, d, tk, os⟩ := s; obtain ⟨hl, h⟩ := h; wp_walk using wpAny_loadPart' hl, wpAny_load hl; exact ⟨_, rfl, h⟩
/-- an object that is a dict -/
def IsDct (h : Heap) (l : Addr) : Prop := ∃ (dd : Option Addr) (sl : Array (Option Value)) (es : Array DictEntry) (ep : Nat), h.get? l = some { cls := .type "dict", dict := dd, data := .dict es ep, slots := sl }
theorem rc_dict_str {l : Addr} (b : Str) (u : Tok) (hl : IsDct s.heap l) (hu : A.units < cLine) : RcAt A s (.ref l) (.str b u) false := fun prog w E Q h => by
  obtain ⟨dd, sl, es, ep, ho⟩ := hl
  exact rc_eq_decline_or (k := false) ⟨_, ho, rfl⟩ (typeIs_str s b u) (by decide) PySem.F.sub_str_dict PySem.F.slot_dict_eq PySem.F.slot_str_eq_refl
    (fun _ hq => dict_declines_str ho rfl b u hq)
    (fun _ hq => call_meets PySem.F.slot_str_eq_refl (typeIs_str s b u) PySem.F.entry_str_eq (PySem.F.args_str_eq_2 _ _) (str_declines_dict b u l (.type "dict") es ep dd sl) ⟨ho, hq⟩)
    (fun _ hq => wpAny_of_eq (rfl : isSame (.ref l) (.str b u) = pure false) hq) (.inr hu) h
theorem eq_dict_str {l : Addr} (b : Str) (u : Tok) (hl : IsDct s.heap l) (hu : A.units < cLine) : EqAt A s (.ref l) (.str b u) false := fun prog w E Q h => by
  unfold eqBool
  refine wpAny_holding ?_
  refine wpAny_ite_split (fun hab => absurd (eq_of_beq hab) nofun) (fun _ => ?_)
  exact wpAny_bind (rc_dict_str b u hl hu prog w E _ (wpAny_truthy_bool h))
theorem rc_str_dict {l : Addr} (b : Str) (u : Tok) (hl : IsDct s.heap l) (hu : A.units < cLine) : RcAt A s (.str b u) (.ref l) false := fun prog w E Q h => by
  obtain ⟨dd, sl, es, ep, ho⟩ := hl
  exact rc_eq_decline_or (k := false) (typeIs_str s b u) ⟨_, ho, rfl⟩ (by decide) PySem.F.sub_dict_str PySem.F.slot_str_eq PySem.F.slot_dict_eq_refl
    (fun _ hq => call_meets PySem.F.slot_str_eq (typeIs_str s b u) PySem.F.entry_str_eq (PySem.F.args_str_eq_2 _ _) (str_declines_dict b u l (.type "dict") es ep dd sl) ⟨ho, hq⟩)
    (fun _ hq => dict_declines_str ho rfl b u hq)
    (fun _ hq => wpAny_of_eq (rfl : isSame (.str b u) (.ref l) = pure false) hq) (.inr hu) h
theorem eq_str_dict {l : Addr} (b : Str) (u : Tok) (hl : IsDct s.heap l) (hu : A.units < cLine) : EqAt A s (.str b u) (.ref l) false := fun prog w E Q h => by
  unfold eqBool
  refine wpAny_holding ?_
  refine wpAny_ite_split (fun hab => absurd (eq_of_beq hab) nofun) (fun _ => ?_)
  exact wpAny_bind (rc_str_dict b u hl hu prog w E _ (wpAny_truthy_bool h))
end

/-! ### == and in of any data and texts -/
/-- a value of some kind that == knows -/
def DatX (K : PySem.W.Frag) (H : Hp) : V → Prop
  | .non => True
  | .bl _ => True
  | .int _ => True
  | .str _ => True
  | .ref a => (∃ xs, SqL K H a xs) ∨ (∃ xs, SqT K H a xs) ∨ ∃ kvs, H a = some (.dK kvs)
  | _ => False
section
variable {X : Cx} {pins : List (Addr × Obj)} {σ : L2.St} {H : Hp} {s : Shared}
theorem dct_of (I : Inv X pins σ H s) {a : Addr} {kvs : List (Key × V)} (e : H a = some (.dK kvs)) : IsDct s.heap a := by
  obtain ⟨_, _, vs, _, o, es, ep, ho, ⟨h1, h2, h3⟩, hd, _⟩ := (show ObjOk X.prog X.w H s.heap a (.dK kvs) from I.hok a _ e)
  obtain ⟨cls, dd, data, sl⟩ := o
  simp only at h1 h2 h3 hd
  subst h1 h2 h3 hd
  exact ⟨_, _, es, ep, ho⟩
open PySem.SeqAt in
theorem datX_eqs (I : Inv X pins σ H s) {A : Around} {x : V} {v : Value} (d : DatX X.K H x) (r : RelV x v) (b : Str) (u : Tok) (hu : A.units < cLine) :
    RcAt A s v (.str b u) (decide (x = .str b)) ∧ EqAt A s (.str b u) v (decide (x = .str b)) := by
  cases x with
  | non =>
    cases r
    exact ⟨.none_str b u, .str_none b u⟩
  | bl c =>
    cases r
    exact ⟨.bool_str c b u, .str_bool b u c⟩
  | int i =>
    obtain ⟨t, rfl⟩ := r
    exact ⟨.int_str i t b u, .str_int b u i t⟩
  | str z =>
    obtain ⟨t, rfl⟩ := r
    have e1 : decide (V.str z = V.str b) = (z == b) := dec_str
    have e2 : decide (V.str z = V.str b) = (b == z) := by rw [e1, Bool.eq_iff_iff, beq_iff_eq, beq_iff_eq, eq_comm]
    exact ⟨by rw [e1]; exact .str_str z t b u, by rw [e2]; exact .str_str b u z t⟩
  | ref a =>
    cases r
    rcases d with ⟨xs, h⟩ | ⟨xs, h⟩ | ⟨kvs, h⟩
    · obtain ⟨its, _, p, _⟩ := I.list h
      exact ⟨.list_str b u p.isList hu, .str_list b u p.isList hu⟩
    · obtain ⟨its, _, p, _⟩ := I.tuple h
      exact ⟨.tuple_str b u p hu, .str_tuple b u p hu⟩
    · exact ⟨rc_dict_str b u (dct_of I h) hu, eq_str_dict b u (dct_of I h) hu⟩
  | byt b => exact False.elim d
  | flt b => exact False.elim d
  | ty n => exact False.elim d
def rEqS (K : PySem.W.Frag) : R2 := fun x y H Q => ∃ b : Str, y = .str b ∧ DatX K H x ∧ Q (.bl (decide (x = .str b))) H
theorem op_eqS (hu : X.A.units < cLine) : OpR X (compareOp .Eq) (rEqS X.K) := by
  intro pins s σ H x y v u Q I rx ry h
  obtain ⟨b, rfl, d, q⟩ := h
  obtain ⟨t, rfl⟩ := ry
  exact (datX_eqs I d rx b t hu).1 _ _ _ _ ⟨.bl _, H, I, rfl, q⟩
def inTxt (x : V) (zs : List Str) : Bool := zs.any fun z => decide (x = .str z)
theorem inTxt_str (z : Str) (zs : List Str) : inTxt (.str z) zs = decide (z ∈ zs) := by
  unfold inTxt
  induction zs with
  | nil => rfl
  | cons y r ih =>
    rw [List.any_cons, ih]
    by_cases e : z = y
    · subst e
      simp
    · rw [decide_eq_false (fun h => e (V.str.inj h)), Bool.false_or]
      exact decide_eq_decide.mpr ⟨fun h => List.mem_cons_of_mem _ h, fun h => (List.mem_cons.mp h).resolve_left e⟩
theorem inTxt_other {x : V} (h : ∀ z, x ≠ .str z) (zs : List Str) : inTxt x zs = false := by
  unfold inTxt
  rw [List.any_eq_false]
  intro z _ e
  exact h z (of_decide_eq_true e)
def txtE (x : V) : Value → Bool
  | .str b _ => decide (x = .str b)
  | _ => false
theorem vals_txt : ∀ {zs : List Str} {its : List Value}, Vals (zs.map V.str) its → (∀ y ∈ its, ∃ z t, y = .str z t) ∧ ∀ x, its.any (txtE x) = inTxt x zs
  | [], its, h => by
    cases h
    exact ⟨fun _ h => (nomatch h), fun _ => rfl⟩
  | z :: r, its, h => by
    rw [List.map_cons] at h
    cases h with
    | cons h1 h2 =>
      obtain ⟨t, rfl⟩ := h1
      obtain ⟨k1, k2⟩ := vals_txt h2
      refine ⟨fun y hy => ?_, fun x => ?_⟩
      · rcases List.mem_cons.mp hy with rfl | hy
        · exact ⟨z, t, rfl⟩
        · exact k1 y hy
      · rw [List.any_cons, k2 x]
        rfl
def rInS (K : PySem.W.Frag) : R2 := fun x y H Q => ∃ (a : Addr) (zs : List Str), y = .ref a ∧ SqT K H a (zs.map V.str) ∧ DatX K H x ∧ Q (.bl (inTxt x zs)) H
theorem op_inS (hu : X.A.units + 1 < cLine) : OpR X (compareOp .In) (rInS X.K) := by
  intro pins s σ H x y v u Q I rx ry h
  obtain ⟨a, zs, rfl, ht, d, q⟩ := h
  obtain rfl : u = Value.ref a := ry
  obtain ⟨its, r, p, _⟩ := I.tuple ht
  obtain ⟨k1, k2⟩ := vals_txt r
  refine SeqAt.in_tupleAt (txtE x) p (fun y hy => ?_) ⟨.bl (inTxt x zs), H, I, ?_, q⟩
  · obtain ⟨z, t, rfl⟩ := k1 y (by simpa using hy)
    exact (datX_eqs I (A := X.A.in1) d rx z t hu).2
  · show Value.bool (its.toArray.any (txtE x)) = Value.bool _
    rw [List.any_toArray, k2]
theorem eqS_K {K : PySem.W.Frag} (h : X.K = K) (hu : X.A.units < cLine) : OpR X (compareOp .Eq) (rEqS K) := h ▸ op_eqS hu
theorem inS_K {K : PySem.W.Frag} (h : X.K = K) (hu : X.A.units + 1 < cLine) : OpR X (compareOp .In) (rInS K) := h ▸ op_inS hu
end
end Lp

namespace Lp
open PySem PySem.Spec PyProof.Rows L2
open AutoSeq1 (wpAny_loadPart')
set_option maxHeartbeats 1000000 in
theorem meets_enum_newT (l : Addr) (items : Array Value) (n : Nat) (dct : Option Addr) (sl : Array (Option Value)) :
    Meets (Builtin.«enumerate.__new__» ⟨[.type "enumerate", .ref l], []⟩) (fun _ R s => s.heap.get? l = some { cls := .type "tuple", dict := dct, data := .seq items n, slots := sl } ∧
      R (.ok (.ret (.ref (s.heap.push { cls := .type "tuple_iterator", data := .fields #[.ref l, .int 0 0] }).objs.size)))
        { s with heap := (s.heap.push { cls := .type "tuple_iterator", data := .fields #[.ref l, .int 0 0] }).push { cls := .type "enumerate", data := .fields #[.none, .bool false, .ref s.heap.objs.size, rawInt 0, .none, .none] } }) :=
  .of_wp fun prog w A R s h => by
    obtain ⟨hp, g, d, tk, os⟩ := s; obtain ⟨hl, h⟩ := h
    have hsub := sub_enumerate
    have hL : Heap.IsTuple (Shared.heap ⟨hp, g, d, tk, os⟩) l items := ⟨_, hl, rfl, n, rfl⟩
    wp_walk using wpAny_loadPart' hl
    refine wpAny_stack_any fun st => wpAny_pure ?_
    split
    · rename_i c _ _ _ _ _
      cases (c == Value.type "enumerate")
      · wp_walk using wpAny_loadPart' hl, wpAny_pyIter_tuple hL
        exact ⟨_, rfl, h⟩
      · wp_walk using wpAny_loadPart' hl, wpAny_pyIter_tuple hL
        exact ⟨_, rfl, h⟩
    · wp_walk using wpAny_loadPart' hl, wpAny_pyIter_tuple hL
      exact ⟨_, rfl, h⟩
section
variable {prog : Program} {w : World} {A : Around} {E : Value → Shared → Prop} {s : Shared}
theorem call_enum_tuple {l : Addr} {items : Array Value} {Q : Value → Shared → Prop} (hL : s.heap.IsTuple l items)
    (h : ∀ h', IsEnum h' (s.heap.objs.size + 1) s.heap.objs.size 0 .none → h'.IsTupleIter s.heap.objs.size l 0 → h'.objs.size = s.heap.objs.size + 2 →
      (∀ b o, s.heap.get? b = some o → h'.get? b = some o) → Q (.ref (s.heap.objs.size + 1)) { s with heap := h' }) :
    wpAny (model prog w) A (call (.type "enumerate") [.ref l]) Q E s := by
  obtain ⟨⟨c, dct, dt, sl⟩, hl, hc, n, hd⟩ := hL
  replace hc : c = .type "tuple" := hc
  replace hd : dt = .seq items n := hd
  subst hc hd
  refine callType_new F.called_enumerate (by decide) (F.typeCall_enumerate_1 _) (F.newCall_enumerate_1 _) (fun obj => F.args_object_init_2 obj _) F.entry_enumerate_new
    (meets_enum_newT l items n dct sl) ⟨hl, ?_⟩
  have hz : (s.heap.push { cls := .type "tuple_iterator", data := .fields #[.ref l, .int 0 0] }).objs.size = s.heap.objs.size + 1 := Heap.size_push ..
  show _ ∧ _
  rw [hz]
  have he : IsEnum ((s.heap.push { cls := .type "tuple_iterator", data := .fields #[.ref l, .int 0 0] }).push
      { cls := .type "enumerate", data := .fields #[.none, .bool false, .ref s.heap.objs.size, rawInt 0, .none, .none] }) (s.heap.objs.size + 1) s.heap.objs.size 0 .none := by
    have := Heap.get?_push_size (s.heap.push { cls := .type "tuple_iterator", data := .fields #[.ref l, .int 0 0] })
      (o := { cls := .type "enumerate", data := .fields #[.none, .bool false, .ref s.heap.objs.size, rawInt 0, .none, .none] }) rfl
    rw [hz] at this; exact this
  refine ⟨⟨_, he, rfl⟩, h _ he ⟨_, Heap.get?_push_of_some _ (Heap.get?_push_size _ rfl), rfl, rfl⟩ (by rw [Heap.size_push, hz]) fun b o x => Heap.get?_push_of_some _ (Heap.get?_push_of_some _ x)⟩
end
section
variable {prog : Program} {w : World} {A : Around} {E : Value → Shared → Prop} {s : Shared}
theorem next_enum_tupEnd {e it l : Addr} {i : Nat} {items : Array Value} {old : Value} {Q : Option Value → Shared → Prop} (hh : A.handled = none)
    (he : IsEnum s.heap e it i old) (hit : s.heap.IsTupleIter it l i) (hl : s.heap.IsTuple l items) (hx : items[i]? = none)
    (hQ : ∀ h', Heap.ExtBut it s.heap h' → Q none { s with heap := h' }) : wpAny (model prog w) A (pyNext (.ref e)) Q E s := by
  have hT : s.TypeIs (.ref e) "enumerate" := ⟨_, he, rfl⟩
  unfold pyNext
  refine wpAny_bind (wpAny_attempt (wpAny_callSpecial?_slot (name := Str.ofString "__next__") hT F.slot_enumerate_next
    (wpAny_call_entry F.slot_enumerate_next hT F.entry_enumerate_next ?_ (F.args_enumerate_next_1 _))))
  show wpAny _ _ (field (.ref e) 2 >>= _) _ _ _
  refine wpAny_bind (wpAny_field he rfl (x := .ref it) rfl ?_)
  refine wpAny_bind (wpAny_nextOf_tuple_end hh hit hl hx fun h' x he' hx' => ?_)
  obtain ⟨o, ho, hc⟩ := hx'
  refine wpAny_bind (wpAny_isInstance (T := "StopIteration") (b := true) ⟨o, ho, hc⟩ isSubtype_stop ?_)
  exact wpAny_pure (hQ _ he')
end
/-- the tuple at a, each item in a new pair with its number -/
def Itu (K : PySem.W.Frag) (a : Addr) : It :=
  ⟨fun i H => ∃ (xs : List V) (x : V), SqT K H a xs ∧ xs[i]? = some x, fun i H v H' => ∃ T x, v = .ref T ∧ H T = none ∧ H' = upd H T (.tup [.int (i : Nat), x]) ∧ ∀ xs, SqT K H a xs → xs[i]? = some x, fun i H => ∃ xs : List V, SqT K H a xs ∧ xs.length ≤ i⟩
theorem turn_enumT {P : Program} {w : World} {K : PySem.W.Frag} {elts : List Expr} {kk : Nat} {tpos : Pos} (a e it : Addr) :
    Turn P w K (.Tuple elts kk tpos) (Itu K a) [e, it] e (fun i h => (∃ old, IsEnum h e it ((i : Nat) : Int) old) ∧ h.IsTupleIter it a i ∧ e ≠ it ∧ a ≠ it ∧ e ≠ a) where
  mem := by simp
  obj := fun i h st b hb => by
    obtain ⟨⟨old, he⟩, ⟨o, ho, hc, hd⟩, _⟩ := st
    have e' : b = e ∨ b = it := by simpa using hb
    rcases e' with z | z
    · rw [z]; exact ⟨_, he, fun v q => nomatch q⟩
    · rw [z]; exact ⟨o, ho, fun v q => by rw [hd] at q; cases q⟩
  keep := fun i h h' st k => let ⟨⟨old, he⟩, hi, hne⟩ := st; ⟨⟨old, k e (by simp) _ he⟩, hi.at fun o q => k it (by simp) o q, hne⟩
  item := by
    intro X hP hw hK hc i pins s σ H E I hf st hg
    subst hP hw hK
    obtain ⟨⟨old, he⟩, hit, hne, hat, hea⟩ := st
    obtain ⟨xs, x, hq, hx⟩ := hg
    obtain ⟨its, rv, p, hz⟩ := I.tuple hq
    obtain ⟨u, hu, ru⟩ := rv.get hx
    have hel : e < s.heap.objs.size := Heap.lt_size he
    have hil : it < s.heap.objs.size := by obtain ⟨_, q, _⟩ := hit; exact Heap.lt_size q
    have hu' : its.toArray[i]? = some u := by simpa using hu
    have D := PySem.Draws.tuple (prog := X.prog) (w := X.w) (A := X.A.in1) (I.ok.hd hc) it a hat its.toArray
    refine wpAny_pyNext_enum_itemD D he ⟨hit, p⟩ (Array.getElem?_eq_some_iff.mp hu').1 hne (by simp [hne, hea]) fun x' h' tk px ho hit' hT hsz hk => ?_
    have ex : x' = u := by
      rw [hu'] at px
      exact (Option.some.inj px).symm
    subst ex
    refine ⟨_, rfl, wpAny_letOwnedTupleGo_enum (s := { s with heap := h', toks := tk + 1 }) ho fun h'' he' sb => ?_⟩
    have hT2 : h''.get? s.heap.objs.size = some { cls := .type "tuple", data := .seq #[.int i tk, x'] } := (sb.2 _ (Nat.ne_of_gt hel)).trans hT
    have new : ObjOk X.prog X.w (upd H s.heap.objs.size (.tup [.int (i : Nat), x])) h'' s.heap.objs.size (.tup [.int (i : Nat), x]) :=
      ⟨by show 2 ≤ sizeLine; decide, [.int i tk, x'], .cons ⟨_, rfl⟩ (.cons ru .nil), ⟨_, hT2, rfl, _, rfl⟩⟩
    have I1 : Inv X pins σ (upd H s.heap.objs.size (.tup [.int (i : Nat), x])) { s with heap := h'', toks := tk + 1 } :=
      I.turnedNew (ch := [e, it]) (fun b ob hb q => (sb.2 b (fun z => hb (by simp [z]))).trans (hk b ob (fun z => hb (by simp [z])) (fun z => hb (by simp [z])) q)) hf (Nat.le_refl _) new
    refine ⟨.ref s.heap.objs.size, _, I1, rfl, ⟨_, x, rfl, I.hok.fresh (Nat.le_refl _), rfl, fun ys hy => by rw [I.tuple_inj hy hq]; exact hx⟩, ⟨⟨x', ?_⟩, hit'.1.at fun o q => (sb.2 it (Ne.symm hne)).trans q, hne, hat, hea⟩, fun b hb => ?_⟩
    · have e1 : ((i + 1 : Nat) : Int) = (i : Int) + 1 := by omega
      rw [e1]; exact he'
    · have hb' : b < s.heap.objs.size := by
        have e' : b = e ∨ b = it := by simpa using hb
        rcases e' with z | z
        · rw [z]; exact hel
        · rw [z]; exact hil
      rw [upd_ne (Nat.ne_of_lt hb')]
      exact (hf b hb).1
  done := by
    intro X hP hw hK hc i pins s σ H E I hf st hg
    subst hP hw hK
    obtain ⟨⟨old, he⟩, hit, hne, hat, hea⟩ := st
    obtain ⟨xs, hq, hx⟩ := hg
    obtain ⟨its, rv, p, hz⟩ := I.tuple hq
    obtain ⟨f0, f1, f2, f3, f4, f5⟩ := hf it (by simp)
    have hl := rv.length
    exact next_enum_tupEnd (I.ok.hd hc) he hit (show s.heap.IsTuple a its.toArray from p) (by simp; omega) fun h' eb => ⟨rfl, I.turned (t' := s.toks) (fun b o hb q => eb b o hb q) f0 f1 f3 f4 f5⟩
  self := fun A i s Q E st h => let ⟨⟨_, he⟩, _⟩ := st; wpAny_pyIter_enum he h
def iEnumT (K : PySem.W.Frag) (ta : TA) : TI := fun σ H R => ta σ H fun vs H1 => ∃ a xs, vs = [.ref a] ∧ SqT K H1 a xs ∧ R (Itu K a) H1
theorem pi_enumT {X : Cx} {e : Expr} {ta : TA} {p pos tpos : Pos} {elts : List Expr} {kk : Nat} (hg : Gl X "enumerate") (hm : X.mg "enumerate" = none) (ha : PA X [e] ta) (hs : starEach [e] X.env = [(false, eval e X.env)] := by rfl) :
    PI X (.Tuple elts kk tpos) (.Call (.Name "enumerate" p) [e] [] pos) (iEnumT X.K ta) := by
  refine ⟨fun pins s σ H R I h => ?_⟩
  refine Call_ (ld_blt I hg hm boot_enumerate (PyProof.Rows.callWith_type1 (thn (ha.run pos pins s σ H _ I h) fun us s1 ⟨vs, H1, I1, r1, q1⟩ => ?_) hs rfl))
  obtain ⟨a, xs, ex, hq, q⟩ := q1
  subst ex
  cases r1 with
  | cons r rr =>
    cases rr
    cases r
    obtain ⟨its, rv, p', hz⟩ := I1.tuple hq
    refine call_enum_tuple (show s1.heap.IsTuple a its.toArray from p') fun h' he hit hsz hk => wpAny_pyIter_enum he ?_
    have I2 : Inv X pins σ H1 { s1 with heap := h' } := I1.kept (t' := s1.toks) hk
    have ha : a < s1.heap.objs.size := by
      obtain ⟨o, ho, _⟩ := id p'
      exact Heap.lt_size ho
    refine ⟨s1.heap.objs.size + 1, [s1.heap.objs.size + 1, s1.heap.objs.size], _, _, H1, rfl, I2, turn_enumT a (s1.heap.objs.size + 1) s1.heap.objs.size, ⟨⟨.none, he⟩, hit, Nat.succ_ne_self _, Nat.ne_of_lt ha, Nat.ne_of_gt (Nat.lt_succ_of_lt ha)⟩, fun b hb => ?_, q⟩
    have e' : b = s1.heap.objs.size + 1 ∨ b = s1.heap.objs.size := by simpa using hb
    have hle : s1.heap.objs.size ≤ b := by
      rcases e' with z | z
      · rw [z]; exact Nat.le_add_right _ _
      · rw [z]; exact Nat.le_refl _
    exact I1.fpOk hle (I1.hok.fresh hle)
/-- a walk over a tuple's items with their numbers -/
theorem walk_enumT {K : PySem.W.Frag} {a : Addr} {xs : List V} : Walk (Itu K a) xs.length (fun H => SqT K H a xs) (fun i H v H' => ∃ T x, v = .ref T ∧ H T = none ∧ H' = upd H T (.tup [.int (i : Nat), x]) ∧ xs[i]? = some x) :=
  ⟨fun i _ hi q => ⟨xs, xs[i], q, by simp [hi]⟩, fun _ q => ⟨xs, q, Nat.le_refl _⟩, fun i H x H' _ q y => by obtain ⟨T, v, e1, e2, e3, e4⟩ := y; exact ⟨T, v, e1, e2, e3, e4 xs q⟩⟩
end Lp

namespace Lp
open PySem PySem.Spec PyProof.Rows L2
/-! ### == of anything and what is empty -/
section
variable {X : Cx}
def isNil (xs : List V) : Bool := xs.isEmpty
def rEqNilL (K : PySem.W.Frag) : R2 := fun x y H Q => ∃ (a b : Addr) (xs : List V), x = .ref a ∧ y = .ref b ∧ SqL K H a xs ∧ SqL K H b [] ∧ Q (.bl xs.isEmpty) H
def rNeNilL (K : PySem.W.Frag) : R2 := fun x y H Q => ∃ (a b : Addr) (xs : List V), x = .ref a ∧ y = .ref b ∧ SqL K H a xs ∧ SqL K H b [] ∧ Q (.bl (!xs.isEmpty)) H
def rEqNilT (K : PySem.W.Frag) : R2 := fun x y H Q => ∃ (a b : Addr) (xs : List V), x = .ref a ∧ y = .ref b ∧ SqT K H a xs ∧ SqT K H b [] ∧ Q (.bl xs.isEmpty) H
theorem op_eqNilL (hu : X.A.units < cLine) : OpR X (compareOp .Eq) (rEqNilL X.K) := by
  intro pins s σ H x y v u Q I rx ry h
  obtain ⟨a, b, xs, rfl, rfl, ha, hb, q⟩ := h
  obtain rfl : v = Value.ref a := rx
  obtain rfl : u = Value.ref b := ry
  obtain ⟨us, r1, p1, _⟩ := I.list ha
  obtain ⟨ws, r2, p2, _⟩ := I.list hb
  cases r2
  cases r1 with
  | nil => exact SeqAt.RcAt.lists (e := fun _ => true) p1.isList p2.isList rfl hu (fun j h1 _ => absurd h1 (Nat.not_lt_zero j)) _ _ _ _ ⟨.bl _, H, I, rfl, q⟩
  | cons h1 h2 => exact SeqAt.RcAt.lists_lengths p1.isList p2.isList (by simp) hu _ _ _ _ ⟨.bl _, H, I, rfl, q⟩
theorem op_neNilL (hu : X.A.units < cLine) : OpR X (compareOp .NotEq) (rNeNilL X.K) := by
  intro pins s σ H x y v u Q I rx ry h
  obtain ⟨a, b, xs, rfl, rfl, ha, hb, q⟩ := h
  obtain rfl : v = Value.ref a := rx
  obtain rfl : u = Value.ref b := ry
  obtain ⟨us, r1, p1, _⟩ := I.list ha
  obtain ⟨ws, r2, p2, _⟩ := I.list hb
  cases r2
  cases r1 with
  | nil => exact SeqAt.RcNeAt.lists (e := fun _ => true) p1.isList p2.isList rfl hu (fun j h1 _ => absurd h1 (Nat.not_lt_zero j)) _ _ _ _ ⟨.bl _, H, I, rfl, q⟩
  | cons h1 h2 => exact SeqAt.RcNeAt.lists_lengths p1.isList p2.isList (by simp) hu _ _ _ _ ⟨.bl _, H, I, rfl, q⟩
theorem op_eqNilT (hu : X.A.units < cLine) : OpR X (compareOp .Eq) (rEqNilT X.K) := by
  intro pins s σ H x y v u Q I rx ry h
  obtain ⟨a, b, xs, rfl, rfl, ha, hb, q⟩ := h
  obtain rfl : v = Value.ref a := rx
  obtain rfl : u = Value.ref b := ry
  obtain ⟨us, r1, p1, _⟩ := I.tuple ha
  obtain ⟨ws, r2, p2, _⟩ := I.tuple hb
  cases r2
  refine SeqAt.RcAt.tuples (e := fun _ => true) (show s.heap.IsTuple a us.toArray from p1) (show s.heap.IsTuple b ([] : List Value).toArray from p2) hu (fun j _ h2 => absurd h2 (Nat.not_lt_zero j)) _ _ _ _ ⟨.bl xs.isEmpty, H, I, ?_, q⟩
  cases r1 with
  | nil => rfl
  | cons h1 h2 =>
    show Value.bool _ = Value.bool false
    simp
end
end Lp

namespace Lp
open PySem PySem.Spec PyProof.Rows L2
def topS (i : Nat) : Stmt := PySem.Challenge.pw_loanpairs_k00_words_judged.main.body.getD i (.Pass ⟨0, 0, 0, 0⟩)
abbrev s_LoanError : Stmt := topS 1
abbrev s_InvalidWord : Stmt := topS 2
abbrev s_is_integer : Stmt := topS 9
abbrev s_is_name : Stmt := topS 10
abbrev s_are_different_names : Stmt := topS 11
abbrev s_is_fields : Stmt := topS 12
abbrev s_is_part : Stmt := topS 13
abbrev s_L_bag : Stmt := topS 15
abbrev s_L_roll : Stmt := topS 16
abbrev s_L_is : Stmt := topS 17
abbrev s_L_one : Stmt := topS 18
abbrev s_L_word : Stmt := topS 19
abbrev s_L_names : Stmt := topS 20
abbrev s_L_keywords : Stmt := topS 21
abbrev s_L_is_name : Stmt := topS 22
abbrev s_L_is_fields : Stmt := topS 23
abbrev s_L_is_integer : Stmt := topS 24
abbrev s_L_text : Stmt := topS 25
abbrev s_L_number : Stmt := topS 26
abbrev s_L_thing : Stmt := topS 27
abbrev s_L_spoiled : Stmt := topS 28
abbrev s_L_parts_right : Stmt := topS 29
abbrev s_law : Stmt := topS 30
section
variable {P : Program} {w : World} {K : PySem.W.Frag} {mg : Str → Option Value} {base : Heap}
/-! ### _law_roll -/
theorem scRoll : FnScope ["bag", "total", "found", "one", "two", "three"] ["bag", "total"] (defScope s_L_roll) := ⟨rfl, rfl, rfl, by decide +kernel, rfl, by decide +kernel, by decide +kernel⟩
def spRoll : Sp := fun vs H Q _ => ∃ (b : Addr) (t : Int) (n : Nat), vs = [.ref b, .int t] ∧ 0 < t ∧ t < 2000000000 ∧ Bag H b n ∧ n ≤ bagMost ∧
  ∀ H' i, Keep b H H' → Bag H' b (n + 1) → 0 ≤ i → i < t → Q (.int i) H'
theorem ok_roll {f : Addr} {fd : FuncData} (F : Fun K "_law_roll" "_law_roll" s_L_roll f fd) (mi : mg "int" = none) :
    FnOk P w K mg base CX0 1 f fd ["bag", "total"] spRoll := by
  refine F.ok scRoll (fun vs H Q E h => ?_) (fun cdv A outer s H vs Q E hr h => ?_)
  · obtain ⟨b, t, n, rfl, _⟩ := h
    rfl
  · obtain ⟨b, t, n, rfl, t0, t1, ⟨x, y, z, hb, z0, z1⟩, nm, q⟩ := h
    have hn : n ≤ 1000000000 := nm
    refine ⟨_, pss_cons (ps_if (pt_cmpR op_gt (pe_ix ix_list (pv 0) pe_int (fun _ _ => rfl)) pe_int (nomark _))
        (pss_cons (ps_set (i := 2) scRoll.nd rfl (.inl rfl) (pe_op op_mod (pe_callTy call_int1 (by rfl) mi boot_int (pa_cons (pe_ix ix_list (pv 0) pe_int (fun _ _ => rfl)) pa_nil)) (pv 1)))
          (pss_cons (ps_asg (pe_op op_fdivW (pe_ix ix_list (pv 0) pe_int (fun _ _ => rfl)) (pv 1)) (pg_sub (pv 0) pe_int set_list))
          (pss_one (ps_ret (pv 2))))) pss_nil)
      (pss_cons (ps_asg (pe_op op_add (pe_ix ix_list (pv 0) pe_int (fun _ _ => rfl)) pe_int) (pg_sub (pv 0) pe_int set_list))
      (pss_cons (ps_set (i := 3) scRoll.nd rfl (.inl rfl) (pe_op op_mod (pe_callTy call_int1 (by rfl) mi boot_int (pa_cons (pe_op op_add (pe_op op_mul (pe_ix ix_list (pv 0) pe_int (fun _ _ => rfl)) pe_int)
          (pe_op op_mul pe_int (pe_ix ix_list (pv 0) pe_int (fun _ _ => rfl)))) pa_nil)) pe_int))
      (pss_cons (ps_set (i := 4) scRoll.nd rfl (.inl rfl) (pe_op op_add (pe_op op_mod (pe_callTy call_int1 (by rfl) mi boot_int (pa_cons (pe_op op_mul (pv 3) (pv 3)) pa_nil)) pe_int)
          (pe_op op_mul pe_int (pe_ix ix_list (pv 0) pe_int (fun _ _ => rfl)))))
      (pss_cons (ps_set (i := 5) scRoll.nd rfl (.inl rfl) (pe_op op_mul (pe_op op_mod (pe_callTy call_int1 (by rfl) mi boot_int (pa_cons (pe_op op_mul (pv 4) (pv 4)) pa_nil)) pe_int) (pv 3)))
      (pss_one (ps_ret (pe_op op_mod (pe_callTy call_int1 (by rfl) mi boot_int (pa_cons (pe_op op_fdiv (pe_op op_mod (pe_callTy call_int1 (by rfl) mi boot_int (pa_cons (pv 5) pa_nil)) pe_int) pe_int) pa_nil)) (pv 1)))))))), ?_⟩
    have hq : SqL K H b [.int x, .int y, .int z] := .inl (.inl hb)
    refine ⟨.ref b, rfl, b, _, 0, .int x, rfl, rfl, hq, atI_nat (j := 0) rfl, _, _, rfl, rfl, _, rfl, ite2 (fun e => ?_) (fun e => ?_)⟩
    · -- found = int(bag[0]) % total; bag[0] = bag[0] // total
      refine ⟨.ref b, rfl, b, _, 0, .int x, rfl, rfl, hq, atI_nat (j := 0) rfl, .inl ⟨_, rfl, .int t, rfl, _, _, rfl, rfl, t0, ?_⟩⟩
      refine ⟨.ref b, rfl, b, _, 0, .int x, rfl, rfl, hq, atI_nat (j := 0) rfl, .int t, rfl, _, _, rfl, rfl, wide_div (b := 40) t0 (by omega) (by decide) (by decide), ?_⟩
      refine ⟨.ref b, rfl, b, _, 0, 0, rfl, rfl, hb, rfl, _, rfl, ?_⟩
      exact q _ _ .upd ⟨_, _, _, upd_same, z0, by omega⟩ (Int.emod_nonneg _ (by omega)) (Int.emod_lt_of_pos _ t0)
    · -- bag[2] = bag[2] + 1
      refine ⟨.ref b, rfl, b, _, 2, .int z, rfl, rfl, hq, atI_nat (j := 2) rfl, _, _, rfl, rfl, .ref b, rfl, b, _, 2, 2, rfl, rfl, hb, rfl, ?_⟩
      have hu : SqL K (upd H b (.lst [.int x, .int y, .int (z + 1)])) b [.int x, .int y, .int (z + 1)] := .inl (.inl upd_same)
      -- one
      refine ⟨.ref b, rfl, b, _, 1, .int y, rfl, rfl, hu, atI_nat (j := 1) rfl, _, _, rfl, rfl, .inr ⟨by decide, by decide⟩, .ref b, rfl, b, _, 2, .int (z + 1), rfl, rfl, hu, atI_nat (j := 2) rfl, _, _, rfl, rfl, .inl ⟨by decide, by decide⟩,
        _, _, rfl, rfl, .inl ⟨_, rfl, _, _, rfl, rfl, (show (0 : Int) < 2305843009213693951 by decide), ?_⟩⟩
      generalize e1 : (y * 48271 + 900000011 * (z + 1)) % 2305843009213693951 = o
      have o0 : 0 ≤ o := e1 ▸ Int.emod_nonneg _ (by decide)
      have o1 : o < 2305843009213693951 := e1 ▸ Int.emod_lt_of_pos _ (by decide)
      -- two
      refine ⟨_, rfl, _, rfl, _, _, rfl, rfl, .inl ⟨by omega, by omega⟩, .inl ⟨_, rfl, _, _, rfl, rfl, (show (0 : Int) < 2305843009213693921 by decide), .ref b, rfl, b, _, 2, .int (z + 1), rfl, rfl, hu, atI_nat (j := 2) rfl, _, _, rfl, rfl, .inl ⟨by decide, by decide⟩, _, _, rfl, rfl, ?_⟩⟩
      have w0 : 0 ≤ o * o % 2305843009213693921 := Int.emod_nonneg _ (by decide)
      have w1 : o * o % 2305843009213693921 < 2305843009213693921 := Int.emod_lt_of_pos _ (by decide)
      generalize o * o % 2305843009213693921 = r at w0 w1
      -- three
      refine ⟨_, rfl, _, rfl, _, _, rfl, rfl, .inl ⟨by omega, by omega⟩, .inl ⟨_, rfl, _, _, rfl, rfl, (show (0 : Int) < 2305843009213693907 by decide), _, rfl, _, _, rfl, rfl, .inr ⟨by omega, by omega⟩, ?_⟩⟩
      -- the end
      refine ⟨_, rfl, .inl ⟨_, rfl, _, _, rfl, rfl, (show (0 : Int) < 2305843009213693889 by decide), _, _, rfl, rfl, ⟨by decide, by decide⟩, .inl ⟨_, rfl, _, rfl, _, _, rfl, rfl, t0, ?_⟩⟩⟩
      exact q _ _ .upd ⟨_, _, _, upd_same, by omega, by omega⟩ (Int.emod_nonneg _ (by omega)) (Int.emod_lt_of_pos _ t0)
/-! ### _law_is, _law_one -/
theorem scIs : FnScope ["thing", "due"] ["thing", "due"] (defScope s_L_is) := ⟨rfl, rfl, rfl, by decide +kernel, rfl, by decide +kernel, by decide +kernel⟩
def spIs : Sp := fun vs H Q _ => ∃ x y : Bool, vs = [.bl x, .bl y] ∧ Q (.bl (decide (x = y))) H
theorem ok_is {f : Addr} {fd : FuncData} (F : Fun K "_law_is" "_law_is" s_L_is f fd) (mb : mg "bool" = none) (ms : mg "isinstance" = none) :
    FnOk P w K mg base CX0 1 f fd ["thing", "due"] spIs := by
  refine F.ok scIs (fun vs H Q E h => ?_) (fun cdv A outer s H vs Q E hr h => ?_)
  · obtain ⟨x, y, rfl, _⟩ := h
    rfl
  · obtain ⟨x, y, rfl, q⟩ := h
    refine ⟨_, pss_one (ps_ret (pe_and (pe_callB call_isi (by rfl) ms (by decide +kernel) (pa_cons (pv 0) (pa_cons (pe_bltn (by rfl) mb (by decide +kernel) (v := .ty "bool") rfl) pa_nil)))
      (pe_one (pe_cmpR op_eq (pv 0) (pv 1) (nomark _))))), ?_⟩
    refine ⟨_, rfl, .bl x, .ty "bool", _, _, true, rfl, .ty _, .base (.bl x), kit_ty (by decide +kernel), true, rfl, _, rfl, _, rfl, rfl, ?_⟩
    have e : (decide (V.bl x = V.bl y)) = decide (x = y) := by
      cases x <;> cases y <;> rfl
    rw [e]
    exact q
/-- the items of what _law_one draws from -/
def Its (K : PySem.W.Frag) (b : Addr) (H : Hp) (v : V) (xs : List V) : Prop :=
  (∃ a, v = .ref a ∧ a ≠ b ∧ (SqL K H a xs ∨ SqT K H a xs)) ∨ ∃ z : Str, v = .str z ∧ z.length ≤ 100000 ∧ xs = z.cps.toList.map fun c => .str ⟨#[c]⟩
theorem scOne : FnScope ["bag", "items"] ["bag", "items"] (defScope s_L_one) := ⟨rfl, rfl, rfl, by decide +kernel, rfl, by decide +kernel, by decide +kernel⟩
def spOne (K : PySem.W.Frag) : Sp := fun vs H Q _ => ∃ (b : Addr) (v : V) (xs : List V) (n : Nat), vs = [.ref b, v] ∧ Its K b H v xs ∧ xs ≠ [] ∧ xs.length ≤ 100000 ∧ Bag H b n ∧ n ≤ bagMost ∧
  ∀ H' x, Keep b H H' → Bag H' b (n + 1) → x ∈ xs → Q x H'
theorem ok_one {f : Addr} {fd : FuncData} (F : Fun K "_law_one" "_law_one" s_L_one f fd) (ml : mg "len" = none) (cR : Cal P w K mg base 1 "_law_roll" spRoll) :
    FnOk P w K mg base CX0 2 f fd ["bag", "items"] (spOne K) := by
  refine F.ok scOne (fun vs H Q E h => ?_) (fun cdv A outer s H vs Q E hr h => ?_)
  · obtain ⟨b, v, xs, n, rfl, _⟩ := h
    rfl
  · obtain ⟨b, v, xs, n, rfl, it, ne, sz, g, nm, q⟩ := h
    have pos : 0 < xs.length := List.length_pos_iff.mpr ne
    refine ⟨_, pss_one (ps_ret (pe_ix ix_seq (pv 1) (C8.pe_c cR hr (by omega) (by rfl) (pa_cons (pv 0) (pa_cons (pe_callB call_len (by rfl) ml PySem.boot_len (pa_cons (pv 1) pa_nil)) pa_nil))) (fun _ _ => rfl))), ?_⟩
    refine ⟨v, rfl, .ref b, rfl, v, rfl, v, xs.length, rfl, ?_, b, _, n, rfl, by omega, by omega, g, nm, fun H' i kp g' i0 i1 => ?_⟩
    · rcases it with ⟨a, rfl, _, h1 | h1⟩ | ⟨z, rfl, hz, rfl⟩
      · exact .inl ⟨xs, h1, rfl⟩
      · exact .inr ⟨xs, h1, rfl⟩
      · refine ⟨Nat.le_trans hz (by decide), ?_⟩
        rw [List.length_map]
        rfl
    · obtain ⟨j, rfl⟩ : ∃ j : Nat, i = (j : Int) := ⟨i.toNat, by omega⟩
      have lj : j < xs.length := by omega
      have at_ : xs[j]? = some xs[j] := List.getElem?_eq_getElem lj
      have fin := q H' xs[j] kp g' (List.getElem_mem lj)
      rcases it with ⟨a, rfl, ab, h1 | h1⟩ | ⟨z, rfl, hz, rfl⟩
      · exact .inl ⟨a, xs, _, xs[j], rfl, rfl, sqL_keep kp ab h1, atI_nat at_, fin⟩
      · exact .inr (.inl ⟨a, xs, _, xs[j], rfl, rfl, sqT_keep kp ab h1, atI_nat at_, fin⟩)
      · have lz : j < z.cps.toList.length := by simpa using lj
        refine .inr (.inr ⟨z, _, z.cps.toList[j], rfl, rfl, Nat.le_trans hz (by decide), atI_nat (List.getElem?_eq_getElem lz), ?_⟩)
        simpa using fin
/-! ### _law_word, _law_names -/
theorem scWord : FnScope ["bag", "turn"] ["bag"] (defScope s_L_word) := ⟨rfl, rfl, rfl, by decide +kernel, rfl, by decide +kernel, by decide +kernel⟩
def spWord : Sp := fun vs H Q _ => ∃ (b : Addr) (n : Nat), vs = [.ref b] ∧ Bag H b n ∧ n + 10 ≤ bagMost ∧ ∀ H' z, Keep b H H' → Bag H' b (n + 8) → WordOk z → Q (.str z) H'
theorem ok_word {f : Addr} {fd : FuncData} (F : Fun K "_law_word" "_law_word" s_L_word f fd) (mr : mg "range" = none) (cR : Cal P w K mg base 1 "_law_roll" spRoll) (cO : Cal P w K mg base 2 "_law_one" (spOne K)) :
    FnOk P w K mg base CX0 3 f fd ["bag"] spWord := by
  refine F.ok scWord (fun vs H Q E h => ?_) (fun cdv A outer s H vs Q E hr h => ?_)
  · obtain ⟨b, n, rfl, _⟩ := h
    rfl
  · obtain ⟨b, n, rfl, g, nm, q⟩ := h
    refine ⟨_, pss_one (ps_ret (pe_join pe_str (pe_lc (own := [("turn", 1)]) (g := gName 1) (tt := tYes) rfl scWord.nd
      (pi_range1 (by rfl) mr (pa_cons (pe_op op_add pe_int (C8.pe_c cR hr (by omega) (by rfl) (pa_cons (pv 0) (pa_cons pe_int pa_nil)))) pa_nil))
      (blkOk_by (N := ["bag", "turn"]) (sc := defScope s_L_word) (by decide +kernel)) (fun _ _ _ _ _ => pg_name (i := 1) scWord.nd rfl (Or.inl rfl)) (fun _ _ _ _ _ => pts_nil)
      (fun _ _ _ _ _ => C8.pe_c cO hr (by omega) (by rfl) (pa_cons (pv 0) (pa_cons pe_str pa_nil)))))), ?_⟩
    refine ⟨⟨_, rfl⟩, _, rfl, b, 7, n, rfl, by decide, by decide, g, by omega, fun H1 m kp1 g1 m0 m1 => ?_⟩
    refine ⟨_, _, rfl, rfl, _, rfl, by omega, by omega, fun D nD => ?_⟩
    have Db : b ≠ D := g1.ne nD
    have nD0 : H D = none := by
      cases e : H D with
      | none => rfl
      | some o => rw [kp1 D o Db.symm e] at nD; cases nD
    refine lc_range (n := (1 + m).toNat) (fun i H' => ∃ ws : List Nat, ws.length = i ∧ (∀ c ∈ ws, c ∈ sixL) ∧ H' D = some (.lst ((ws.map fun c => (⟨#[c]⟩ : Str)).map V.str)) ∧ Keep b H H' ∧ Bag H' b (n + 1 + i))
      ⟨[], rfl, (fun c h => nomatch h), upd_same, keep_put kp1 nD0, g1.new nD⟩ (fun i H' hi hP => ?_) (fun H' hP => ?_)
    · obtain ⟨ws, el, hw, hD, kp, g'⟩ := hP
      refine ⟨rfl, _, rfl, b, _, _, n + 1 + i, rfl, .inr ⟨_, rfl, by decide +kernel, rfl⟩, by decide +kernel, by decide +kernel, g', by omega, fun H2 x kp2 g2 hx => ?_⟩
      obtain ⟨c, hc, rfl⟩ := List.mem_map.mp hx
      have hD2 := kp2 D _ Db.symm hD
      refine ⟨_, hD2, ?_, ws ++ [c], by rw [List.length_append, el] <;> rfl, fun d hd => ?_, ?_, keep_put (kp.trans kp2) nD0, (g2.put Db).mono (by omega)⟩
      · rw [List.length_map, List.length_map, el]
        exact small1000 (by omega)
      · rcases List.mem_append.mp hd with hd | hd
        · exact hw d hd
        · rw [List.mem_singleton] at hd
          exact hd ▸ hc
      · rw [upd_same, List.map_append, List.map_append]
        rfl
    · obtain ⟨ws, el, hw, hD, kp, g'⟩ := hP
      refine ⟨_, D, ws.map fun c => ⟨#[c]⟩, rfl, rfl, .inl (.inl (.inl hD)), ?_, q H' _ kp (g'.mono (by omega)) ?_⟩
      · rw [ones_sum, List.length_map]
        show ws.length + ws.length * 0 ≤ _
        omega
      · refine ⟨?_, ?_, ?_⟩
        · rw [cs_len, join_ones]
          omega
        · rw [cs_len, join_ones]
          omega
        · rw [join_ones]
          exact hw
theorem front_take {z : Str} (h : WordOk z) : ∃ front : List Nat, cs (cutS (txtRep z 2) none (some 7)) = front ∧ 2 ≤ front.length ∧ front.length ≤ 7 ∧ ∀ d ∈ front, d ∈ sixL := by
  obtain ⟨h1, h2, h3⟩ := h
  rw [cs_len] at h1 h2
  refine ⟨_, rfl, ?_⟩
  have e : cs (cutS (txtRep z 2) none (some 7)) = (cs z ++ cs z).take 7 := by
    have e1 : cs (txtRep z 2) = cs z ++ cs z := by
      rw [cs_rep]
      simp
    unfold cutS
    rw [cs_mk, HT.sIx_none, show HT.sIx (txtRep z 2).length (txtRep z 2).length (some 7) = min 7 (txtRep z 2).length from HT.sIx_nat _ _ 7, Nat.sub_zero, List.drop_zero]
    show List.take (min 7 (txtRep z 2).length) (cs (txtRep z 2)) = _
    rw [cs_len, ← List.take_take, List.take_length, e1]
  rw [e]
  refine ⟨by rw [List.length_take, List.length_append]; omega, by rw [List.length_take]; omega, fun d hd => ?_⟩
  rcases List.mem_append.mp (List.mem_of_mem_take hd) with q | q
  · exact h3 d q
  · exact h3 d q
theorem scNames : FnScope ["bag", "many", "turn"] ["bag", "many"] (defScope s_L_names) := ⟨rfl, rfl, rfl, by decide +kernel, rfl, by decide +kernel, by decide +kernel⟩
def spNames : Sp := fun vs H Q _ => ∃ (b : Addr) (m n : Nat), vs = [.ref b, .int (m : Int)] ∧ m ≤ 8 ∧ Bag H b n ∧ n + 100 ≤ bagMost ∧
  ∀ H' p zs, Keep b H H' → H p = none → Bag H' b (n + 8 * m) → H' p = some (.lst (zs.map V.str)) → zs.length = m → NamesOk zs → Q (.ref p) H'
theorem ok_names {f : Addr} {fd : FuncData} (F : Fun K "_law_names" "_law_names" s_L_names f fd) (mr : mg "range" = none) (cW : Cal P w K mg base 3 "_law_word" spWord) :
    FnOk P w K mg base CX0 4 f fd ["bag", "many"] spNames := by
  refine F.ok scNames (fun vs H Q E h => ?_) (fun cdv A outer s H vs Q E hr h => ?_)
  · obtain ⟨b, m, n, rfl, _⟩ := h
    rfl
  · obtain ⟨b, m, n, rfl, m8, g, nm, q⟩ := h
    refine ⟨_, pss_one (ps_ret (pe_lc (own := [("turn", 2)]) (g := gName 2) (tt := tYes) rfl scNames.nd (pi_range1 (by rfl) mr (pa_cons (pv 1) pa_nil))
      (blkOk_by (N := ["bag", "many", "turn"]) (sc := defScope s_L_names) (by decide +kernel)) (fun _ _ _ _ _ => pg_name (i := 2) scNames.nd rfl (Or.inl rfl)) (fun _ _ _ _ _ => pts_nil)
      (fun _ _ _ _ _ => pe_op op_add_str (pe_slice sl_str (pe_op op_repS (C8.pe_c cW hr (by omega) (by rfl) (pa_cons (pv 0) pa_nil)) pe_int) po_none (po_some pe_int)) (pe_ix ix_str pe_str (pv 2) (fun _ _ => rfl))))), ?_⟩
    refine ⟨_, rfl, _, rfl, by omega, by omega, fun D nD => ?_⟩
    have Db : b ≠ D := g.ne nD
    refine lc_range (n := ((m : Nat) : Int).toNat) (fun i H' => ∃ zs : List Str, zs.length = i ∧ NamesOk zs ∧ H' D = some (.lst (zs.map V.str)) ∧ Keep b H H' ∧ Bag H' b (n + 8 * i))
      ⟨[], rfl, (fun i z h => nomatch h), upd_same, keep_new nD, g.new nD⟩ (fun i H' hi hP => ?_) (fun H' hP => ?_)
    · obtain ⟨zs, el, hz, hD, kp, g'⟩ := hP
      have im : i < m := by omega
      refine ⟨rfl, _, rfl, b, n + 8 * i, rfl, g', by omega, fun H2 z kp2 g2 wz => ?_⟩
      have zl := wz.1
      have zl2 := wz.2.1
      refine ⟨z, 2, rfl, rfl, by decide, by decide, by omega, by omega, 7, rfl, _, rfl, ?_, ?_⟩
      · rw [cs_len, cs_rep]
        simp only [List.length_flatten, List.map_replicate, List.sum_replicate_nat]
        rw [← cs_len, sizeLine_eq]
        omega
      obtain ⟨front, ef, f1, f2, f3⟩ := front_take wz
      obtain ⟨c, hc⟩ : ∃ c, endsL[i]? = some c := by
        have : i < endsL.length := by
          have : endsL.length = 8 := by decide +kernel
          omega
        exact ⟨_, List.getElem?_eq_getElem this⟩
      refine ⟨_, rfl, _, _, c, rfl, rfl, by decide +kernel, ?_, _, _, rfl, rfl, ?_, ?_⟩
      · show atI endsL ((0 : Int) + (i : Int)) = some c
        rw [Int.zero_add]
        exact atI_nat hc
      · rw [cs_len, ef, sizeLine_eq]
        show front.length + 1 ≤ _
        omega
      · have hD2 := kp2 D _ Db.symm hD
        refine ⟨_, hD2, ?_, zs ++ [cutS (txtRep z 2) none (some 7) ++ ⟨#[c]⟩], by rw [List.length_append, el] <;> rfl, hz.snoc ⟨front, c, ?_, f1, f2, f3, el ▸ hc⟩, ?_, keep_put (kp.trans kp2) nD, (g2.put Db).mono (by omega)⟩
        · rw [List.length_map, el]
          exact small1000 (by omega)
        · rw [cs_app, ef]
        · rw [upd_same, List.map_append]
          rfl
    · obtain ⟨zs, el, hz, hD, kp, g'⟩ := hP
      rw [Int.toNat_natCast] at el g'
      exact q H' D zs kp nD g' hD el hz
/-! ### is_name -/
/-- what stands in the written part: the module's constants -/
def WrT (K : PySem.W.Frag) (a : Addr) (xs : List V) : Prop := ∃ (o : Obj) (its : Array Value) (n : Nat), K.lookup a = some o ∧ o.cls = .type "tuple" ∧ o.data = .seq its n ∧ its.size ≤ sizeLine ∧ Vals xs its.toList
structure NameTxt (K : PySem.W.Frag) (mg : Str → Option Value) : Prop where
  kw : ∃ a, mg "KEYWORDS" = some (.ref a) ∧ WrT K a (keywordsL.map V.str)
  le : ∃ t, mg "LETTERS" = some (.str "abcdefghijklmnopqrstuvwxyz" t)
  ml : ∃ t, mg "MAX_LETTERS" = some (.int 8 t)
  isi : mg "isinstance" = none
  str : mg "str" = none
  len : mg "len" = none
  all : mg "all" = none
theorem scIsName : FnScope ["value", "letter"] ["value"] (defScope s_is_name) := ⟨rfl, rfl, rfl, by decide +kernel, rfl, by decide +kernel, by decide +kernel⟩
def spIsName : Sp := fun vs H Q _ => ∃ v, vs = [v] ∧ Dat H v ∧ ∀ H', Same H H' → Q (.bl (nameV v)) H'
theorem ok_isName {f : Addr} {fd : FuncData} (F : Fun K "is_name" "is_name" s_is_name f fd) (T : NameTxt K mg) : FnOk P w K mg base CX0 1 f fd ["value"] spIsName := by
  obtain ⟨⟨kw, gK, wK⟩, ⟨tl, gL⟩, ⟨tm, gM⟩, mI, mS, mL, mA⟩ := T
  refine F.ok scIsName (fun vs H Q E h => ?_) (fun cdv A outer s H vs Q E hr h => ?_)
  · obtain ⟨v, rfl, _⟩ := h
    rfl
  · obtain ⟨v, rfl, dv, q⟩ := h
    refine ⟨_, pss_cons (ps_if (PW.pt (pw_or (pt_not (pt_val (pe_callB call_isi (by rfl) mI (by decide +kernel) (pa_cons (pv 0) (pa_cons (pe_bltn (by rfl) mS (by decide +kernel) (v := .ty "str") rfl) pa_nil)))))
          (pw_or1 (pt_not (pt_chain op_le op_le pe_int (pe_callB call_len (by rfl) mL PySem.boot_len (pa_cons (pv 0) pa_nil)) (pe_glob (v := .int 8) (by rfl) gM ⟨_, rfl⟩))))))
        (pss_one (ps_ret pe_bl)) pss_nil)
      (pss_one (ps_ret (pe_and (pe_cmpR op_notIn_seq (pv 0) (pe_glob (v := .ref kw) (by rfl) gK rfl) (by rfl)) (pe_one (pe_callB (cr_all rfl) (by rfl) mA (by decide +kernel)
        (pa_cons (pe_lc (own := [("letter", 1)]) (g := gName 1) (tt := tYes) rfl scIsName.nd (pi_str (pv 0))
          (blkOk_by (N := ["value", "letter"]) (sc := defScope s_is_name) (by decide +kernel)) (fun _ _ _ _ _ => pg_name (i := 1) scIsName.nd rfl (Or.inl rfl)) (fun _ _ _ _ _ => pts_nil)
          (fun _ _ _ _ _ => pe_cmpR op_in_sign (pv 1) (pe_glob (v := .str (Str.ofString "abcdefghijklmnopqrstuvwxyz")) (by rfl) gL ⟨_, rfl⟩) (by rfl))) pa_nil)))))), ?_⟩
    by_cases hs : ∃ z, v = .str z
    · obtain ⟨z, rfl⟩ := hs
      have zl : z.length ≤ 100000 := dv
      refine ⟨_, rfl, .str z, .ty "str", _, _, true, rfl, .ty _, .base (.str z), kit_ty (by decide +kernel), true, rfl, ?_⟩
      refine ⟨_, rfl, .str z, _, rfl, ⟨Nat.le_trans zl (by decide), rfl⟩, 1, _, rfl, rfl, _, rfl, ite2 (fun e1 => ?_) (fun e1 => ?_)⟩
      · refine ⟨_, _, rfl, rfl, _, rfl, ?_⟩
        show if (!decide ((z.length : Int) ≤ 8)) = true then _ else _
        by_cases h8 : z.length ≤ 8
        · rw [if_neg (by simp; omega)]
          refine ⟨_, rfl, kw, _, rfl, .inr (.inr wK), rfl, strs_all_flat _, _, rfl, ?_⟩
          show if (!inV (.str z) (keywordsL.map V.str)) = true then _ else _
          rw [inV_strs]
          have h1 : 1 ≤ z.length := by
            have := of_decide_eq_true e1
            omega
          by_cases hk : z ∈ keywordsL
          · rw [decide_eq_true hk]
            refine iteF ?_
            have e : nameV (.str z) = false := by
              show isName z = false
              unfold isName
              rw [decide_eq_true hk]
              simp
            rw [← e]
            exact q H (.refl H)
          · rw [decide_eq_false hk]
            refine iteT ?_
            refine ⟨_, rfl, _, rfl, fun D nD => ?_⟩
            refine lc_vals walk_signs (fun _ => true) (fun x => .bl (letterV x)) (by rw [signs_len, ← cs_len]; exact zl) nD (fun _ _ => trivial) (fun x H2 Ky Kn hx sm k1 k0 => ?_) (fun H' sm e => ?_)
            · obtain ⟨c, hc, rfl⟩ := List.mem_map.mp hx
              refine ⟨rfl, _, rfl, c, _, rfl, rfl, ?_⟩
              have e : letterV (.str ⟨#[c]⟩) = decide (c ∈ lettersL) := letterV_one c
              have k2 := k1 H2 (.refl H2) rfl
              rw [e] at k2
              exact k2
            · rw [bools_all] at e
              refine ⟨D, (signs z).map letterV, rfl, .inl (.inl e), ?_⟩
              have e2 : ((signs z).map letterV).all id = nameV (.str z) := by
                show _ = isName z
                unfold isName
                rw [decide_eq_true h1, decide_eq_true h8, decide_eq_false hk, letters_all]
                rfl
              rw [e2]
              exact q H' sm
        · rw [if_pos (by simp; omega)]
          have e : nameV (.str z) = false := by
            show isName z = false
            unfold isName
            rw [decide_eq_false h8]
            simp
          rw [← e]
          exact q H (.refl H)
      · refine ⟨false, rfl, iteT ?_⟩
        have e : nameV (.str z) = false := by
          show isName z = false
          unfold isName
          rw [decide_eq_false (show ¬ 1 ≤ z.length from fun h => e1 (decide_eq_true (by omega)))]
          rfl
        show Q (.bl false) H
        rw [← e]
        exact q H (.refl H)
    · obtain ⟨t, ty, kt⟩ := dat_not_str (K := K) dv hs
      refine ⟨_, rfl, v, .ty "str", _, _, false, rfl, .ty _, ty, kt, false, rfl, ?_⟩
      have e : nameV v = false := by
        cases v with
        | str z => exact absurd ⟨z, rfl⟩ hs
        | _ => rfl
      show Q (.bl false) H
      rw [← e]
      exact q H (.refl H)
/-! ### are_different_names, is_fields -/
theorem scDiff : FnScope ["values", "value"] ["values"] (defScope s_are_different_names) := ⟨rfl, rfl, rfl, by decide +kernel, rfl, by decide +kernel, by decide +kernel⟩
def spDiff (K : PySem.W.Frag) : Sp := fun vs H Q _ => ∃ (a : Addr) (xs : List V), vs = [.ref a] ∧ H a = some (.tup xs) ∧ xs.length ≤ 1000 ∧ (∀ x ∈ xs, Dat H x) ∧
  ∀ H' r, Same H H' → (r = true ↔ DiffOk xs) → Q (.bl r) H'
theorem ok_diff {f : Addr} {fd : FuncData} (F : Fun K "are_different_names" "are_different_names" s_are_different_names f fd) (mA : mg "all" = none) (mL : mg "len" = none) (mS : mg "set" = none)
    (cN : Cal P w K mg base 1 "is_name" spIsName) : FnOk P w K mg base CX0 2 f fd ["values"] (spDiff K) := by
  refine F.ok scDiff (fun vs H Q E h => ?_) (fun cdv A outer s H vs Q E hr h => ?_)
  · obtain ⟨a, xs, rfl, _⟩ := h
    rfl
  · obtain ⟨a, xs, rfl, ha, hx, hd, q⟩ := h
    refine ⟨_, pss_one (ps_ret (pe_and (pe_callB (cr_all rfl) (by rfl) mA (by decide +kernel) (pa_cons (pe_lc (own := [("value", 1)]) (g := gName 1) (tt := tYes) rfl scDiff.nd (pi_tup (pv 0))
          (blkOk_by (N := ["values", "value"]) (sc := defScope s_are_different_names) (by decide +kernel)) (fun _ _ _ _ _ => pg_name (i := 1) scDiff.nd rfl (Or.inl rfl)) (fun _ _ _ _ _ => pts_nil)
          (fun _ _ _ _ _ => C8.pe_c cN hr (by omega) (by rfl) (pa_cons (pv 1) pa_nil))) pa_nil))
        (pe_one (pe_cmpR op_eq (pe_callB call_lenK (by rfl) mL PySem.boot_len (pa_cons (pe_callTy (cr_setOfK rfl) (by rfl) mS boot_set (pa_cons (pv 0) pa_nil)) pa_nil))
          (pe_callB call_len_seq (by rfl) mL PySem.boot_len (pa_cons (pv 0) pa_nil)) (nomark _))))), ?_⟩
    have hq : SqT K H a xs := .inl (.inl ha)
    refine ⟨.ref a, rfl, a, rfl, ⟨xs, hq⟩, fun D nD => ?_⟩
    refine lc_vals walk_tup (fun _ => true) (fun x => .bl (nameV x)) (by omega) nD (fun H' sm => sqT_same sm hq) (fun x H2 Ky Kn hx2 sm k1 k0 => ?_) (fun H1 sm e => ?_)
    · exact ⟨rfl, x, rfl, x, rfl, (hd x hx2).same sm, fun H4 s4 => k1 H4 s4 rfl⟩
    · rw [bools_all] at e
      refine ⟨D, xs.map nameV, rfl, .inl (.inl e), _, rfl, ?_⟩
      by_cases hn : (xs.map nameV).all id = true
      · rw [hn]
        obtain ⟨zs, rfl, hz⟩ := all_names hn
        refine iteT ?_
        have hq1 : SqT K H1 a (zs.map V.str) := sqT_same sm hq
        rw [List.length_map] at hx
        refine ⟨.ref a, rfl, a, zs.map Sum.inr, rfl, .inr ?_, by rw [List.length_map]; omega, fun p np => ?_⟩
        · rw [List.map_map]
          exact hq1
        have s2 := same_upd (o := SetK P w p (fun j => decide (j ∈ zs.map Sum.inr)) (dist (zs.map (Sum.inr : Str → Key))).length) np
        refine ⟨p, _, _, rfl, upd_same, .ref a, rfl, a, _, rfl, .inr (sqT_same s2 hq1), rfl, q _ _ (sm.trans s2) ?_⟩
        rw [decide_eq_true_eq, V.int.injEq, List.length_map]
        have e3 := dist_eq (zs.map (Sum.inr : Str → Key))
        rw [List.length_map] at e3
        constructor
        · intro e4
          refine ⟨zs, rfl, hz, ?_⟩
          exact nodup_inr.mp (e3.mp (by omega))
        · rintro ⟨zs', ez, _, nd⟩
          rw [strs_inj ez] at e3 ⊢
          have := e3.mpr (nodup_inr.mpr nd)
          omega
      · have hf : (xs.map nameV).all id = false := by
          cases h : (xs.map nameV).all id with
          | true => exact absurd h hn
          | false => rfl
        rw [hf]
        refine iteF (q _ _ sm ⟨fun h => (nomatch h), fun h => ?_⟩)
        obtain ⟨zs, rfl, hz, _⟩ := h
        exact absurd (names_all hz) hn
theorem scFields : FnScope ["value"] ["value"] (defScope s_is_fields) := ⟨rfl, rfl, rfl, by decide +kernel, rfl, by decide +kernel, by decide +kernel⟩
/-- whether a value is fields -/
def FieldsV (H : Hp) (v : V) : Prop := ∃ (a : Addr) (zs : List Str), v = .ref a ∧ H a = some (.tup (zs.map V.str)) ∧ FieldsOk zs
theorem fieldsV_iff {H : Hp} {a : Addr} {zs : List Str} (e : H a = some (.tup (zs.map V.str))) : FieldsV H (.ref a) ↔ FieldsOk zs := by
  constructor
  · rintro ⟨a', zs', e1, e2, f⟩
    cases e1
    rw [e] at e2
    rw [strs_inj (HO.tup.inj (Option.some.inj e2))]
    exact f
  · exact fun f => ⟨a, zs, rfl, e, f⟩
theorem fieldsV_lst {H : Hp} {a : Addr} {xs : List V} (e : H a = some (.lst xs)) : ¬ FieldsV H (.ref a) := by
  rintro ⟨a', zs', e1, e2, f⟩
  cases e1
  rw [e] at e2
  cases e2
/-- one that is decided -/
theorem bool_of {r : Bool} {p : Prop} [Decidable p] (h : r = true ↔ p) : r = decide p := by
  cases r with
  | true => exact (decide_eq_true (h.mp rfl)).symm
  | false => exact (decide_eq_false fun q => nomatch h.mpr q).symm
def spFields : Sp := fun vs H Q _ => ∃ v, vs = [v] ∧ Dat H v ∧ (∀ a xs, v = .ref a → H a = some (.tup xs) → ∀ x ∈ xs, Dat H x) ∧ ∀ H' r, Same H H' → (r = true ↔ FieldsV H v) → Q (.bl r) H'
theorem ok_fields {f : Addr} {fd : FuncData} (F : Fun K "is_fields" "is_fields" s_is_fields f fd) (mI : mg "isinstance" = none) (mT : mg "tuple" = none) (mL : mg "len" = none) (mF : ∃ t, mg "MAX_FIELDS" = some (.int 4 t))
    (cD : Cal P w K mg base 2 "are_different_names" (spDiff K)) : FnOk P w K mg base CX0 3 f fd ["value"] spFields := by
  obtain ⟨tm, gM⟩ := mF
  refine F.ok scFields (fun vs H Q E h => ?_) (fun cdv A outer s H vs Q E hr h => ?_)
  · obtain ⟨v, rfl, _⟩ := h
    rfl
  · obtain ⟨v, rfl, dv, di, q⟩ := h
    refine ⟨_, pss_cons (ps_if (PW.pt (pw_or (pt_not (pt_val (pe_callB call_isi (by rfl) mI (by decide +kernel) (pa_cons (pv 0) (pa_cons (pe_bltn (by rfl) mT (by decide +kernel) (v := .ty "tuple") rfl) pa_nil)))))
          (pw_or1 (pt_not (pt_chain op_le op_le pe_int (pe_callB call_len_seq (by rfl) mL PySem.boot_len (pa_cons (pv 0) pa_nil)) (pe_glob (v := .int 4) (by rfl) gM ⟨_, rfl⟩))))))
        (pss_one (ps_ret pe_bl)) pss_nil)
      (pss_one (ps_ret (C8.pe_c cD hr (by omega) (by rfl) (pa_cons (pv 0) pa_nil)))), ?_⟩
    by_cases hs : ∃ a xs, v = .ref a ∧ H a = some (.tup xs)
    · obtain ⟨a, xs, rfl, ha⟩ := hs
      have hq : SqT K H a xs := .inl (.inl ha)
      have no : ¬ (1 ≤ xs.length ∧ xs.length ≤ 4) → ¬ FieldsV H (.ref a) := fun h h2 => by
        obtain ⟨a', zs, e1, e2, z1, z4, _⟩ := h2
        cases e1
        rw [ha] at e2
        cases e2
        rw [List.length_map] at h
        exact h ⟨z1, z4⟩
      refine ⟨_, rfl, .ref a, .ty "tuple", _, _, true, rfl, .ty _, .base (.tup ha), kit_ty (by decide +kernel), true, rfl, ?_⟩
      refine ⟨_, rfl, a, xs, rfl, .inr hq, 1, _, rfl, rfl, _, rfl, ite2 (fun e1 => ?_) (fun e1 => ?_)⟩
      · have h1 : 1 ≤ xs.length := by
          have := of_decide_eq_true e1
          omega
        refine ⟨_, 4, rfl, rfl, _, rfl, ?_⟩
        show if (!decide ((xs.length : Int) ≤ 4)) = true then _ else _
        by_cases h4 : xs.length ≤ 4
        · rw [if_neg (by simp; omega)]
          refine ⟨_, rfl, a, xs, rfl, ha, by omega, di a xs rfl ha, fun H' r sm er => q H' r sm (er.trans ⟨fun h => ?_, fun h => ?_⟩)⟩
          · obtain ⟨zs, rfl, n1, n2⟩ := h
            rw [List.length_map] at h1 h4
            exact ⟨a, zs, rfl, ha, h1, h4, n1, n2⟩
          · obtain ⟨a', zs, e2, e3, _, _, n1, n2⟩ := h
            cases e2
            rw [ha] at e3
            cases e3
            exact ⟨zs, rfl, n1, n2⟩
        · rw [if_pos (by simp; omega)]
          exact q H false (.refl H) ⟨fun h => (nomatch h), fun h => absurd h (no fun z => h4 z.2)⟩
      · refine ⟨false, rfl, iteT ?_⟩
        have h1 : ¬ 1 ≤ xs.length := fun h => e1 (decide_eq_true (by omega))
        exact q H false (.refl H) ⟨fun h => (nomatch h), fun h => absurd h (no fun z => h1 z.1)⟩
    · obtain ⟨t, ty, kt⟩ := dat_not_tup (K := K) dv hs
      refine ⟨_, rfl, v, .ty "tuple", _, _, false, rfl, .ty _, ty, kt, false, rfl, ?_⟩
      refine q H false (.refl H) ⟨fun h => (nomatch h), fun h => ?_⟩
      obtain ⟨a, zs, rfl, e, _⟩ := h
      exact absurd ⟨a, _, rfl, e⟩ hs
theorem fields_both {zs1 zs2 : List Str} (f1 : FieldsOk zs1) (f2 : FieldsOk zs2) : FieldsOk (zs1 ++ zs2) ↔ (zs1.length + zs2.length ≤ 4 ∧ (zs1.filter fun w => decide (w ∈ zs2)) = []) := by
  unfold FieldsOk at *
  rw [List.length_append, List.nodup_append, List.filter_eq_nil_iff]
  constructor
  · rintro ⟨_, h4, _, _, _, h5⟩
    exact ⟨h4, fun w hw h => h5 w hw w (of_decide_eq_true h) rfl⟩
  · rintro ⟨h4, h5⟩
    refine ⟨by omega, h4, fun z hz => ?_, f1.2.2.2, f2.2.2.2, fun x hx y hy e => ?_⟩
    · rcases List.mem_append.mp hz with hz | hz
      · exact f1.2.2.1 z hz
      · exact f2.2.2.1 z hz
    · subst e
      exact h5 x hx (decide_eq_true hy)
theorem nodup_rev {zs : List Str} (h : zs.Nodup) : zs.reverse.Nodup := by
  unfold List.Nodup at *
  rw [List.pairwise_reverse]
  exact h.imp fun n e => n e.symm
theorem fields_one (w : Str) : FieldsOk [w] ↔ isName w = true := by
  unfold FieldsOk
  simp
/-! ### _law_bag -/
theorem scBag : FnScope ["script", "at", "cell", "great"] ["script", "at"] (defScope s_L_bag) := ⟨rfl, rfl, rfl, by decide +kernel, rfl, by decide +kernel, by decide +kernel⟩
def spBag (K : PySem.W.Frag) : Sp := fun vs H Q _ => ∃ (a : Addr) (ns : List Int) (i : Nat), vs = [.ref a, .int (i : Int)] ∧ SqL K H a (ns.map V.int) ∧
  ∀ H' p, Same H H' → H p = none → Bag H' p 0 → Q (.ref p) H'
theorem ok_bag {f : Addr} {fd : FuncData} (F : Fun K "_law_bag" "_law_bag" s_L_bag f fd) (ml : mg "len" = none) (mi : mg "int" = none) (ma : mg "abs" = none) (mx : mg "max" = none) :
    FnOk P w K mg base CX0 1 f fd ["script", "at"] (spBag K) := by
  refine F.ok scBag (fun vs H Q E h => ?_) (fun cdv A outer s H vs Q E hr h => ?_)
  · obtain ⟨a, ns, i, rfl, _⟩ := h
    rfl
  · obtain ⟨a, ns, i, rfl, hS, q⟩ := h
    refine ⟨_, Evl.pss_cut (ps_set (i := 2) scBag.nd rfl (.inl rfl) (pe_ifExp (pt_cmpR op_lt (pv 1) (pe_callB call_len_seq (by rfl) ml PySem.boot_len (pa_cons (pv 0) pa_nil)) (nomark _))
          (pe_ix ix_list (pv 0) (pv 1) (fun _ _ => rfl)) (pe_op op_add (pe_op op_mul pe_int (pv 1)) pe_int)))
      (pss_cons (ps_set (i := 3) scBag.nd rfl (.inl rfl) (pe_op op_mod (pe_callTy call_int1 (by rfl) mi boot_int (pa_cons (pe_callB call_abs (by rfl) ma (by decide +kernel) (pa_cons (pv 2) pa_nil)) pa_nil)) (pe_op op_powW (pe_op op_pow pe_int pe_int) pe_int)))
      (pss_one (ps_ret (pe_lst (pa_cons (pe_callB (call_max2 rfl) (by rfl) mx (by decide +kernel) (pa_cons pe_int (pa_cons (pe_op op_sub (pv 3) (pe_op op_pow pe_int pe_int)) pa_nil)))
        (pa_cons (pe_op op_add (pe_op op_add (pe_op op_mul (pe_op op_mod (pe_callTy call_int1 (by rfl) mi boot_int (pa_cons (pv 3) pa_nil)) pe_int) pe_int) (pe_op op_mul pe_int (pv 1)))
            (pe_callTy call_int1 (by rfl) mi boot_int (pa_cons (pe_cmpR op_lt (pv 2) pe_int (nomark _)) pa_nil)))
          (pa_cons pe_int pa_nil))))))), ?_⟩
    refine ⟨fun σ' H' => ∃ c : Int, σ' = [some (.ref a), some (.int i), some (.int c), none] ∧ H' = H, ?_, ?_⟩
    · refine ⟨_, rfl, .ref a, rfl, a, _, rfl, .inl hS, _, _, rfl, rfl, _, rfl, ite2 (fun e => ?_) (fun e => ?_)⟩
      · have lt : i < ns.length := by
          have e1 := of_decide_eq_true e
          rw [List.length_map] at e1
          omega
        exact ⟨_, rfl, _, rfl, a, _, _, _, rfl, rfl, hS, atI_nat (by rw [List.getElem?_map, List.getElem?_eq_getElem lt] <;> rfl), _, rfl, rfl⟩
      · exact ⟨_, rfl, _, _, rfl, rfl, .inl ⟨by decide, by decide⟩, _, _, rfl, rfl, _, rfl, rfl⟩
    · rintro σ' H' ⟨c, rfl, rfl⟩
      refine ⟨_, rfl, _, rfl, .inl ⟨_, rfl, 10, 60, rfl, rfl, ⟨by decide, by decide, by decide⟩, _, 9, rfl, rfl, ⟨by decide, by decide +kernel⟩, _, _, rfl, rfl, (show (0 : Int) < ((10 : Int) ^ (60 : Int).toNat) ^ (9 : Int).toNat by decide +kernel), ?_⟩⟩
      generalize ((if c < 0 then -c else c) % (10 ^ (60 : Int).toNat) ^ (9 : Int).toNat) = g
      refine ⟨_, rfl, 10, 18, rfl, rfl, ⟨by decide, by decide, by decide⟩, _, _, rfl, rfl, _, _, rfl, ?_⟩
      refine ⟨_, rfl, .inl ⟨_, rfl, _, _, rfl, rfl, (show (0 : Int) < 2305843009213693907 by decide), _, _, rfl, rfl, .inr ⟨by decide, by decide⟩, _, rfl, _, _, rfl, rfl, .inl ⟨by decide, by decide⟩, _, _, rfl, rfl, ?_⟩⟩
      refine ⟨_, rfl, _, _, rfl, rfl, .inr ⟨_, rfl, _, _, rfl, rfl, ?_⟩⟩
      refine ⟨(show 3 ≤ sizeLine by decide), fun p hp => ?_⟩
      exact q _ p (same_upd hp) hp ⟨_, _, _, upd_same, by decide, by decide⟩
theorem roomN {n : Nat} {A : Around} (hr : Room n A) : A.units < cLine := by
  have := hr.un
  omega
theorem roomI {n : Nat} {A : Around} (hr : Room n A) : A.units + 1 < cLine := by
  have := hr.un
  omega
/-- a call without arguments -/
theorem pe_c0 {X : Cx} {k j : Nat} {x : Str} {sp : Sp} {dvs : List V} {p pos : Pos} (c : C8.Cal X.prog X.w X.K X.mg X.base k x sp dvs) (hr : Room j X.A) (hk : k ≤ j) (hg : Gl X x) (hdb : (x == ("__debug__" : Str)) = false := by decide) :
    PE X (.Call (.Name x p) [] [] pos) (tCall sp dvs C8.E0 tNil) := by
  obtain ⟨f, fd, ps, ds, F, hm, kp, b, d⟩ := c.ex
  exact pe_call0 F (hr.mono hk) hg hm kp b d C8.pass0 hdb
/-! ### is_integer, _law_is_integer -/
def isBl : V → Bool | .bl _ => true | _ => false
def isNum : V → Bool | .bl _ => true | .int _ => true | _ => false
def isTxt : V → Bool | .str _ => true | _ => false
def intV : V → Bool | .int i => decide ((if i < 0 then -i else i) < 10 ^ (60 : Int).toNat) | _ => false
theorem dat_is {K : PySem.W.Frag} {H : Hp} {v : V} (d : Dat H v) : ∃ t, TyX K H v (.type t) ∧ PySem.W.kitOne K (.type t) (.type "bool") = some (isBl v) ∧ PySem.W.kitOne K (.type t) (.type "int") = some (isNum v) ∧ PySem.W.kitOne K (.type t) (.type "str") = some (isTxt v) := by
  cases v with
  | non => exact ⟨_, .base .non, (kit_ty (r := false) (by decide +kernel)), (kit_ty (r := false) (by decide +kernel)), (kit_ty (r := false) (by decide +kernel))⟩
  | bl b => exact ⟨_, .base (.bl b), (kit_ty (r := true) (by decide +kernel)), (kit_ty (r := true) (by decide +kernel)), (kit_ty (r := false) (by decide +kernel))⟩
  | int i => exact ⟨_, .base (.int i), (kit_ty (r := false) (by decide +kernel)), (kit_ty (r := true) (by decide +kernel)), (kit_ty (r := false) (by decide +kernel))⟩
  | str z => exact ⟨_, .base (.str z), (kit_ty (r := false) (by decide +kernel)), (kit_ty (r := false) (by decide +kernel)), (kit_ty (r := true) (by decide +kernel))⟩
  | ref a =>
    rcases d with ⟨xs, e⟩ | ⟨xs, e⟩ | ⟨xs, e⟩
    · exact ⟨_, .base (.lst e), (kit_ty (r := false) (by decide +kernel)), (kit_ty (r := false) (by decide +kernel)), (kit_ty (r := false) (by decide +kernel))⟩
    · exact ⟨_, .base (.tup e), (kit_ty (r := false) (by decide +kernel)), (kit_ty (r := false) (by decide +kernel)), (kit_ty (r := false) (by decide +kernel))⟩
    · exact ⟨_, .base (.dK e), (kit_ty (r := false) (by decide +kernel)), (kit_ty (r := false) (by decide +kernel)), (kit_ty (r := false) (by decide +kernel))⟩
  | byt b => exact False.elim d
  | flt b => exact False.elim d
  | ty n => exact False.elim d
theorem scInt : FnScope ["value"] ["value"] (defScope s_is_integer) := ⟨rfl, rfl, rfl, by decide +kernel, rfl, by decide +kernel, by decide +kernel⟩
def spInt : Sp := fun vs H Q _ => ∃ v, vs = [v] ∧ Dat H v ∧ Q (.bl (intV v)) H
theorem ok_int {f : Addr} {fd : FuncData} (F : Fun K "is_integer" "is_integer" s_is_integer f fd) (mI : mg "isinstance" = none) (mb : mg "bool" = none) (mi : mg "int" = none) (ma : mg "abs" = none) : FnOk P w K mg base CX0 1 f fd ["value"] spInt := by
  refine F.ok scInt (fun vs H Q E h => ?_) (fun cdv A outer s H vs Q E hr h => ?_)
  · obtain ⟨v, rfl, _⟩ := h
    rfl
  · obtain ⟨v, rfl, d, q⟩ := h
    refine ⟨_, (pss_cons (ps_if (PW.pt (pw_or (pt_val (pe_callB call_isi (by rfl) mI (by decide +kernel) (pa_cons (pv 0) (pa_cons (pe_bltn (by rfl) mb (by decide +kernel) (v := .ty "bool") rfl) pa_nil)))) (pw_or1 (pt_not (pt_val (pe_callB call_isi (by rfl) mI (by decide +kernel) (pa_cons (pv 0) (pa_cons (pe_bltn (by rfl) mi (by decide +kernel) (v := .ty "int") rfl) pa_nil))))))))
        (pss_one (ps_ret pe_bl)) pss_nil)
      (pss_one (ps_ret (pe_cmpR op_lt (pe_callB call_abs (by rfl) ma (by decide +kernel) (pa_cons (pv 0) pa_nil)) (pe_op op_pow pe_int pe_int) (nomark _))))), ?_⟩
    obtain ⟨t, ty, k1, k2, _⟩ := dat_is (K := K) d
    refine ⟨_, rfl, v, .ty "bool", _, _, _, rfl, .ty _, ty, k1, _, rfl, ?_⟩
    cases v with
    | bl b => exact iteT q
    | int i => exact iteF ⟨_, rfl, _, .ty "int", _, _, _, rfl, .ty _, ty, k2, _, rfl, iteF ⟨_, rfl, _, rfl, 10, 60, rfl, rfl, ⟨by decide, by decide, by decide⟩, _, _, rfl, rfl, q⟩⟩
    | _ => exact iteF ⟨_, rfl, _, .ty "int", _, _, _, rfl, .ty _, ty, k2, _, rfl, iteT q⟩
theorem scLint : FnScope ["value"] ["value"] (defScope s_L_is_integer) := ⟨rfl, rfl, rfl, by decide +kernel, rfl, by decide +kernel, by decide +kernel⟩
theorem ok_lint {f : Addr} {fd : FuncData} (F : Fun K "_law_is_integer" "_law_is_integer" s_L_is_integer f fd) (mI : mg "isinstance" = none) (mb : mg "bool" = none) (mi : mg "int" = none) (ma : mg "abs" = none) : FnOk P w K mg base CX0 1 f fd ["value"] spInt := by
  refine F.ok scLint (fun vs H Q E h => ?_) (fun cdv A outer s H vs Q E hr h => ?_)
  · obtain ⟨v, rfl, _⟩ := h
    rfl
  · obtain ⟨v, rfl, d, q⟩ := h
    refine ⟨_, (pss_one (ps_ret (pe_and (pe_callB call_isi (by rfl) mI (by decide +kernel) (pa_cons (pv 0) (pa_cons (pe_bltn (by rfl) mi (by decide +kernel) (v := .ty "int") rfl) pa_nil)))
      (pe_and (pe_not (pe_callB call_isi (by rfl) mI (by decide +kernel) (pa_cons (pv 0) (pa_cons (pe_bltn (by rfl) mb (by decide +kernel) (v := .ty "bool") rfl) pa_nil))))
        (pe_one (pe_cmpR op_lt (pe_callB call_abs (by rfl) ma (by decide +kernel) (pa_cons (pv 0) pa_nil)) (pe_op op_pow pe_int pe_int) (nomark _))))))), ?_⟩
    obtain ⟨t, ty, k1, k2, _⟩ := dat_is (K := K) d
    refine ⟨_, rfl, v, .ty "int", _, _, _, rfl, .ty _, ty, k2, _, rfl, ?_⟩
    cases v with
    | bl b => exact iteT ⟨_, rfl, _, .ty "bool", _, _, _, rfl, .ty _, ty, k1, _, rfl, _, rfl, iteF q⟩
    | int i => exact iteT ⟨_, rfl, _, .ty "bool", _, _, _, rfl, .ty _, ty, k1, _, rfl, _, rfl, iteT ⟨_, rfl, _, rfl, 10, 60, rfl, rfl, ⟨by decide, by decide, by decide⟩, _, _, rfl, rfl, q⟩⟩
    | _ => exact iteF q
/-! ### _law_keywords, _law_is_name -/
theorem scKws : FnScope ["some"] [] (defScope s_L_keywords) := ⟨rfl, rfl, rfl, by decide +kernel, rfl, by decide +kernel, by decide +kernel⟩
def spKws : Sp := fun vs H Q _ => vs = [] ∧ ∀ H' p, Same H H' → H' p = some (.tup (keywordsL.map V.str)) → Q (.ref p) H'
theorem ok_kws {f : Addr} {fd : FuncData} (F : Fun K "_law_keywords" "_law_keywords" s_L_keywords f fd) (mT : mg "tuple" = none) : FnOk P w K mg base CX0 1 f fd [] spKws := by
  refine F.ok scKws (fun vs H Q E h => ?_) (fun cdv A outer s H vs Q E hr h => ?_)
  · obtain ⟨rfl, _⟩ := h
    rfl
  · obtain ⟨rfl, q⟩ := h
    refine ⟨_, (pss_cons (ps_set (i := 0) scKws.nd rfl (.inl rfl) (pe_lst (pa_cons (pe_str) (pa_cons (pe_str) (pa_cons (pe_str) (pa_cons (pe_str) (pa_cons (pe_str) (pa_cons (pe_str) (pa_cons (pe_str) (pa_cons (pe_str) (pa_cons (pe_str) (pa_cons (pe_str) (pa_cons (pe_str) (pa_cons (pe_str) pa_nil))))))))))))))
      (pss_one (ps_ret (pe_callTy call_tuple_of (by rfl) mT (by decide +kernel) (pa_cons (pe_op op_cat (pv 0) (pe_lst (pa_cons (pe_str) (pa_cons (pe_str) (pa_cons (pe_str) (pa_cons (pe_str) pa_nil)))))) pa_nil))))), ?_⟩
    refine ⟨(show 12 ≤ sizeLine by decide), fun p1 np1 => ⟨_, rfl, (show 4 ≤ sizeLine by decide), fun p2 np2 => ?_⟩⟩
    have s1 := same_upd (o := HO.lst ((keywordsL.take 12).map V.str)) np1
    have s2 := same_snoc (o := HO.lst ((keywordsL.drop 12).map V.str)) s1 np2
    refine ⟨p1, p2, (keywordsL.take 12).map V.str, (keywordsL.drop 12).map V.str, rfl, rfl, same_upd np2 _ _ upd_same, upd_same, (show 16 ≤ sizeLine by decide), fun p3 np3 => ?_⟩
    have s3 := same_snoc (o := HO.lst (keywordsL.map V.str)) s2 np3
    refine ⟨p3, keywordsL.map V.str, rfl, .inl ⟨.inl (.inl upd_same), fun t nt => ?_⟩⟩
    exact q _ t (same_snoc s3 nt) upd_same
theorem scLname : FnScope ["value", "sign"] ["value"] (defScope s_L_is_name) := ⟨rfl, rfl, rfl, by decide +kernel, rfl, by decide +kernel, by decide +kernel⟩
theorem dat_txt {K : PySem.W.Frag} {H : Hp} {v : V} (d : Dat H v) (h : isTxt v = true) : ∃ z, v = .str z ∧ z.length ≤ 100000 := by
  cases v with
  | str z => exact ⟨z, rfl, d⟩
  | _ => exact absurd h Bool.false_ne_true
theorem no_other {z : Str} : (cs z).filter (fun c => !decide (c ∈ lettersL)) = [] ↔ ((cs z).all fun c => decide (c ∈ lettersL)) = true := by
  rw [List.filter_eq_nil_iff, List.all_eq_true]
  constructor
  · intro h c hc
    have := h c hc
    simp at this
    exact decide_eq_true this
  · intro h c hc
    have := of_decide_eq_true (h c hc)
    simp
    exact this
theorem ok_lname {f : Addr} {fd : FuncData} (F : Fun K "_law_is_name" "_law_is_name" s_L_is_name f fd) (mI : mg "isinstance" = none) (mS : mg "str" = none) (mL : mg "len" = none) (cK : Cal P w K mg base 1 "_law_keywords" spKws) : FnOk P w K mg base CX0 2 f fd ["value"] spIsName := by
  refine F.ok scLname (fun vs H Q E h => ?_) (fun cdv A outer s H vs Q E hr h => ?_)
  · obtain ⟨v, rfl, _⟩ := h
    rfl
  · obtain ⟨v, rfl, d, q⟩ := h
    refine ⟨_, (pss_cons (ps_if (PW.pt (pw_or (pt_not (pt_val (pe_callB call_isi (by rfl) mI (by decide +kernel) (pa_cons (pv 0) (pa_cons (pe_bltn (by rfl) mS (by decide +kernel) (v := .ty "str") rfl) pa_nil)))))
          (pw_or (pt_cmpR op_eq (pv 0) pe_str (nomark _)) (pw_or1 (pt_cmpR op_gt (pe_callB call_len_str (by rfl) mL PySem.boot_len (pa_cons (pv 0) pa_nil)) pe_int (nomark _)))))) (pss_one (ps_ret pe_bl)) pss_nil)
      (pss_one (ps_ret (pe_and (pe_cmpR op_notIn_seq (pv 0) (pe_c0 cK hr (by omega) (by rfl)) (by rfl)) (pe_one (pe_cmpR (op_eqNilL (roomN hr)) (pe_lc (own := [("sign", 1)]) (g := gName 1) rfl scLname.nd (pi_str (pv 0))
          (blkOk_by (N := ["value", "sign"]) (sc := defScope s_L_is_name) (by decide +kernel)) (fun _ _ _ _ _ => pg_name (i := 1) scLname.nd rfl (Or.inl rfl)) (fun _ _ _ _ _ => pts_one (pt_cmpR op_notIn_sign (pv 1) pe_str (by rfl)))
          (fun _ _ _ _ _ => pv 1)) (pe_lst pa_nil) (nomark _))))))), ?_⟩
    obtain ⟨t, ty, _, _, k3⟩ := dat_is (K := K) d
    refine ⟨_, rfl, v, .ty "str", _, _, _, rfl, .ty _, ty, k3, _, rfl, ?_⟩
    cases hv : isTxt v with
    | false =>
      have e : nameV v = false := by
        cases v with
        | str z => cases hv
        | _ => rfl
      have fin := q H (.refl H)
      rw [e] at fin
      exact iteT fin
    | true =>
      obtain ⟨z, rfl, zl⟩ := dat_txt (K := K) d hv
      refine ⟨_, rfl, rfl, _, rfl, ?_⟩
      by_cases h0 : z = Str.ofString ""
      · rw [show decide (V.str z = V.str (Str.ofString "")) = true from decide_eq_true (by rw [h0])]
        have e : nameV (.str z) = false := by
          rw [h0]
          rfl
        refine iteT ?_
        have fin := q H (.refl H)
        rw [e] at fin
        exact fin
      · rw [show decide (V.str z = V.str (Str.ofString "")) = false from decide_eq_false fun h => h0 (V.str.inj h)]
        refine iteF ⟨_, rfl, z, rfl, Nat.le_trans zl (by decide), _, _, rfl, rfl, _, rfl, ite2 (fun h8 => ?_) (fun h8 => ?_)⟩
        · have e : nameV (.str z) = false := by
            cases h : nameV (.str z) with
            | false => rfl
            | true =>
              have h1 := (name_size h).2
              have h2 := of_decide_eq_true h8
              omega
          have fin := q H (.refl H)
          rw [e] at fin
          exact fin
        · have l8 : z.length ≤ 8 := by
            have h2 : ¬ ((z.length : Int) > 8) := fun h => h8 (decide_eq_true h)
            omega
          have l1 : 1 ≤ z.length := by
            rcases Nat.eq_zero_or_pos z.length with h | h
            · exact absurd (cs_ext (by
                rw [cs_len] at h
                rw [List.length_eq_zero_iff.mp h]
                rfl)) h0
            · exact h
          refine ⟨_, rfl, rfl, fun H1 p s1 hp => ?_⟩
          refine ⟨p, _, rfl, .inr (.inl (.inl hp)), rfl, strs_all_flat _, _, rfl, ?_⟩
          show if (!inV (.str z) (keywordsL.map V.str)) = true then _ else _
          rw [inV_strs]
          have en : nameV (.str z) = (!decide (z ∈ keywordsL) && (cs z).all fun c => decide (c ∈ lettersL)) := by
            show isName z = _
            unfold isName
            rw [decide_eq_true l1, decide_eq_true l8]
            rfl
          by_cases hk : z ∈ keywordsL
          · rw [decide_eq_true hk]
            refine iteF ?_
            have fin := q H1 s1
            rw [en, decide_eq_true hk] at fin
            exact fin
          · rw [decide_eq_false hk]
            refine iteT ⟨_, rfl, _, rfl, fun D nD => ?_⟩
            refine lc_vals walk_signs (fun x => !letterV x) id (by rw [signs_len, ← cs_len]; exact zl) nD (fun _ _ => trivial) (fun x H2 Ky Kn hx sm k1 k0 => ?_) (fun H2 s2 e2 => ?_)
            · obtain ⟨c, hc, rfl⟩ := List.mem_map.mp hx
              refine ⟨rfl, _, rfl, c, _, rfl, rfl, _, rfl, ?_⟩
              show if (!decide (c ∈ lettersL)) = true then _ else _
              rw [← letterV_one]
              cases e : letterV (.str ⟨#[c]⟩) with
              | true => exact iteF (k0 _ (.refl _) (by rw [e]; rfl))
              | false => exact iteT ⟨_, rfl, k1 _ (.refl _) (by rw [e]; rfl)⟩
            · refine ⟨Nat.zero_le _, fun p4 np4 => ?_⟩
              have s4 := same_upd (o := HO.lst []) np4
              refine ⟨D, p4, _, rfl, rfl, .inl (.inl (s4 _ _ e2)), .inl (.inl upd_same), ?_⟩
              have fin := q _ ((s1.trans s2).trans s4)
              rw [en, decide_eq_false hk, Bool.not_false, Bool.true_and] at fin
              have e5 : (((signs z).filter fun x => !letterV x).map id).isEmpty = (cs z).all fun c => decide (c ∈ lettersL) := by
                rw [List.map_id]
                unfold signs
                rw [List.filter_map, List.isEmpty_map]
                have e6 : (cs z).filter ((fun x => !letterV x) ∘ fun c => V.str ⟨#[c]⟩) = (cs z).filter fun c => !decide (c ∈ lettersL) := List.filter_congr fun c _ => by
                  show (!letterV (.str ⟨#[c]⟩)) = _
                  rw [letterV_one]
                rw [e6]
                cases h : (cs z).all fun c => decide (c ∈ lettersL) with
                | true => rw [no_other.mpr h]; rfl
                | false =>
                  cases h2 : ((cs z).filter fun c => !decide (c ∈ lettersL)) with
                  | nil => rw [no_other.mp h2] at h; cases h
                  | cons _ _ => rfl
              rw [e5]
              exact fin
/-! ### _law_is_fields -/
theorem slT_K {X : Cx} (h : X.K = K) : SlR X (rSlT K) := h ▸ sl_tup
theorem scLfields : FnScope ["value", "item", "spot"] ["value"] (defScope s_L_is_fields) := ⟨rfl, rfl, rfl, by decide +kernel, rfl, by decide +kernel, by decide +kernel⟩
theorem inV_four (n : Nat) : inV (.int (n : Int)) [.int 1, .int 2, .int 3, .int 4] = decide (1 ≤ n ∧ n ≤ 4) := by
  by_cases h : n ≤ 4
  · match n, h with
    | 0, _ => rfl
    | 1, _ => rfl
    | 2, _ => rfl
    | 3, _ => rfl
    | 4, _ => rfl
    | n + 5, h => exact absurd h (by omega)
  · rw [decide_eq_false (fun z => h z.2)]
    unfold inV
    simp only [List.any_cons, List.any_nil, Bool.or_false]
    have e : ∀ k : Int, k ≤ 4 → eqV (.int k) (.int (n : Int)) = false := fun k hk => by
      show (k == (n : Int)) = false
      exact beq_eq_false_iff_ne.mpr (by omega)
    rw [e 1 (by decide), e 2 (by decide), e 3 (by decide), e 4 (by decide)]
    rfl
/-- those of the first i that stood before -/
def itemAt (zs : List Str) (j : Nat) : Str := (zs[j]?).getD ⟨#[]⟩
def dups (zs : List Str) (i : Nat) : List V := ((List.range i).filter fun j => decide (itemAt zs j ∈ zs.take j)).map fun j => V.str (itemAt zs j)
theorem dups_next {zs : List Str} {i : Nat} {z : Str} (h : zs[i]? = some z) : (z ∈ zs.take i → dups zs (i + 1) = dups zs i ++ [.str z]) ∧ (z ∉ zs.take i → dups zs (i + 1) = dups zs i) := by
  have e : itemAt zs i = z := by
    unfold itemAt
    rw [h]
    rfl
  unfold dups
  constructor
  · intro hz
    rw [List.range_succ, List.filter_append, List.map_append, List.filter_cons, if_pos (decide_eq_true (by rw [e]; exact hz))]
    show _ ++ [V.str (itemAt zs i)] = _
    rw [e]
  · intro hz
    rw [List.range_succ, List.filter_append, List.map_append, List.filter_cons, if_neg (fun d => by
      have d := of_decide_eq_true d
      rw [e] at d
      exact hz d)]
    show _ ++ [] = _
    rw [List.append_nil]
theorem dups_nil (zs : List Str) : (dups zs zs.length).isEmpty = decide zs.Nodup := by
  rw [Bool.eq_iff_iff, List.isEmpty_iff, decide_eq_true_eq]
  unfold dups
  rw [List.map_eq_nil_iff, List.filter_eq_nil_iff]
  unfold List.Nodup
  rw [List.pairwise_iff_getElem]
  have at_ : ∀ j (hj : j < zs.length), itemAt zs j = zs[j] := fun j hj => by
    unfold itemAt
    rw [List.getElem?_eq_getElem hj]
    rfl
  constructor
  · intro h i j hi hj hij e
    refine h j (List.mem_range.mpr hj) (decide_eq_true ?_)
    rw [at_ j hj, ← e]
    exact List.mem_iff_getElem.mpr ⟨i, by rw [List.length_take]; omega, by rw [List.getElem_take]⟩
  · intro h j hj e
    have hj := List.mem_range.mp hj
    have hm := of_decide_eq_true e
    rw [at_ j hj] at hm
    obtain ⟨i, hi, ei⟩ := List.getElem_of_mem hm
    rw [List.length_take] at hi
    rw [List.getElem_take] at ei
    exact h i j (by omega) hj (by omega) ei
theorem ok_lfields {f : Addr} {fd : FuncData} (F : Fun K "_law_is_fields" "_law_is_fields" s_L_is_fields f fd) (mI : mg "isinstance" = none) (mT : mg "tuple" = none) (mL : mg "len" = none) (mE : mg "enumerate" = none)
    (cN : Cal P w K mg base 2 "_law_is_name" spIsName) : FnOk P w K mg base CX0 3 f fd ["value"] spFields := by
  refine F.ok scLfields (fun vs H Q E h => ?_) (fun cdv A outer s H vs Q E hr h => ?_)
  · obtain ⟨v, rfl, _⟩ := h
    rfl
  · obtain ⟨v, rfl, dv, di, q⟩ := h
    refine ⟨_, (pss_cons (ps_if (PW.pt (pw_or (pt_not (pt_val (pe_callB call_isi (by rfl) mI (by decide +kernel) (pa_cons (pv 0) (pa_cons (pe_bltn (by rfl) mT (by decide +kernel) (v := .ty "tuple") rfl) pa_nil)))))
          (pw_or1 (pt_cmpR op_notIn_seq (pe_callB call_len_seq (by rfl) mL PySem.boot_len (pa_cons (pv 0) pa_nil)) (pe_tup (pa_cons (pe_int) (pa_cons (pe_int) (pa_cons (pe_int) (pa_cons (pe_int) pa_nil))))) (by rfl))))) (pss_one (ps_ret pe_bl)) pss_nil)
      (pss_cons (ps_if (pt_cmpR (op_neNilL (roomN hr)) (pe_lc (own := [("item", 1)]) (g := gName 1) rfl scLfields.nd (pi_tup (pv 0)) (blkOk_by (N := ["value", "item", "spot"]) (sc := defScope s_L_is_fields) (by decide +kernel))
          (fun _ _ _ _ _ => pg_name (i := 1) scLfields.nd rfl (Or.inl rfl)) (fun _ _ _ _ _ => pts_one (pt_not (pt_val (C8.pe_c cN hr (by omega) (by rfl) (pa_cons (pv 1) pa_nil))))) (fun _ _ _ _ _ => pv 1)) (pe_lst pa_nil) (nomark _)) (pss_one (ps_ret pe_bl)) pss_nil)
      (pss_one (ps_ret (pe_cmpR (op_eqNilL (roomN hr)) (pe_lc (own := [("spot", 2), ("item", 1)]) (g := gTup K 2 (gCons (gName 2) (gCons (gName 1) gNil))) rfl scLfields.nd (pi_enumT (by rfl) mE (pa_cons (pv 0) pa_nil)) (blkOk_by (N := ["value", "item", "spot"]) (sc := defScope s_L_is_fields) (by decide +kernel))
          (fun _ _ _ _ _ => pg_tup rfl (pgs_cons (pg_name (i := 2) scLfields.nd rfl (Or.inl rfl)) (pgs_cons (pg_name (i := 1) scLfields.nd rfl (Or.inl rfl)) pgs_nil)))
          (fun _ _ _ _ _ => pts_one (pt_cmpR (in_K (K := K) rfl) (pv 1) (pe_slice (slT_K (K := K) rfl) (pv 0) po_none (po_some (pv 2))) (by rfl))) (fun _ _ _ _ _ => pv 1)) (pe_lst pa_nil) (nomark _)))))), ?_⟩
    by_cases hs : ∃ a xs, v = .ref a ∧ H a = some (.tup xs)
    · obtain ⟨a, xs, rfl, ha⟩ := hs
      have hq : SqT K H a xs := .inl (.inl ha)
      refine ⟨_, rfl, .ref a, .ty "tuple", _, _, true, rfl, .ty _, .base (.tup ha), kit_ty (by decide +kernel), true, rfl, ?_⟩
      refine ⟨_, rfl, a, xs, rfl, .inr hq, (show 4 ≤ sizeLine by decide), fun p1 np1 => ?_⟩
      have s1 := same_upd (o := HO.tup [.int 1, .int 2, .int 3, .int 4]) np1
      refine ⟨p1, _, rfl, .inr (.inl (.inl upd_same)), rfl, rfl, _, rfl, ?_⟩
      show if (!inV (.int (xs.length : Int)) [.int 1, .int 2, .int 3, .int 4]) = true then _ else _
      rw [inV_four]
      by_cases hn : 1 ≤ xs.length ∧ xs.length ≤ 4
      · rw [decide_eq_true hn]
        have hq1 := sqT_same s1 hq
        refine iteF ⟨.ref a, rfl, a, rfl, ⟨xs, hq1⟩, fun D nD => ?_⟩
        refine lc_vals walk_tup (fun x => !nameV x) id (by omega) nD (fun H' sm => sqT_same sm hq1) (fun x H2 Ky Kn hx sm k1 k0 => ?_) (fun H2 s2 e2 => ?_)
        · refine ⟨rfl, x, rfl, x, rfl, (di a xs rfl ha x hx).same (s1.trans sm), fun H3 s3 => ⟨_, rfl, ?_⟩⟩
          cases e : nameV x with
          | true => exact iteF (k0 _ s3 (by rw [e]; rfl))
          | false => exact iteT ⟨x, rfl, k1 _ s3 (by rw [e]; rfl)⟩
        · refine ⟨Nat.zero_le _, fun p3 np3 => ?_⟩
          have s3 := same_upd (o := HO.lst []) np3
          refine ⟨D, p3, _, rfl, rfl, .inl (.inl (s3 _ _ e2)), .inl (.inl upd_same), _, rfl, ?_⟩
          have s13 := (s1.trans s2).trans s3
          rw [List.map_id]
          cases e : (xs.filter fun x => !nameV x) with
          | cons y r =>
            refine iteT (q _ false s13 ⟨fun h => (nomatch h), fun h => ?_⟩)
            obtain ⟨a', zs, e1, e2, _, _, zn, _⟩ := h
            cases e1
            rw [ha] at e2
            cases e2
            have hy := List.mem_filter.mp (by rw [e]; exact List.mem_cons_self : y ∈ (zs.map V.str).filter fun x => !nameV x)
            obtain ⟨z, hz, rfl⟩ := List.mem_map.mp hy.1
            have h2 := hy.2
            rw [show nameV (.str z) = true from zn z hz] at h2
            cases h2
          | nil =>
            have allN : (xs.map nameV).all id = true := by
              rw [List.all_map, List.all_eq_true]
              intro x hx
              have := List.filter_eq_nil_iff.mp e x hx
              show nameV x = true
              cases h : nameV x with
              | true => rfl
              | false => rw [h] at this; exact absurd rfl this
            obtain ⟨zs, rfl, zn⟩ := all_names allN
            rw [List.length_map] at hn
            have q3 := sqT_same s13 hq
            refine iteF ⟨_, rfl, a, _, rfl, q3, fun D2 nD2 => ?_⟩
            refine lc_gen walk_enumT (fun i => dups zs i) rfl (fun i hi => ?_) nD2 (fun H' sm => sqT_same sm q3) (fun i x H4 H5 Ky Kn hi sm y k1 k0 => ?_) (fun H4 s4 e4 => ?_)
            · rw [List.length_map] at hi
              unfold dups
              rw [List.length_map]
              have := List.length_filter_le (fun j => decide (itemAt zs j ∈ zs.take j)) (List.range i)
              rw [List.length_range] at this
              omega
            · obtain ⟨T, u, rfl, nT, rfl, hu⟩ := y
              rw [List.length_map] at hi
              rw [List.getElem?_map] at hu
              obtain ⟨z, hz, rfl⟩ := Option.map_eq_some_iff.mp hu
              have s5 := same_upd (o := HO.tup [.int (i : Nat), .str z]) nT
              have q5 := sqT_same s5 (sqT_same sm q3)
              obtain ⟨d1, d0⟩ := dups_next hz
              refine ⟨T, _, rfl, .inl (.inl upd_same), rfl, _, _, rfl, _, _, rfl, rfl, rfl, _, rfl, _, rfl, _, rfl, _, rfl, a, _, rfl, q5, ?_, fun p np => ?_⟩
              · rw [HT.sIx_nat, List.length_map]
                omega
              have s6 := same_upd (o := HO.tup (cutV (zs.map V.str) none (some (i : Int)))) np
              refine ⟨p, _, rfl, .inr (.inl (.inl upd_same)), rfl, ?_, _, rfl, ?_⟩
              · rw [cut_to]
                exact strs_all_flat _
              show if inV (.str z) (cutV (zs.map V.str) none (some (i : Int))) = true then _ else _
              rw [cut_to] at s6 ⊢
              rw [inV_strs]
              by_cases hm : z ∈ zs.take i
              · rw [decide_eq_true hm]
                exact iteT ⟨_, rfl, k1 _ _ (s5.trans s6) (d1 hm)⟩
              · rw [decide_eq_false hm]
                exact iteF (k0 _ (s5.trans s6) (d0 hm))
            · rw [List.length_map] at e4
              refine ⟨Nat.zero_le _, fun p5 np5 => ?_⟩
              have s5 := same_upd (o := HO.lst []) np5
              refine ⟨D2, p5, _, rfl, rfl, .inl (.inl (s5 _ _ e4)), .inl (.inl upd_same), ?_⟩
              rw [dups_nil]
              refine q _ _ ((s13.trans s4).trans s5) ?_
              rw [fieldsV_iff ha, decide_eq_true_eq]
              exact ⟨fun h => ⟨hn.1, hn.2, zn, h⟩, fun h => h.2.2.2⟩
      · rw [decide_eq_false hn]
        refine iteT (q _ false s1 ⟨fun h => (nomatch h), fun h => ?_⟩)
        obtain ⟨a', zs, e1, e2, z1, z4, _⟩ := h
        cases e1
        rw [ha] at e2
        cases e2
        rw [List.length_map] at hn
        exact absurd ⟨z1, z4⟩ hn
    · obtain ⟨t, ty, kt⟩ := dat_not_tup (K := K) dv hs
      refine ⟨_, rfl, v, .ty "tuple", _, _, false, rfl, .ty _, ty, kt, false, rfl, ?_⟩
      refine q H false (.refl H) ⟨fun h => (nomatch h), fun h => ?_⟩
      obtain ⟨a, zs, rfl, e, _⟩ := h
      exact absurd ⟨a, _, rfl, e⟩ hs
/-! ### _law_text, _law_number -/
theorem len_app (x y : Str) : (x ++ y).length = x.length + y.length := by rw [cs_len, cs_app, List.length_append, ← cs_len, ← cs_len]
theorem len_rep (z : Str) (k : Nat) : (txtRep z k).length = k * z.length := by
  rw [cs_len, cs_rep]
  simp only [List.length_flatten, List.map_replicate, List.sum_replicate_nat]
  rw [← cs_len]
def Short (n : Nat) (zs : List Str) : Prop := ∀ z ∈ zs, z.length ≤ n
theorem kw_short : Short 9 keywordsL := by
  unfold Short
  decide +kernel
theorem scText : FnScope ["bag", "word", "way", "spot"] ["bag"] (defScope s_L_text) := ⟨rfl, rfl, rfl, by decide +kernel, rfl, by decide +kernel, by decide +kernel⟩
def spText : Sp := fun vs H Q _ => ∃ (b : Addr) (n : Nat), vs = [.ref b] ∧ Bag H b n ∧ n + 100 ≤ bagMost ∧ ∀ H' z, Keep b H H' → Bag H' b (n + 15) → z.length ≤ 100000 → Q (.str z) H'
theorem its_tup {K : PySem.W.Frag} {H : Hp} {b p : Addr} {n : Nat} {xs : List V} (g : Bag H b n) (h : H p = some (.tup xs)) : Its K b H (.ref p) xs := .inl ⟨p, rfl, g.tup h, .inr (.inl (.inl h))⟩
theorem its_new {K : PySem.W.Frag} {H : Hp} {b p : Addr} {n : Nat} {xs : List V} (g : Bag H b n) (np : H p = none) : Its K b (L2.upd H p (.lst xs)) (.ref p) xs := .inl ⟨p, rfl, fun e => by
  rw [e] at np
  exact absurd rfl (g.ne np), .inl (.inl (.inl upd_same))⟩
theorem pick {zs : List Str} {x : V} {n : Nat} (s : Short n zs) (h : x ∈ zs.map V.str) : ∃ z, x = .str z ∧ z.length ≤ n := by
  obtain ⟨z, hz, rfl⟩ := List.mem_map.mp h
  exact ⟨z, rfl, s z hz⟩
theorem ok_text {f : Addr} {fd : FuncData} (F : Fun K "_law_text" "_law_text" s_L_text f fd) (mL : mg "len" = none) (cW : Cal P w K mg base 3 "_law_word" spWord) (cR : Cal P w K mg base 1 "_law_roll" spRoll) (cO : Cal P w K mg base 2 "_law_one" (spOne K))
    (cK : Cal P w K mg base 1 "_law_keywords" spKws) : FnOk P w K mg base CX0 4 f fd ["bag"] spText := by
  refine F.ok scText (fun vs H Q E h => ?_) (fun cdv A outer s H vs Q E hr h => ?_)
  · obtain ⟨b, n, rfl, _⟩ := h
    rfl
  · obtain ⟨b, n, rfl, g, nm, q⟩ := h
    refine ⟨_, (pss_cons (ps_par (i := 1) (j := 2) rfl scText.nd rfl rfl (by decide) rfl rfl (pa_cons (C8.pe_c cW hr (by omega) (by rfl) (pa_cons (pv 0) pa_nil)) (pa_cons (C8.pe_c cR hr (by omega) (by rfl) (pa_cons (pv 0) (pa_cons (pe_int) pa_nil))) pa_nil)) rfl)
      (pss_cons (ps_if (pt_cmpR op_lt (pv 2) pe_int (nomark _)) (pss_one (ps_ret (pv 1))) pss_nil)
      (pss_cons (ps_if (pt_cmpR op_eq (pv 2) pe_int (nomark _)) (pss_one (ps_ret (C8.pe_c cO hr (by omega) (by rfl) (pa_cons (pv 0) (pa_cons (pe_c0 cK hr (by omega) (by rfl)) pa_nil))))) pss_nil)
      (pss_cons (ps_if (pt_cmpR op_eq (pv 2) pe_int (nomark _)) (pss_one (ps_ret (pe_op op_add_str (pe_slice sl_str (C8.pe_c cO hr (by omega) (by rfl) (pa_cons (pv 0) (pa_cons (pe_c0 cK hr (by omega) (by rfl)) pa_nil))) po_none (po_some (pe_un un_neg pe_int)))
        (C8.pe_c cO hr (by omega) (by rfl) (pa_cons (pv 0) (pa_cons (pe_lst (pa_cons (pe_str) (pa_cons (pe_str) (pa_cons (pe_str) pa_nil)))) pa_nil)))))) pss_nil)
      (pss_cons (ps_if (pt_cmpR op_eq (pv 2) pe_int (nomark _)) (pss_one (ps_ret (pe_slice sl_str (pe_op op_repS (pv 1) pe_int) po_none (po_some (pe_op op_add pe_int (C8.pe_c cR hr (by omega) (by rfl) (pa_cons (pv 0) (pa_cons (pe_int) pa_nil)))))))) pss_nil)
      (pss_cons (ps_if (pt_cmpR op_eq (pv 2) pe_int (nomark _)) (pss_one (ps_ret (C8.pe_c cO hr (by omega) (by rfl) (pa_cons (pv 0) (pa_cons (pe_lst (pa_cons (pe_str) (pa_cons (pe_str) (pa_cons (pe_str) (pa_cons (pe_str) (pa_cons (pe_str) (pa_cons (pe_str) (pa_cons (pe_str) (pa_cons (pe_str) (pa_cons (pe_str) (pa_cons (pe_str) (pa_cons (pe_str) (pa_cons (pe_op op_repS pe_str pe_int) pa_nil))))))))))))) pa_nil))))) pss_nil)
      (pss_cons (ps_set (i := 3) scText.nd rfl (.inl rfl) (C8.pe_c cR hr (by omega) (by rfl) (pa_cons (pv 0) (pa_cons (pe_callB call_len_str (by rfl) mL PySem.boot_len (pa_cons (pv 1) pa_nil)) pa_nil))))
      (pss_one (ps_ret (pe_op op_add_str (pe_op op_add_str (pe_slice sl_str (pv 1) po_none (po_some (pv 3))) (C8.pe_c cO hr (by omega) (by rfl) (pa_cons (pv 0) (pa_cons (pe_lst (pa_cons (pe_str) (pa_cons (pe_str) (pa_cons (pe_str) (pa_cons (pe_str) (pa_cons (pe_str) (pa_cons (pe_str) (pa_cons (pe_str) (pa_cons (pe_str) (pa_cons (pe_str) pa_nil)))))))))) pa_nil))))
        (pe_slice sl_str (pv 1) (po_some (pe_op op_sub (pe_op op_add (pv 3) (pv 2)) pe_int)) po_none))))))))))), ?_⟩
    refine ⟨_, rfl, b, n, rfl, g, by omega, fun H1 z kp1 g1 wz => ?_⟩
    have z1 := wz.1
    have z7 := wz.2.1
    have small : ∀ {k : Nat}, k ≤ 100000 → k ≤ sizeLine := fun h => Nat.le_trans h (by decide)
    refine ⟨_, rfl, b, 9, _, rfl, by decide, by decide, g1, by omega, fun H2 way kp2 g2 w0 w9 => ⟨_, _, rfl, ?_⟩⟩
    have kp := kp1.trans kp2
    refine ⟨_, rfl, _, _, rfl, rfl, _, rfl, ite2 (fun _ => ⟨_, rfl, q _ _ kp (g2.mono (by omega)) (by omega)⟩) (fun _ => ?_)⟩
    refine ⟨_, rfl, rfl, _, rfl, ite2 (fun _ => ?_) (fun _ => ?_)⟩
    · refine ⟨_, rfl, rfl, fun H3 p s3 hp => ?_⟩
      have g3 := g2.same s3
      refine ⟨b, _, keywordsL.map V.str, _, rfl, its_tup g3 hp, (by decide +kernel), (by decide +kernel), g3, by omega, fun H4 x kp4 g4 hx => ?_⟩
      obtain ⟨y, rfl, ly⟩ := pick kw_short hx
      exact q _ _ ((kp.trans (.of s3)).trans kp4) (g4.mono (by omega)) (by omega)
    refine ⟨_, rfl, rfl, _, rfl, ite2 (fun _ => ?_) (fun _ => ?_)⟩
    · refine ⟨_, rfl, rfl, fun H3 p s3 hp => ?_⟩
      have g3 := g2.same s3
      refine ⟨b, _, keywordsL.map V.str, _, rfl, its_tup g3 hp, (by decide +kernel), (by decide +kernel), g3, by omega, fun H4 x kp4 g4 hx => ?_⟩
      obtain ⟨y, rfl, ly⟩ := pick kw_short hx
      refine ⟨_, rfl, _, rfl, y, rfl, small (by omega), _, rfl, (show 3 ≤ sizeLine by decide), fun p5 np5 => ?_⟩
      have s5 := same_upd (o := HO.lst ([Str.ofString "", Str.ofString "a", Str.ofString "ts"].map V.str)) np5
      refine ⟨b, _, [Str.ofString "", Str.ofString "a", Str.ofString "ts"].map V.str, _, rfl, its_new g4 np5, (by simp), (by decide), g4.same s5, by omega, fun H6 x kp6 g6 hx => ?_⟩
      obtain ⟨u, rfl, lu⟩ := pick (n := 2) (by unfold Short; decide +kernel) hx
      have lc := cutS_length y none (some (-1))
      refine ⟨_, _, rfl, rfl, small (by omega), q _ _ ((((kp.trans (.of s3)).trans kp4).trans (.of s5)).trans kp6) (g6.mono (by omega)) ?_⟩
      rw [len_app]
      omega
    refine ⟨_, rfl, rfl, _, rfl, ite2 (fun _ => ?_) (fun _ => ?_)⟩
    · refine ⟨_, rfl, z, 9, rfl, rfl, by decide, by decide, by omega, by omega, _, rfl, b, 2, _, rfl, by decide, by decide, g2, by omega, fun H3 r kp3 g3 _ _ => ?_⟩
      refine ⟨_, _, rfl, rfl, _, rfl, _, rfl, by rw [len_rep]; exact small (by omega), q _ _ (kp.trans kp3) (g3.mono (by omega)) ?_⟩
      have := cutS_length (txtRep z 9) none (some (8 + r))
      rw [len_rep] at this
      omega
    refine ⟨_, rfl, rfl, _, rfl, ite2 (fun _ => ?_) (fun _ => ?_)⟩
    · refine ⟨_, rfl, Str.ofString "a", 9000, rfl, rfl, by decide, by decide, by decide +kernel, by decide +kernel, (show 12 ≤ sizeLine by decide), fun p5 np5 => ?_⟩
      have s5 := same_upd (o := HO.lst ([Str.ofString "", Str.ofString " ", Str.ofString "A", Str.ofString "a b", Str.ofString "a.b", Str.ofString "ab1", Str.ofString "a_b", Str.ofString "\n", Str.ofString "`", Str.ofString "{", Str.ofString "Call", txtRep (Str.ofString "a") 9000].map V.str)) np5
      refine ⟨b, _, [Str.ofString "", Str.ofString " ", Str.ofString "A", Str.ofString "a b", Str.ofString "a.b", Str.ofString "ab1", Str.ofString "a_b", Str.ofString "\n", Str.ofString "`", Str.ofString "{", Str.ofString "Call", txtRep (Str.ofString "a") 9000].map V.str, _, rfl, its_new g2 np5, (by simp), (by simp), g2.same s5, by omega, fun H6 x kp6 g6 hx => ?_⟩
      have short : Short 9000 [Str.ofString "", Str.ofString " ", Str.ofString "A", Str.ofString "a b", Str.ofString "a.b", Str.ofString "ab1", Str.ofString "a_b", Str.ofString "\n", Str.ofString "`", Str.ofString "{", Str.ofString "Call", txtRep (Str.ofString "a") 9000] := fun u hu => by
        have h0 : Short 9000 [Str.ofString "", Str.ofString " ", Str.ofString "A", Str.ofString "a b", Str.ofString "a.b", Str.ofString "ab1", Str.ofString "a_b", Str.ofString "\n", Str.ofString "`", Str.ofString "{", Str.ofString "Call"] := by
          unfold Short
          decide +kernel
        rcases List.mem_append.mp (show u ∈ [Str.ofString "", Str.ofString " ", Str.ofString "A", Str.ofString "a b", Str.ofString "a.b", Str.ofString "ab1", Str.ofString "a_b", Str.ofString "\n", Str.ofString "`", Str.ofString "{", Str.ofString "Call"] ++ [txtRep (Str.ofString "a") 9000] from hu) with hu | hu
        · exact h0 u hu
        · rw [List.mem_singleton.mp hu, len_rep]
          decide +kernel
      obtain ⟨u, rfl, lu⟩ := pick short hx
      exact q _ _ ((kp.trans (.of s5)).trans kp6) (g6.mono (by omega)) (by omega)
    · refine ⟨_, rfl, _, rfl, z, rfl, small (by omega), b, _, _, rfl, by omega, by omega, g2, by omega, fun H3 sp kp3 g3 _ _ => ?_⟩
      refine ⟨_, rfl, _, rfl, _, rfl, z, rfl, small (by omega), _, rfl, (show 9 ≤ sizeLine by decide), fun p5 np5 => ?_⟩
      have s5 := same_upd (o := HO.lst ([Str.ofString "A", Str.ofString "0", Str.ofString "_", Str.ofString " ", Str.ofString "`", Str.ofString "{", Str.ofString "Z", Str.ofString "-", Str.ofString "."].map V.str)) np5
      refine ⟨b, _, [Str.ofString "A", Str.ofString "0", Str.ofString "_", Str.ofString " ", Str.ofString "`", Str.ofString "{", Str.ofString "Z", Str.ofString "-", Str.ofString "."].map V.str, _, rfl, its_new g3 np5, (by simp), (by decide), g3.same s5, by omega, fun H6 x kp6 g6 hx => ?_⟩
      obtain ⟨u, rfl, lu⟩ := pick (n := 2) (by unfold Short; decide +kernel) hx
      have l1 := cutS_length z none (some sp)
      have l2 := cutS_length z (some (sp + way - 7)) none
      refine ⟨_, _, rfl, rfl, small (by omega), _, rfl, _, rfl, _, rfl, _, _, rfl, rfl, _, _, rfl, rfl, _, rfl, z, rfl, small (by omega), _, _, rfl, rfl, ?_, q _ _ (((kp.trans kp3).trans (.of s5)).trans kp6) (g6.mono (by omega)) ?_⟩
      · rw [len_app]
        exact small (by omega)
      · rw [len_app, len_app]
        omega
theorem scNum : FnScope ["bag", "edge", "some"] ["bag"] (defScope s_L_number) := ⟨rfl, rfl, rfl, by decide +kernel, rfl, by decide +kernel, by decide +kernel⟩
def spNum : Sp := fun vs H Q _ => ∃ (b : Addr) (n : Nat), vs = [.ref b] ∧ Bag H b n ∧ n + 100 ≤ bagMost ∧ ∀ H' v, Keep b H H' → Bag H' b (n + 15) → isNum v = true → Q v H'
theorem ok_num {f : Addr} {fd : FuncData} (F : Fun K "_law_number" "_law_number" s_L_number f fd) (cR : Cal P w K mg base 1 "_law_roll" spRoll) (cO : Cal P w K mg base 2 "_law_one" (spOne K)) : FnOk P w K mg base CX0 3 f fd ["bag"] spNum := by
  refine F.ok scNum (fun vs H Q E h => ?_) (fun cdv A outer s H vs Q E hr h => ?_)
  · obtain ⟨b, n, rfl, _⟩ := h
    rfl
  · obtain ⟨b, n, rfl, g, nm, q⟩ := h
    refine ⟨_, (pss_cons (ps_set (i := 1) scNum.nd rfl (.inl rfl) (pe_op op_sub (pe_op op_pow pe_int pe_int) pe_int))
      (pss_cons (ps_set (i := 2) scNum.nd rfl (.inl rfl) (pe_lst (pa_cons (pe_int) (pa_cons (pe_int) (pa_cons (pe_un un_neg pe_int) (pa_cons (pv 1) (pa_cons (pe_un un_neg (pv 1)) (pa_cons (pe_op op_add (pv 1) pe_int) (pa_cons (pe_op op_sub (pe_op op_sub pe_int (pv 1)) pe_int) (pa_cons (pe_op op_pow pe_int pe_int) (pa_cons (pe_bl) (pa_cons (pe_bl) (pa_cons (C8.pe_c cR hr (by omega) (by rfl) (pa_cons (pv 0) (pa_cons (pe_op op_pow pe_int pe_int) pa_nil))) (pa_cons (pe_op op_pow pe_int pe_int) pa_nil))))))))))))))
      (pss_one (ps_ret (C8.pe_c cO hr (by omega) (by rfl) (pa_cons (pv 0) (pa_cons (pv 2) pa_nil))))))), ?_⟩
    refine ⟨10, 60, rfl, rfl, ⟨by decide, by decide, by decide⟩, _, _, rfl, rfl, ?_⟩
    generalize ((10 : Int) ^ (60 : Int).toNat - 1) = edge
    refine ⟨_, rfl, _, rfl, _, rfl, _, rfl, _, rfl, _, _, rfl, rfl, _, rfl, _, _, rfl, rfl, _, _, rfl, rfl, 10, 64, rfl, rfl, ⟨by decide, by decide, by decide⟩, ?_⟩
    refine ⟨_, rfl, 10, 9, rfl, rfl, ⟨by decide, by decide, by decide⟩, b, _, _, rfl, by decide +kernel, by decide +kernel, g, by omega, fun H1 r kp1 g1 _ _ => ?_⟩
    refine ⟨10, 59, rfl, rfl, ⟨by decide, by decide, by decide⟩, (show 12 ≤ sizeLine by decide), fun p np => ?_⟩
    refine ⟨_, rfl, _, rfl, b, _, _, _, rfl, its_new g1 np, by simp, by simp, g1.new np, by omega, fun H2 x kp2 g2 hx => ?_⟩
    refine q _ _ ((kp1.trans (keep_new np)).trans kp2) (g2.mono (by omega)) ?_
    simp only [List.mem_cons, List.not_mem_nil, or_false] at hx
    rcases hx with rfl | rfl | rfl | rfl | rfl | rfl | rfl | rfl | rfl | rfl | rfl | rfl <;> rfl
/-! ### _law_thing -/
/-- all but what lies at b -/
def hide (b : Addr) (H : Hp) : Hp := fun a => if a = b then none else H a
theorem hide_at {b a : Addr} {H : Hp} (n : a ≠ b) : hide b H a = H a := if_neg n
theorem hide_keep {b : Addr} {H H' : Hp} (k : Keep b H H') : Same (hide b H) (hide b H') := fun a o e => by
  by_cases n : a = b
  · subst n
    unfold hide at e
    rw [if_pos rfl] at e
    cases e
  · rw [hide_at n] at e ⊢
    exact k a o n e
theorem hide_same {b : Addr} {H : Hp} : Same (hide b H) H := fun a o e => by
  by_cases n : a = b
  · subst n
    unfold hide at e
    rw [if_pos rfl] at e
    cases e
  · rw [hide_at n] at e
    exact e
theorem hide_upd {b D : Addr} {H : Hp} {o : HO} (n : D ≠ b) : hide b (L2.upd H D o) = L2.upd (hide b H) D o := by
  funext a
  by_cases e : a = D
  · subst e
    rw [hide_at n, upd_same, upd_same]
  · rw [upd_ne e]
    by_cases m : a = b
    · subst m
      unfold hide
      rw [if_pos rfl, if_pos rfl]
    · rw [hide_at m, hide_at m, upd_ne e]
/-- a value, and what a tuple has in it -/
def Vl (L : Nat) (H : Hp) (v : V) : Prop := Dat H v ∧ ∀ a xs, v = .ref a → H a = some (.tup xs) → xs.length ≤ L ∧ ∀ x ∈ xs, Dat H x
theorem Vl.same {L : Nat} {H H' : Hp} {v : V} (h : Vl L H v) (k : Same H H') : Vl L H' v := by
  refine ⟨h.1.same k, fun a xs e1 e2 => ?_⟩
  subst e1
  rcases h.1 with ⟨ys, e⟩ | ⟨ys, e⟩ | ⟨ys, e⟩
  · rw [k _ _ e] at e2
    cases e2
  · have e3 := k _ _ e
    rw [e2] at e3
    cases e3
    exact ⟨(h.2 a _ rfl e).1, fun x hx => ((h.2 a _ rfl e).2 x hx).same k⟩
  · rw [k _ _ e] at e2
    cases e2
theorem vl_flat {L : Nat} {H : Hp} {v : V} (d : Dat H v) (h : ∀ a, v ≠ .ref a) : Vl L H v := ⟨d, fun a _ e => absurd e (h a)⟩
theorem vl_str {L : Nat} {H : Hp} {z : Str} (h : z.length ≤ 100000) : Vl L H (.str z) := vl_flat h fun _ e => nomatch e
theorem vl_num {L : Nat} {H : Hp} {v : V} (h : isNum v = true) : Vl L H v := by
  cases v with
  | bl c => exact vl_flat True.intro fun _ e => nomatch e
  | int c => exact vl_flat True.intro fun _ e => nomatch e
  | _ => exact absurd h Bool.false_ne_true
theorem vl_lst {L : Nat} {H : Hp} {a : Addr} {xs : List V} (e : H a = some (.lst xs)) : Vl L H (.ref a) := ⟨.inl ⟨xs, e⟩, fun a' ys e1 e2 => by
  cases e1
  rw [e] at e2
  cases e2⟩
theorem vl_dk {L : Nat} {H : Hp} {a : Addr} {xs : List (Key × V)} (e : H a = some (.dK xs)) : Vl L H (.ref a) := ⟨.inr (.inr ⟨xs, e⟩), fun a' ys e1 e2 => by
  cases e1
  rw [e] at e2
  cases e2⟩
theorem vl_tup {L : Nat} {H : Hp} {a : Addr} {xs : List V} (e : H a = some (.tup xs)) (l : xs.length ≤ L) (h : ∀ x ∈ xs, Dat H x) : Vl L H (.ref a) := ⟨.inr (.inl ⟨xs, e⟩), fun a' ys e1 e2 => by
  cases e1
  rw [e] at e2
  cases e2
  exact ⟨l, h⟩⟩
theorem dat_put {H : Hp} {D : Addr} {ys zs : List V} {x : V} (hD : H D = some (.lst ys)) (d : Dat H x) : Dat (L2.upd H D (.lst zs)) x := by
  cases x with
  | ref a =>
    by_cases e : a = D
    · subst e
      exact .inl ⟨zs, upd_same⟩
    · have f := upd_ne (H := H) (o := HO.lst zs) e
      rcases d with ⟨xs, h⟩ | ⟨xs, h⟩ | ⟨xs, h⟩
      · exact .inl ⟨xs, f.trans h⟩
      · exact .inr (.inl ⟨xs, f.trans h⟩)
      · exact .inr (.inr ⟨xs, f.trans h⟩)
  | _ => exact d
def cost (k : Nat) : Nat := 1000 * 10 ^ k
theorem cost_pos (k : Nat) : 1000 ≤ cost k := Nat.le_mul_of_pos_right _ (Nat.pow_pos (by decide))
theorem cost_next (k : Nat) : cost (k + 1) = 10 * cost k := by
  unfold cost
  rw [Nat.pow_succ]
  omega
/-- the call with room k - 1 -/
def spT : Nat → Sp
  | 0 => fun _ _ _ _ => False
  | k + 1 => fun vs H Q _ => ∃ (b : Addr) (n : Nat), vs = [.ref b, .int (k : Int)] ∧ Bag H b n ∧ n + cost k ≤ bagMost ∧ ∀ H' v, Keep b H H' → Bag H' b (n + cost k) → Vl 10 (hide b H') v → Q v H'
theorem scThing : FnScope ["bag", "room", "way", "items", "turn"] ["bag", "room"] (defScope s_L_thing) := ⟨rfl, rfl, rfl, by decide +kernel, rfl, by decide +kernel, by decide +kernel⟩
theorem ok_thing0 {f : Addr} {fd : FuncData} (F : Fun K "_law_thing" "_law_thing" s_L_thing f fd) : FnOk P w K mg base CX0 5 f fd ["bag", "room"] (spT 0) :=
  F.ok scThing (fun vs H Q E h => h.elim) (fun cdv A outer s H vs Q E hr h => h.elim)
theorem ok_thing {f : Addr} {fd : FuncData} {k m : Nat} (hm : 5 ≤ m) (F : Fun K "_law_thing" "_law_thing" s_L_thing f fd) (mT : mg "tuple" = none) (mr : mg "range" = none) (c : Cal P w K mg base m "_law_thing" (spT k)) (cR : Cal P w K mg base 1 "_law_roll" spRoll)
    (cO : Cal P w K mg base 2 "_law_one" (spOne K)) (cX : Cal P w K mg base 4 "_law_text" spText) (cU : Cal P w K mg base 3 "_law_number" spNum) (cNs : Cal P w K mg base 4 "_law_names" spNames) :
    FnOk P w K mg base CX0 (m + 1) f fd ["bag", "room"] (spT (k + 1)) := by
  refine F.ok scThing (fun vs H Q E h => ?_) (fun cdv A outer s H vs Q E hr h => ?_)
  · obtain ⟨b, n, rfl, _⟩ := h
    rfl
  · obtain ⟨b, n, rfl, g, nm, q⟩ := h
    refine ⟨_, (pss_cons (ps_set (i := 2) scThing.nd rfl (.inl rfl) (C8.pe_c cR hr (by omega) (by rfl) (pa_cons (pv 0) (pa_cons (pe_int) pa_nil))))
      (pss_cons (ps_if (PW.pt (pw_or (pt_cmpR op_lt (pv 2) pe_int (nomark _)) (pw_or1 (pt_cmpR op_eq (pv 1) pe_int (nomark _)))))
        (pss_one (ps_ret (pe_ifExp (pt_cmpR op_ne (pv 2) pe_int (nomark _)) (C8.pe_c cX hr (by omega) (by rfl) (pa_cons (pv 0) pa_nil)) (C8.pe_c cU hr (by omega) (by rfl) (pa_cons (pv 0) pa_nil))))) pss_nil)
      (pss_cons (ps_if (pt_cmpR op_eq (pv 2) pe_int (nomark _)) (pss_one (ps_ret (C8.pe_c cO hr (by omega) (by rfl) (pa_cons (pv 0) (pa_cons (pe_lst (pa_cons (pe_non) (pa_cons (pe_dnewK) (pa_cons (pe_disp (pps_cons pe_str pe_str pps_nil) rfl rfl (by simp) (by decide)) (pa_cons (pe_lst pa_nil) (pa_cons (pe_tup pa_nil) (pa_cons (pe_tup (pa_cons (pe_str) pa_nil)) (pa_cons (pe_lst (pa_cons (pe_lst (pa_cons (pe_str) pa_nil)) pa_nil)) (pa_cons (pe_tup (pa_cons (pe_tup (pa_cons (pe_str) pa_nil)) pa_nil)) pa_nil))))))))) pa_nil))))) pss_nil)
      (pss_cons (ps_if (pt_cmpR op_lt (pv 2) pe_int (nomark _)) (pss_one (ps_ret (pe_callTy call_tuple_of (by rfl) mT (by decide +kernel) (pa_cons (C8.pe_c cNs hr (by omega) (by rfl) (pa_cons (pv 0) (pa_cons (pe_op op_add pe_int (C8.pe_c cR hr (by omega) (by rfl) (pa_cons (pv 0) (pa_cons (pe_int) pa_nil)))) pa_nil))) pa_nil)))) pss_nil)
      (pss_cons (ps_setLc (i := 3) (own := [("turn", 4)]) (g := gName 4) (tt := tYes) rfl scThing.nd rfl rfl (sw_true rfl rfl rfl (by decide +kernel)) (pi_range1 (by rfl) mr (pa_cons (C8.pe_c cR hr (by omega) (by rfl) (pa_cons (pv 0) (pa_cons (pe_int) pa_nil))) pa_nil))
        (blkOk_by (N := ["bag", "room", "way", "items", "turn"]) (sc := defScope s_L_thing) (by decide +kernel)) (fun _ _ _ _ _ => pg_name (i := 4) scThing.nd rfl (Or.inl rfl)) (fun _ _ _ _ _ => pts_nil)
        (fun _ _ _ _ _ => C8.pe_c c hr (by omega) (by rfl) (pa_cons (pv 0) (pa_cons (pe_op op_sub (pv 1) pe_int) pa_nil))))
      (pss_one (ps_ret (pe_ifExp (pt_cmpR op_eq (pv 2) pe_int (nomark _)) (pe_callTy call_tuple_of (by rfl) mT (by decide +kernel) (pa_cons (pv 3) pa_nil)) (pv 3))))))))), ?_⟩
    have cp := cost_pos k
    have zN : ∀ {z : Str}, isName z = true → z.length ≤ 100000 := fun h => Nat.le_trans (name_size h).2 (by decide)
    refine ⟨_, rfl, b, 8, n, rfl, by decide, by decide, g, by omega, fun H1 way kp1 g1 w0 w8 => ?_⟩
    refine ⟨_, rfl, _, _, rfl, rfl, _, rfl, ?_⟩
    by_cases h3 : way < 3
    · rw [decide_eq_true h3]
      refine iteT ?_
      refine ⟨_, rfl, rfl, _, rfl, ite2 (fun _ => ?_) (fun _ => ?_)⟩
      · exact ⟨_, rfl, b, _, rfl, g1, by omega, fun H2 z kp2 g2 lz => q _ _ (kp1.trans kp2) (g2.mono (by omega)) (vl_str lz)⟩
      · exact ⟨_, rfl, b, _, rfl, g1, by omega, fun H2 v kp2 g2 hv => q _ _ (kp1.trans kp2) (g2.mono (by omega)) (vl_num hv)⟩
    rw [decide_eq_false h3]
    refine iteF ⟨_, rfl, rfl, _, rfl, ?_⟩
    by_cases h0 : k = 0
    · rw [decide_eq_true (show V.int (k : Int) = V.int 0 by rw [h0]; rfl)]
      refine iteT ?_
      refine ⟨_, rfl, rfl, _, rfl, ite2 (fun _ => ?_) (fun _ => ?_)⟩
      · exact ⟨_, rfl, b, _, rfl, g1, by omega, fun H2 z kp2 g2 lz => q _ _ (kp1.trans kp2) (g2.mono (by omega)) (vl_str lz)⟩
      · exact ⟨_, rfl, b, _, rfl, g1, by omega, fun H2 v kp2 g2 hv => q _ _ (kp1.trans kp2) (g2.mono (by omega)) (vl_num hv)⟩
    rw [decide_eq_false (show ¬ V.int (k : Int) = V.int 0 from fun e => h0 (by
      have := V.int.inj e
      omega))]
    refine iteF ⟨_, rfl, rfl, _, rfl, ite2 (fun _ => ?_) (fun _ => ?_)⟩
    · refine ⟨_, rfl, fun p1 np1 => fun p2 np2 => ⟨upd_same, [(Sum.inr (Str.ofString "a"), .str (Str.ofString "b"))], rfl, by decide, Nat.zero_le _, fun p3 np3 => ⟨Nat.zero_le _, fun p4 np4 => ⟨(show 1 ≤ sizeLine by decide), fun p5 np5 =>
        ⟨(show 1 ≤ sizeLine by decide), fun p6 np6 => ⟨(show 1 ≤ sizeLine by decide), fun p7 np7 => ⟨(show 1 ≤ sizeLine by decide), fun p8 np8 => ⟨(show 1 ≤ sizeLine by decide), fun p9 np9 => ⟨(show 8 ≤ sizeLine by decide), fun p np => ?_⟩⟩⟩⟩⟩⟩⟩⟩⟩
      have s1 := same_upd (o := HO.dK []) np1
      have s2 := same_put (o := HO.dK (mergeK [] [(Sum.inr (Str.ofString "a"), .str (Str.ofString "b"))])) (same_upd (o := HO.dK []) np2) np2
      have s3 := same_upd (o := HO.lst []) np3
      have s4 := same_upd (o := HO.tup []) np4
      have s5 := same_upd (o := HO.tup [V.str (Str.ofString "")]) np5
      have s6 := same_upd (o := HO.lst [V.str (Str.ofString "a")]) np6
      have s7 := same_upd (o := HO.lst [V.ref p6]) np7
      have s8 := same_upd (o := HO.tup [V.str (Str.ofString "a")]) np8
      have s9 := same_upd (o := HO.tup [V.ref p8]) np9
      have s10 := same_upd (o := HO.lst [V.non, V.ref p1, V.ref p2, V.ref p3, V.ref p4, V.ref p5, V.ref p7, V.ref p9]) np
      have b1 := g1.ne np1
      have g2 := g1.same s1
      have b2 := g2.ne np2
      have g3 := g2.same s2
      have b3 := g3.ne np3
      have g4 := g3.same s3
      have b4 := g4.ne np4
      have g5 := g4.same s4
      have b5 := g5.ne np5
      have g6 := g5.same s5
      have g7 := g6.same s6
      have b7 := g7.ne np7
      have g8 := g7.same s7
      have b8 := g8.ne np8
      have g9 := g8.same s8
      have b9 := g9.ne np9
      have g10 := g9.same s9
      have t8 := s9.trans s10
      have t7 := s8.trans t8
      have t6 := s7.trans t7
      have t5 := s6.trans t6
      have t4 := s5.trans t5
      have t3 := s4.trans t4
      have t2 := s3.trans t3
      have t1 := s2.trans t2
      have all := s1.trans t1
      have e1 := t1 _ _ (upd_same (H := H1) (a := p1) (o := HO.dK []))
      have e2 := t2 p2 _ upd_same
      have e3 := t3 p3 _ upd_same
      have e4 := t4 p4 _ upd_same
      have e5 := t5 p5 _ upd_same
      have e7 := t7 p7 _ upd_same
      have e8 := t8 p8 _ upd_same
      have e9 := s10 p9 _ upd_same
      refine ⟨b, _, _, _, rfl, its_new g10 np, by simp, by simp, g10.same s10, by omega, fun H2 x kp2 gg hx => ?_⟩
      have hk := hide_keep kp2
      refine q _ _ ((kp1.trans (.of all)).trans kp2) (gg.mono (by omega)) (Vl.same ?_ hk)
      simp only [List.mem_cons, List.not_mem_nil, or_false] at hx
      rcases hx with rfl | rfl | rfl | rfl | rfl | rfl | rfl | rfl
      · exact vl_flat True.intro fun _ e => nomatch e
      · exact vl_dk ((hide_at b1.symm).trans e1)
      · exact vl_dk ((hide_at b2.symm).trans e2)
      · exact vl_lst ((hide_at b3.symm).trans e3)
      · exact vl_tup ((hide_at b4.symm).trans e4) (by decide) (fun _ h => nomatch h)
      · refine vl_tup ((hide_at b5.symm).trans e5) (by decide) (fun y hy => ?_)
        rw [List.mem_singleton.mp hy]
        exact (show 0 ≤ 100000 by decide)
      · exact vl_lst ((hide_at b7.symm).trans e7)
      · refine vl_tup ((hide_at b9.symm).trans e9) (show 1 ≤ 10 by decide) (fun y hy => ?_)
        rw [List.mem_singleton.mp hy]
        exact .inr (.inl ⟨_, (hide_at b8.symm).trans e8⟩)
    refine ⟨_, rfl, _, _, rfl, rfl, _, rfl, ite2 (fun _ => ?_) (fun _ => ?_)⟩
    · refine ⟨_, rfl, _, rfl, b, 6, _, rfl, by decide, by decide, g1, by omega, fun H2 r kp2 g2 r0 r6 => ⟨_, _, rfl, rfl, ?_⟩⟩
      obtain ⟨rr, rfl⟩ : ∃ k : Nat, r = (k : Int) := ⟨r.toNat, by omega⟩
      have e : (1 + (rr : Int)) = ((1 + rr : Nat) : Int) := by omega
      refine ⟨b, 1 + rr, _, (by show [V.ref b, V.int (1 + (rr : Int))] = _; rw [e]), by omega, g2, by omega, fun H3 p zs kp3 np g3 hp zl zok => ?_⟩
      refine ⟨p, _, rfl, .inl ⟨.inl (.inl hp), fun t nt => ?_⟩⟩
      have s4 := same_upd (o := HO.tup (zs.map V.str)) nt
      refine q _ _ (((kp1.trans kp2).trans kp3).trans (.of s4)) ((g3.same s4).mono (by omega)) (vl_tup ((hide_at (g3.ne nt).symm).trans upd_same) (by rw [List.length_map]; omega) fun x hx => ?_)
      obtain ⟨z, hz, rfl⟩ := List.mem_map.mp hx
      exact zN (zok.names hz)
    · obtain ⟨k', rfl⟩ : ∃ k', k = k' + 1 := ⟨k - 1, by omega⟩
      have cn := cost_next k'
      have cp' := cost_pos k'
      refine ⟨_, rfl, b, 5, _, rfl, by decide, by decide, g1, by omega, fun H2 r kp2 g2 r0 r5 => ⟨_, rfl, by omega, by omega, fun D nD => ?_⟩⟩
      have Db : b ≠ D := g2.ne nD
      have sub : V.int (((k' + 1 : Nat) : Int) - 1) = V.int (k' : Int) := by
        congr 1
        omega
      refine lc_range (n := r.toNat) (fun i H' => ∃ xs : List V, xs.length = i ∧ H' D = some (.lst xs) ∧ (∀ x ∈ xs, Dat (hide b H') x) ∧ Keep b H2 H' ∧ Bag H' b (n + 2 + i * cost k'))
        ⟨[], rfl, upd_same, (fun _ h => nomatch h), keep_new nD, (g2.new nD).mono (by omega)⟩ (fun i H' hi hP => ?_) (fun H' hP => ?_)
      · obtain ⟨xs, el, hD, hx, kp, g'⟩ := hP
        have most : i * cost k' ≤ 4 * cost k' := Nat.mul_le_mul_right _ (by omega)
        have next : (i + 1) * cost k' = i * cost k' + cost k' := Nat.succ_mul i (cost k')
        refine ⟨rfl, _, rfl, _, rfl, _, _, rfl, rfl, b, _, (by show [V.ref b, V.int (((k' + 1 : Nat) : Int) - 1)] = _; rw [sub]), g', by omega, fun H5 v kp5 g5 vl => ?_⟩
        have hD5 := kp5 _ _ Db.symm hD
        have hD5h : hide b H5 D = some (.lst xs) := (hide_at Db.symm).trans hD5
        refine ⟨xs, hD5, by rw [el, sizeLine_eq]; omega, xs ++ [v], by rw [List.length_append, el]; rfl, upd_same, fun u hu => ?_, keep_put (kp.trans kp5) nD, (g5.put Db).mono (by omega)⟩
        rw [hide_upd Db.symm]
        rcases List.mem_append.mp hu with hu | hu
        · exact dat_put hD5h ((hx u hu).same (hide_keep kp5))
        · rw [List.mem_singleton] at hu
          subst hu
          exact dat_put hD5h vl.1
      · obtain ⟨xs, el, hD, hx, kp, g'⟩ := hP
        have most : r.toNat * cost k' ≤ 4 * cost k' := Nat.mul_le_mul_right _ (by omega)
        have kps := (kp1.trans kp2).trans kp
        refine ⟨_, rfl, rfl, _, rfl, ite2 (fun _ => ?_) (fun _ => ?_)⟩
        · refine ⟨_, rfl, D, _, rfl, .inl ⟨.inl (.inl hD), fun t nt => ?_⟩⟩
          have s4 := same_upd (o := HO.tup xs) nt
          refine q _ _ (kps.trans (.of s4)) ((g'.same s4).mono (by omega)) (vl_tup ((hide_at (g'.ne nt).symm).trans upd_same) (by omega) fun x hx' => (hx x hx').same (hide_keep (.of s4)))
        · exact ⟨_, rfl, q _ _ kps (g'.mono (by omega)) (vl_lst ((hide_at Db.symm).trans hD))⟩
/-! ### _law_spoiled -/
theorem hide_get {b a : Addr} {H : Hp} {o : HO} (e : hide b H a = some o) : a ≠ b ∧ H a = some o := by
  by_cases n : a = b
  · subst n
    unfold hide at e
    rw [if_pos rfl] at e
    cases e
  · rw [hide_at n] at e
    exact ⟨n, e⟩
theorem cutV_sub (xs : List V) (lo hi : Option Int) : (∀ x ∈ cutV xs lo hi, x ∈ xs) ∧ (cutV xs lo hi).length ≤ xs.length := by
  unfold cutV
  refine ⟨fun x hx => List.mem_of_mem_drop (List.mem_of_mem_take hx), ?_⟩
  rw [List.length_take, List.length_drop]
  omega
section
variable {X : Cx}
/-- t[lo:hi], the place of it left open -/
def rSlU (K : PySem.W.Frag) : V → Option Int → Option Int → Hp → VK → Prop := fun x lo hi H Q => ∃ a xs, x = .ref a ∧ H a = some (.tup xs) ∧ ∀ c H', Same H H' → H' c = some (.tup (cutV xs lo hi)) → Q (.ref c) H'
theorem sl_tupU : SlR X (rSlU X.K) := by
  intro pins s σ H x v vl vu lo hi sl Q I rx hs pl pu h
  obtain ⟨a, xs, rfl, hx, q⟩ := h
  refine sl_tupA pins s σ H _ v vl vu lo hi sl Q I rx hs pl pu ⟨a, xs, rfl, .inl (.inl hx), fun hw => q a H (.refl H) ?_, fun _ p np => q p _ (same_upd np) upd_same⟩
  have e : cutV xs lo hi = xs := by
    unfold cutV
    rw [hw.1, hw.2, List.drop_zero, Nat.sub_zero, List.take_length]
  rw [e]
  exact hx
/-- t + u, the place of it left open -/
def rCatU (K : PySem.W.Frag) : R2 := fun x y H Q => ∃ a b xs ys, x = .ref a ∧ y = .ref b ∧ H a = some (.tup xs) ∧ H b = some (.tup ys) ∧ xs.length + ys.length ≤ sizeLine ∧ ∀ c H', Same H H' → H' c = some (.tup (xs ++ ys)) → Q (.ref c) H'
theorem op_catU : OpR X (binaryOp .Add) (rCatU X.K) := by
  intro pins s σ H x y v u Q I rx ry h
  obtain ⟨a, b, xs, ys, rfl, rfl, ha, hb, hz, q⟩ := h
  refine op_catA pins s σ H _ _ v u Q I rx ry ⟨a, b, xs, ys, rfl, rfl, .inl (.inl ha), .inl (.inl hb), hz, fun e => ?_, fun _ e => ?_, fun _ _ p np => q p _ (same_upd np) upd_same⟩
  · subst e
    exact q b H (.refl H) hb
  · subst e
    exact q a H (.refl H) (by rw [List.append_nil]; exact ha)
end
theorem scSpoil : FnScope ["bag", "value", "spot", "way"] ["bag", "value"] (defScope s_L_spoiled) := ⟨rfl, rfl, rfl, by decide +kernel, rfl, by decide +kernel, by decide +kernel⟩
def spSpoil : Sp := fun vs H Q _ => ∃ (b : Addr) (v : V) (n : Nat), vs = [.ref b, v] ∧ Bag H b n ∧ n + 20000 ≤ bagMost ∧ Vl 10 (hide b H) v ∧ ∀ H' v', Keep b H H' → Bag H' b (n + 10002) → Vl 30 (hide b H') v' → Q v' H'
theorem Vl.mono {L M : Nat} {H : Hp} {v : V} (h : Vl L H v) (l : L ≤ M) : Vl M H v := ⟨h.1, fun a xs e1 e2 => ⟨Nat.le_trans (h.2 a xs e1 e2).1 l, (h.2 a xs e1 e2).2⟩⟩
theorem ok_spoil {f : Addr} {fd : FuncData} (F : Fun K "_law_spoiled" "_law_spoiled" s_L_spoiled f fd) (mI : mg "isinstance" = none) (mT : mg "tuple" = none) (mL : mg "len" = none) (cR : Cal P w K mg base 1 "_law_roll" spRoll)
    (cT : Cal P w K mg base 7 "_law_thing" (spT 2)) : FnOk P w K mg base CX0 8 f fd ["bag", "value"] spSpoil := by
  refine F.ok scSpoil (fun vs H Q E h => ?_) (fun cdv A outer s H vs Q E hr h => ?_)
  · obtain ⟨b, v, n, rfl, _⟩ := h
    rfl
  · obtain ⟨b, v, n, rfl, g, nm, vl, q⟩ := h
    refine ⟨_, (pss_cons (ps_if (PW.pt (pw_or (pt_not (pt_val (pe_callB call_isi (by rfl) mI (by decide +kernel) (pa_cons (pv 1) (pa_cons (pe_bltn (by rfl) mT (by decide +kernel) (v := .ty "tuple") rfl) pa_nil))))) (pw_or1 (pt_cmpR (op_eqNilT (roomN hr)) (pv 1) (pe_tup pa_nil) (nomark _)))))
        (pss_one (ps_ret (pv 1))) pss_nil)
      (pss_cons (ps_par (i := 2) (j := 3) rfl scSpoil.nd rfl rfl (by decide) rfl rfl (pa_cons (C8.pe_c cR hr (by omega) (by rfl) (pa_cons (pv 0) (pa_cons (pe_callB call_len_seq (by rfl) mL PySem.boot_len (pa_cons (pv 1) pa_nil)) pa_nil))) (pa_cons (C8.pe_c cR hr (by omega) (by rfl) (pa_cons (pv 0) (pa_cons (pe_int) pa_nil))) pa_nil)) rfl)
      (pss_cons (ps_if (pt_cmpR op_eq (pv 3) pe_int (nomark _)) (pss_one (ps_ret (pe_op op_catU (pe_op op_catU (pe_slice sl_tupU (pv 1) po_none (po_some (pv 2))) (pe_tup (pa_cons (C8.pe_c cT hr (by omega) (by rfl) (pa_cons (pv 0) (pa_cons (pe_int) pa_nil))) pa_nil))) (pe_slice sl_tupU (pv 1) (po_some (pe_op op_add (pv 2) pe_int)) po_none)))) pss_nil)
      (pss_cons (ps_if (pt_cmpR op_eq (pv 3) pe_int (nomark _)) (pss_one (ps_ret (pe_op op_catU (pv 1) (pe_tup (pa_cons (pe_ix ix_tup (pv 1) (pv 2) (fun _ _ => rfl)) pa_nil))))) pss_nil)
      (pss_one (ps_ret (pe_ifExp (pt_cmpR op_eq (pv 3) pe_int (nomark _)) (pe_op op_catU (pe_slice sl_tupU (pv 1) po_none (po_some (pv 2))) (pe_slice sl_tupU (pv 1) (po_some (pe_op op_add (pv 2) pe_int)) po_none)) (pv 1)))))))), ?_⟩
    have d := vl.1.same hide_same
    have small : ∀ {k : Nat}, k ≤ 1000 → k ≤ sizeLine := fun h => Nat.le_trans h (by decide)
    by_cases hs : ∃ a xs, v = .ref a ∧ H a = some (.tup xs)
    · obtain ⟨a, xs, rfl, ha⟩ := hs
      have nab := g.tup ha
      obtain ⟨lx, dx⟩ := vl.2 a xs rfl ((hide_at nab).trans ha)
      refine ⟨_, rfl, .ref a, .ty "tuple", _, _, true, rfl, .ty _, .base (.tup ha), kit_ty (by decide +kernel), true, rfl, ?_⟩
      refine ⟨_, rfl, Nat.zero_le _, fun p1 np1 => ?_⟩
      have s1 := same_upd (o := HO.tup []) np1
      refine ⟨a, p1, xs, rfl, rfl, .inl (.inl (s1 _ _ ha)), .inl (.inl upd_same), _, rfl, ?_⟩
      have g1 := g.same s1
      cases xs with
      | nil => exact iteT ⟨_, rfl, q _ _ (.of s1) (g1.mono (by omega)) ((vl.same (hide_keep (.of s1))).mono (by decide))⟩
      | cons x0 r0 =>
        refine iteF ?_
        generalize hxs : x0 :: r0 = xs at ha lx dx
        have pos : 1 ≤ xs.length := by
          rw [← hxs]
          exact Nat.le_add_left _ _
        clear hxs
        refine ⟨_, rfl, _, rfl, a, xs, rfl, .inr (.inl (.inl (s1 _ _ ha))), b, _, _, rfl, by omega, by omega, g1, by omega, fun H2 sp kp2 g2 sp0 sp1 => ?_⟩
        refine ⟨_, rfl, b, 5, _, rfl, by decide, by decide, g2, by omega, fun H3 way kp3 g3 _ _ => ⟨_, _, rfl, ?_⟩⟩
        have kp : Keep b H H3 := (Keep.of s1).trans (kp2.trans kp3)
        have ha3 := kp _ _ nab ha
        have dat : ∀ {H' : Hp}, Keep b H H' → ∀ x ∈ xs, Dat (hide b H') x := fun k x hx => (dx x hx).same (hide_keep k)
        refine ⟨_, rfl, rfl, _, rfl, ite2 (fun _ => ?_) (fun _ => ?_)⟩
        · refine ⟨_, rfl, _, rfl, _, rfl, a, xs, rfl, ha3, fun c1 H4 s4 h4 => ?_⟩
          have g4 := g3.same s4
          obtain ⟨i1, l1⟩ := cutV_sub xs none (some sp)
          refine ⟨_, rfl, b, _, rfl, g4, by show _ + 10000 ≤ _; omega, fun H5 v5 kp5 g5 vl5 => ⟨(show 1 ≤ sizeLine by decide), fun p6 np6 => ?_⟩⟩
          have s6 := same_upd (o := HO.tup [v5]) np6
          have h5 := s6 _ _ (kp5 _ _ (g4.tup h4) h4)
          refine ⟨c1, p6, _, _, rfl, rfl, h5, upd_same, small (by simp only [List.length_singleton]; omega), fun c7 H7 s7 h7 => ?_⟩
          have kp7 := (((kp.trans (.of s4)).trans kp5).trans (.of s6)).trans (.of s7)
          refine ⟨_, rfl, _, rfl, _, _, rfl, rfl, _, rfl, a, xs, rfl, kp7 _ _ nab ha, fun c8 H8 s8 h8 => ?_⟩
          obtain ⟨i2, l2⟩ := cutV_sub xs (some (sp + 1)) none
          refine ⟨c7, c8, _, _, rfl, rfl, s8 _ _ h7, h8, small (by rw [List.length_append, List.length_singleton]; omega), fun c9 H9 s9 h9 => ?_⟩
          have g9 := (((g5.same s6).same s7).same s8).same s9
          have kp9 := (kp7.trans (.of s8)).trans (.of s9)
          have k59 : Keep b H5 H9 := (((Keep.of s6).trans (.of s7)).trans (.of s8)).trans (.of s9)
          refine q _ _ kp9 (g9.mono (by show _ + 10000 ≤ _; omega)) (vl_tup ((hide_at (g9.tup h9)).trans h9) (by rw [List.length_append, List.length_append, List.length_singleton]; omega) fun x hx => ?_)
          rcases List.mem_append.mp hx with hx | hx
          · rcases List.mem_append.mp hx with hx | hx
            · exact dat kp9 x (i1 x hx)
            · rw [List.mem_singleton.mp hx]
              exact vl5.1.same (hide_keep k59)
          · exact dat kp9 x (i2 x hx)
        refine ⟨_, rfl, rfl, _, rfl, ite2 (fun _ => ?_) (fun _ => ?_)⟩
        · obtain ⟨j, rfl⟩ : ∃ j : Nat, sp = (j : Int) := ⟨sp.toNat, by omega⟩
          have hj : j < xs.length := by omega
          refine ⟨_, rfl, _, rfl, _, rfl, a, xs, (j : Int), xs[j], rfl, rfl, .inl (.inl ha3), atI_nat (List.getElem?_eq_getElem hj), (show 1 ≤ sizeLine by decide), fun p6 np6 => ?_⟩
          have s6 := same_upd (o := HO.tup [xs[j]]) np6
          refine ⟨a, p6, _, _, rfl, rfl, s6 _ _ ha3, upd_same, small (by simp only [List.length_singleton]; omega), fun c7 H7 s7 h7 => ?_⟩
          have kp7 := (kp.trans (.of s6)).trans (.of s7)
          have g7 := (g3.same s6).same s7
          refine q _ _ kp7 (g7.mono (by omega)) (vl_tup ((hide_at (g7.tup h7)).trans h7) (by rw [List.length_append, List.length_singleton]; omega) fun x hx => ?_)
          rcases List.mem_append.mp hx with hx | hx
          · exact dat kp7 x hx
          · rw [List.mem_singleton.mp hx]
            exact dat kp7 _ (List.getElem_mem hj)
        · refine ⟨_, rfl, rfl, _, rfl, ite2 (fun _ => ?_) (fun _ => ?_)⟩
          · refine ⟨_, rfl, _, rfl, _, rfl, a, xs, rfl, ha3, fun c1 H4 s4 h4 => ?_⟩
            obtain ⟨i1, l1⟩ := cutV_sub xs none (some sp)
            have kp4 := kp.trans (.of s4)
            refine ⟨_, rfl, _, rfl, _, _, rfl, rfl, _, rfl, a, xs, rfl, kp4 _ _ nab ha, fun c8 H8 s8 h8 => ?_⟩
            obtain ⟨i2, l2⟩ := cutV_sub xs (some (sp + 1)) none
            refine ⟨c1, c8, _, _, rfl, rfl, s8 _ _ h4, h8, small (by omega), fun c9 H9 s9 h9 => ?_⟩
            have g9 := ((g3.same s4).same s8).same s9
            have kp9 := (kp4.trans (.of s8)).trans (.of s9)
            refine q _ _ kp9 (g9.mono (by omega)) (vl_tup ((hide_at (g9.tup h9)).trans h9) (by rw [List.length_append]; omega) fun x hx => ?_)
            rcases List.mem_append.mp hx with hx | hx
            · exact dat kp9 x (i1 x hx)
            · exact dat kp9 x (i2 x hx)
          · exact ⟨_, rfl, q _ _ kp (g3.mono (by omega)) ((vl.same (hide_keep kp)).mono (by decide))⟩
    · obtain ⟨t, ty, kt⟩ := dat_not_tup (K := K) d hs
      refine ⟨_, rfl, v, .ty "tuple", _, _, false, rfl, .ty _, ty, kt, false, rfl, ?_⟩
      exact ⟨_, rfl, q _ _ (.refl b H) (g.mono (by omega)) (vl.mono (by decide))⟩
/-! ### is_part, asked with fields and any value -/
theorem scPart : FnScope ["fields", "value"] ["fields", "value"] (defScope s_is_part) := ⟨rfl, rfl, rfl, by decide +kernel, rfl, by decide +kernel, by decide +kernel⟩
theorem name_dat {zs : List Str} (h : ∀ w ∈ zs, isName w = true) (H' : Hp) : ∀ x ∈ zs.map V.str, Dat H' x := fun x hx => by
  obtain ⟨w, hw, rfl⟩ := List.mem_map.mp hx
  exact Nat.le_trans (name_size (h w hw)).2 (by decide)
theorem dat_x {K : PySem.W.Frag} {H : Hp} {v : V} (d : Dat H v) : DatX K H v := by
  cases v with
  | ref a =>
    rcases d with ⟨xs, e⟩ | ⟨xs, e⟩ | ⟨xs, e⟩
    · exact .inl ⟨xs, .inl (.inl e)⟩
    · exact .inr (.inl ⟨xs, .inl (.inl e)⟩)
    · exact .inr (.inr ⟨xs, e⟩)
  | non => exact True.intro
  | bl b => exact True.intro
  | int b => exact True.intro
  | str b => exact True.intro
  | byt b => exact False.elim d
  | flt b => exact False.elim d
  | ty n => exact False.elim d
def partV (zs : List Str) : V → Bool
  | .str z => decide (z = Str.ofString "" ∨ z ∈ zs)
  | _ => false
theorem eqT (x y : Str) : decide (V.str x = V.str y) = decide (x = y) := decide_eq_decide.mpr ⟨fun h => V.str.inj h, fun h => by rw [h]⟩
def spPartA : Sp := fun vs H Q _ => ∃ (a : Addr) (zs : List Str) (v : V), vs = [.ref a, v] ∧ H a = some (.tup (zs.map V.str)) ∧ FieldsOk zs ∧ Dat H v ∧ ∀ H', Same H H' → Q (.bl (partV zs v)) H'
theorem ok_partA {f : Addr} {fd : FuncData} (F : Fun K "is_part" "is_part" s_is_part f fd) (cF : Cal P w K mg base 3 "is_fields" spFields) : FnOk P w K mg base CX0 4 f fd ["fields", "value"] spPartA := by
  refine F.ok scPart (fun vs H Q E h => ?_) (fun cdv A outer s H vs Q E hr h => ?_)
  · obtain ⟨a, zs, z, rfl, _⟩ := h
    rfl
  · obtain ⟨a, zs, v, rfl, ha, fo, d, q⟩ := h
    refine ⟨_, (pss_cons (ps_if (pt_not (pt_val (C8.pe_c cF hr (by omega) (by rfl) (pa_cons (pv 0) pa_nil)))) pss_never pss_nil)
      (pss_one (ps_ret (pe_or (pe_cmpR (op_eqS (roomN hr)) (pv 1) pe_str (nomark _)) (pe_one (pe_cmpR (op_inS (roomI hr)) (pv 1) (pv 0) (by rfl))))))), ?_⟩
    refine ⟨_, rfl, _, rfl, .inr (.inl ⟨_, ha⟩), fun a' xs e1 e2 => ?_, fun H1 rr s1 er => ?_⟩
    · cases e1
      rw [ha] at e2
      cases e2
      exact name_dat fo.2.2.1 _
    have e : rr = true := er.mpr ((fieldsV_iff ha).mpr fo)
    subst e
    refine ⟨true, rfl, iteF ?_⟩
    have dx := dat_x (K := K) (d.same s1)
    refine ⟨_, rfl, _, rfl, dx, _, rfl, ?_⟩
    have fin := q H1 s1
    by_cases hs : ∃ z, v = .str z
    · obtain ⟨z, rfl⟩ := hs
      rw [eqT]
      by_cases hz : z = Str.ofString ""
      · rw [decide_eq_true hz]
        rw [show partV zs (.str z) = true from decide_eq_true (.inl hz)] at fin
        exact iteT fin
      · rw [decide_eq_false hz]
        refine iteF ⟨_, rfl, .ref a, rfl, a, zs, rfl, .inl (.inl (s1 _ _ ha)), dx, ?_⟩
        rw [inTxt_str]
        rw [show partV zs (.str z) = decide (z ∈ zs) from decide_eq_decide.mpr ⟨fun h => h.resolve_left hz, .inr⟩] at fin
        exact fin
    · have no : ∀ z, v ≠ .str z := fun z e => hs ⟨z, e⟩
      rw [decide_eq_false (no _)]
      refine iteF ⟨_, rfl, .ref a, rfl, a, zs, rfl, .inl (.inl (s1 _ _ ha)), dx, ?_⟩
      rw [inTxt_other no]
      have e : partV zs v = false := by
        cases v with
        | str z => exact absurd rfl (no z)
        | _ => rfl
      rw [e] at fin
      exact fin
/-! ### _law_parts_right -/
theorem scRight : FnScope ["bag", "fields", "value", "some", "part", "due"] ["bag", "fields", "value"] (defScope s_L_parts_right) := ⟨rfl, rfl, rfl, by decide +kernel, rfl, by decide +kernel, by decide +kernel⟩
def spRight : Sp := fun vs H Q _ => ∃ (b a : Addr) (zs : List Str) (v : V) (n : Nat), vs = [.ref b, .ref a, v] ∧ Bag H b n ∧ n + 1000 ≤ bagMost ∧ H a = some (.tup (zs.map V.str)) ∧ FieldsOk zs ∧ Dat (hide b H) v ∧ ∀ H', Keep b H H' → Q (.bl true) H'
theorem ok_right {f : Addr} {fd : FuncData} (F : Fun K "_law_parts_right" "_law_parts_right" s_L_parts_right f fd) (mli : mg "list" = none) (mI : mg "isinstance" = none) (mS : mg "str" = none) (cX : Cal P w K mg base 4 "_law_text" spText)
    (cI : Cal P w K mg base 1 "_law_is" spIs) (cP : Cal P w K mg base 4 "is_part" spPartA) : FnOk P w K mg base CX0 5 f fd ["bag", "fields", "value"] spRight := by
  refine F.ok scRight (fun vs H Q E h => ?_) (fun cdv A outer s H vs Q E hr h => ?_)
  · obtain ⟨b, a, zs, v, n, rfl, _⟩ := h
    rfl
  · obtain ⟨b, a, zs, v, n, rfl, g, nm, ha, fo, d, q⟩ := h
    refine ⟨_, (pss_cons (ps_set (i := 3) scRight.nd rfl (.inl rfl) (pe_op op_cat (pe_callTy call_list_of (by rfl) mli (by decide +kernel) (pa_cons (pv 1) pa_nil)) (pe_lst (pa_cons (pe_str) (pa_cons (pv 2) (pa_cons (pv 1) (pa_cons (C8.pe_c cX hr (by omega) (by rfl) (pa_cons (pv 0) pa_nil)) (pa_cons (pe_op op_add_str (pe_ix ix_tup (pv 1) pe_int (fun _ _ => rfl)) pe_str) (pa_cons (pe_slice sl_str (pe_ix ix_tup (pv 1) pe_int (fun _ _ => rfl)) po_none (po_some (pe_un un_neg pe_int))) pa_nil)))))))))
      (pss_cons (ps_for PassesOwn.never rfl (pi_list (pv 3)) (pg_name (i := 4) scRight.nd rfl (Or.inl rfl)) (Evl.pss_cut (ps_set (i := 5) scRight.nd rfl (.inl rfl) (pe_and (pe_callB call_isi (by rfl) mI (by decide +kernel) (pa_cons (pv 4) (pa_cons (pe_bltn (by rfl) mS (by decide +kernel) (v := .ty "str") rfl) pa_nil)))
          (pe_one (pe_or (pe_cmpR op_eq (pv 4) pe_str (nomark _)) (pe_one (pe_cmpR op_in_seq (pv 4) (pv 1) (by rfl)))))))
      (pss_one (ps_if (pt_not (pt_val (C8.pe_c cI hr (by omega) (by rfl) (pa_cons (C8.pe_c cP hr (by omega) (by rfl) (pa_cons (pv 1) (pa_cons (pv 4) pa_nil))) (pa_cons (pv 5) pa_nil))))) (pss_one (ps_ret pe_bl)) pss_nil))))
      (pss_one (ps_ret pe_bl)))), ?_⟩
    have nab := g.tup ha
    obtain ⟨z0, r0, rfl⟩ : ∃ x r, zs = x :: r := by
      cases zs with
      | nil => exact absurd fo.1 (by decide)
      | cons x r => exact ⟨x, r, rfl⟩
    have n0 := fo.2.2.1 z0 List.mem_cons_self
    have l0 := name_size n0
    have small : ∀ {k : Nat}, k ≤ 1000 → k ≤ sizeLine := fun h => Nat.le_trans h (by decide)
    refine ⟨_, rfl, a, _, rfl, .inr (.inl (.inl ha)), fun p1 np1 => ?_⟩
    have s1 := same_upd (o := HO.lst ((z0 :: r0).map V.str)) np1
    have g1 := g.same s1
    have b1 := g.ne np1
    refine ⟨_, rfl, _, rfl, _, rfl, b, _, rfl, g1, by omega, fun H2 t kp2 g2 lt => ?_⟩
    have kp : Keep b H H2 := (Keep.of s1).trans kp2
    have ha2 := kp _ _ nab ha
    have q2 : SqT K H2 a ((z0 :: r0).map V.str) := .inl (.inl ha2)
    refine ⟨_, rfl, a, _, 0, .str z0, rfl, rfl, q2, atI_nat (j := 0) rfl, _, _, rfl, rfl, small (by rw [show (Str.ofString "a").length = 1 from rfl]; omega), ?_⟩
    refine ⟨_, rfl, a, _, 0, .str z0, rfl, rfl, q2, atI_nat (j := 0) rfl, _, rfl, _, rfl, z0, rfl, small (by omega), (show 6 ≤ sizeLine by decide), fun p3 np3 => ?_⟩
    have s3 := same_upd (o := HO.lst [.str (Str.ofString ""), v, .ref a, .str t, .str (z0 ++ Str.ofString "a"), .str (cutS z0 none (some (-1)))]) np3
    refine ⟨p1, p3, (z0 :: r0).map V.str, _, rfl, rfl, s3 _ _ (kp2 _ _ b1.symm upd_same), upd_same, small ?_, fun p4 np4 => ?_⟩
    · have := fo.2.1
      rw [List.length_map]
      show (z0 :: r0).length + 6 ≤ _
      omega
    have s4 := same_snoc (o := HO.lst ((z0 :: r0).map V.str ++ [.str (Str.ofString ""), v, .ref a, .str t, .str (z0 ++ Str.ofString "a"), .str (cutS z0 none (some (-1)))])) s3 np4
    have kp4 := kp.trans (.of s4)
    have ha4 := kp4 _ _ nab ha
    have d4 := (d.same (hide_keep kp4)).same hide_same
    have lc := cutS_length z0 none (some (-1))
    refine ⟨.ref p4, rfl, p4, rfl, ⟨_, .inl (.inl upd_same)⟩, ?_⟩
    have h4 : L2.upd (L2.upd H2 p3 (.lst [.str (Str.ofString ""), v, .ref a, .str t, .str (z0 ++ Str.ofString "a"), .str (cutS z0 none (some (-1)))])) p4 (.lst ((z0 :: r0).map V.str ++ [.str (Str.ofString ""), v, .ref a, .str t, .str (z0 ++ Str.ofString "a"), .str (cutS z0 none (some (-1)))])) p4 =
        some (.lst ((z0 :: r0).map V.str ++ [.str (Str.ofString ""), v, .ref a, .str t, .str (z0 ++ Str.ofString "a"), .str (cutS z0 none (some (-1)))])) := upd_same
    have all : ∀ x ∈ ((z0 :: r0).map V.str ++ [.str (Str.ofString ""), v, .ref a, .str t, .str (z0 ++ Str.ofString "a"), .str (cutS z0 none (some (-1)))]),
        Dat (L2.upd (L2.upd H2 p3 (.lst [.str (Str.ofString ""), v, .ref a, .str t, .str (z0 ++ Str.ofString "a"), .str (cutS z0 none (some (-1)))])) p4 (.lst ((z0 :: r0).map V.str ++ [.str (Str.ofString ""), v, .ref a, .str t, .str (z0 ++ Str.ofString "a"), .str (cutS z0 none (some (-1)))]))) x := fun x hx => by
      rcases List.mem_append.mp hx with hx | hx
      · exact name_dat fo.2.2.1 _ x hx
      · simp only [List.mem_cons, List.not_mem_nil, or_false] at hx
        rcases hx with rfl | rfl | rfl | rfl | rfl | rfl
        · exact (show 0 ≤ 100000 by decide)
        · exact d4
        · exact .inr (.inl ⟨_, ha4⟩)
        · exact lt
        · show (z0 ++ Str.ofString "a").length ≤ 100000
          rw [len_app, show (Str.ofString "a").length = 1 from rfl]
          omega
        · exact (show (cutS z0 none (some (-1))).length ≤ 100000 by omega)
    generalize ((z0 :: r0).map V.str ++ [.str (Str.ofString ""), v, .ref a, .str t, .str (z0 ++ Str.ofString "a"), .str (cutS z0 none (some (-1)))]) = xs at h4 all kp4 ha4
    generalize L2.upd (L2.upd H2 p3 (.lst [.str (Str.ofString ""), v, .ref a, .str t, .str (z0 ++ Str.ofString "a"), .str (cutS z0 none (some (-1)))])) p4 (.lst xs) = H4 at h4 all kp4 ha4
    refine for_list (xs := xs) (fun _ σ' H' => ∃ x4 x5 : Option V, σ' = [some (.ref b), some (.ref a), some v, some (.ref p4), x4, x5] ∧ Same H4 H') ⟨_, _, rfl, .refl _⟩ (fun _ _ H' _ hP => ?_) (fun i x σ' H' hx hP => ?_) (fun σ' H' hP => ?_)
    · obtain ⟨_, _, _, sm⟩ := hP
      exact .inl (.inl (sm _ _ h4))
    · obtain ⟨x4, x5, rfl, sm⟩ := hP
      have dx := (all x (List.mem_of_getElem? hx)).same sm
      have ha5 := sm _ _ ha4
      obtain ⟨ty, tyx, _, _, k3⟩ := dat_is (K := K) dx
      refine ⟨fun σ5 H5 => σ5 = [some (.ref b), some (.ref a), some v, some (.ref p4), some x, some (.bl (partV (z0 :: r0) x))] ∧ H5 = H', ?_, ?_⟩
      · refine ⟨_, rfl, x, .ty "str", _, _, _, rfl, .ty _, tyx, k3, _, rfl, ?_⟩
        cases hs : isTxt x with
        | false =>
          have e : partV (z0 :: r0) x = false := by
            cases x with
            | str z => cases hs
            | _ => rfl
          rw [e]
          exact iteF ⟨rfl, rfl⟩
        | true =>
          obtain ⟨z, rfl, _⟩ := dat_txt (K := K) dx hs
          refine iteT ⟨_, rfl, rfl, _, rfl, ?_⟩
          rw [eqT]
          by_cases hz : z = Str.ofString ""
          · rw [decide_eq_true hz]
            rw [show partV (z0 :: r0) (.str z) = true from decide_eq_true (.inl hz)]
            exact iteT ⟨rfl, rfl⟩
          · rw [decide_eq_false hz]
            refine iteF ⟨_, rfl, .ref a, rfl, a, _, rfl, .inr (.inl (.inl ha5)), rfl, strs_all_flat _, ?_⟩
            rw [show partV (z0 :: r0) (.str z) = decide (z ∈ z0 :: r0) from decide_eq_decide.mpr ⟨fun h => h.resolve_left hz, .inr⟩, ← inV_strs]
            exact ⟨rfl, rfl⟩
      · rintro σ5 H5 ⟨rfl, rfl⟩
        exact ⟨_, rfl, _, rfl, a, z0 :: r0, x, rfl, ha5, fo, dx, fun H6 s6 => ⟨_, rfl, _, _, rfl, true, congrArg V.bl (decide_eq_true rfl), iteF ⟨_, _, rfl, sm.trans s6⟩⟩⟩
    · obtain ⟨_, _, rfl, sm⟩ := hP
      exact q _ (kp4.trans (.of sm))
/-! ### the law -/
abbrev lawN : List Str := ["script", "at", "bag", "value", "due", "turn", "told", "fields", "one"]
theorem scLaw : FnScope lawN ["script"] (defScope s_law) := ⟨rfl, rfl, rfl, by decide +kernel, rfl, by decide +kernel, by decide +kernel⟩
def spLaw (K : PySem.W.Frag) : Sp := fun vs H Q _ => ∃ (a : Addr) (ns : List Int), vs = [.ref a] ∧ SqL K H a (ns.map V.int) ∧ ns.length ≤ 63 ∧ ∀ H', Q (.bl true) H'
theorem keep_same {b : Addr} {H0 H1 H2 : Hp} (s : Same H0 H1) (n : H0 b = none) (k : Keep b H1 H2) : Same H0 H2 := fun a o e => k a o (ne_of_none e n) (s a o e)
structure LawTxt (K : PySem.W.Frag) (mg : Str → Option Value) : Prop where
  kw : ∃ a, mg "KEYWORDS" = some (.ref a) ∧ WrT K a (keywordsL.map V.str)
  ki : ∃ a, mg "KINDS" = some (.ref a) ∧ WrT K a ([Str.ofString "full", Str.ofString "look", Str.ofString "own"].map V.str)
  ml : ∃ t, mg "MAX_LETTERS" = some (.int 8 t)
  mf : ∃ t, mg "MAX_FIELDS" = some (.int 4 t)
  range : mg "range" = none
  max : mg "max" = none
  min : mg "min" = none
  len : mg "len" = none
  tuple : mg "tuple" = none
  isi : mg "isinstance" = none
  bool : mg "bool" = none
theorem ne_strsT {K : PySem.W.Frag} {H : Hp} {a b : Addr} {Q : VK} {zs ws : List Str} (ha : SqT K H a (zs.map V.str)) (hb : SqT K H b (ws.map V.str)) (la : ∀ z ∈ zs, lowS z) (lb : ∀ z ∈ ws, lowS z) (q : Q (.bl (!decide (zs = ws))) H) : rNeD K (.ref a) (.ref b) H Q :=
  ⟨_, _, .tup ha (dp_strs zs), .tup hb (dp_strs ws), (shaped_of (lay_strs la)).2, (shaped_of (lay_strs lb)).2, by rw [show PyData.eqv (.tuple (zs.map PyData.str)) (.tuple (ws.map PyData.str)) = _ from eqv_strs zs ws]; exact q⟩
theorem ne_limits {K : PySem.W.Frag} {H : Hp} {a b : Addr} {Q : VK} (ha : SqT K H a [.int 8, .int 4]) (hb : SqT K H b [.int 8, .int 4]) (q : Q (.bl false) H) : rNeD K (.ref a) (.ref b) H Q :=
  ⟨_, _, .tup ha (.cons (.int 8) (.cons (.int 4) .nil)), .tup hb (.cons (.int 8) (.cons (.int 4) .nil)), by decide +kernel, by decide +kernel, q⟩
theorem low_kw : ∀ z ∈ keywordsL, lowS z := by
  have h : ∀ z ∈ keywordsL, ∀ c ∈ cs z, c < 1114112 := by decide +kernel
  exact h
theorem low_kinds : ∀ z ∈ [Str.ofString "full", Str.ofString "look", Str.ofString "own"], lowS z := by
  have h : ∀ z ∈ [Str.ofString "full", Str.ofString "look", Str.ofString "own"], ∀ c ∈ cs z, c < 1114112 := by decide +kernel
  exact h
/-- whether a value is fields does not change -/
theorem fieldsV_same {H H' : Hp} {v : V} (d : Dat H v) (k : Same H H') : FieldsV H' v ↔ FieldsV H v := by
  constructor
  · rintro ⟨a, zs, rfl, e, f⟩
    rcases d with ⟨ys, h⟩ | ⟨ys, h⟩ | ⟨ys, h⟩
    · have e2 := k _ _ h
      rw [e] at e2
      cases e2
    · have e2 := k _ _ h
      rw [e] at e2
      cases e2
      exact ⟨a, zs, rfl, h, f⟩
    · have e2 := k _ _ h
      rw [e] at e2
      cases e2
  · rintro ⟨a, zs, rfl, e, f⟩
    exact ⟨a, zs, rfl, k _ _ e, f⟩
theorem ok_law {f : Addr} {fd : FuncData} (F : Fun K "law" "law" s_law f fd) (T : LawTxt K mg) (cB : Cal P w K mg base 1 "_law_bag" (spBag K)) (cR : Cal P w K mg base 1 "_law_roll" spRoll) (cNs : Cal P w K mg base 4 "_law_names" spNames) (cK : Cal P w K mg base 1 "_law_keywords" spKws)
    (cLN : Cal P w K mg base 2 "_law_is_name" spIsName) (cLF : Cal P w K mg base 3 "_law_is_fields" spFields) (cLI : Cal P w K mg base 1 "_law_is_integer" spInt) (cT : Cal P w K mg base 8 "_law_thing" (spT 3)) (cS : Cal P w K mg base 8 "_law_spoiled" spSpoil)
    (cPR : Cal P w K mg base 5 "_law_parts_right" spRight) (cI : Cal P w K mg base 1 "is_integer" spInt) (cN : Cal P w K mg base 1 "is_name" spIsName) (cF : Cal P w K mg base 3 "is_fields" spFields) : FnOk P w K mg base CX0 9 f fd ["script"] (spLaw K) := by
  obtain ⟨⟨kw, gK, wK⟩, ⟨ki, gI, wI⟩, ⟨t1, gL⟩, ⟨t2, gF⟩, mr, mx, mn, ml, mt, mI, mb⟩ := T
  refine F.ok scLaw (fun vs H Q E h => ?_) (fun cdv A outer s H vs Q E hr h => ?_)
  · obtain ⟨a, ns, rfl, _⟩ := h
    rfl
  · obtain ⟨a, ns, rfl, hS, few, q⟩ := h
    refine ⟨_, (pss_cons (ps_if (PW.pt (pw_or (pt_cmpR (op_neD hr.units) (pe_glob (v := .ref kw) (by rfl) gK rfl) (pe_c0 cK hr (by omega) (by rfl)) (nomark _)) (pw_or (pt_cmpR (op_neD hr.units) (pe_glob (v := .ref ki) (by rfl) gI rfl) (pe_tup (pa_cons (pe_str) (pa_cons (pe_str) (pa_cons (pe_str) pa_nil)))) (nomark _))
        (pw_or1 (pt_cmpR (op_neD hr.units) (pe_tup (pa_cons (pe_glob (v := .int 8) (by rfl) gL ⟨_, rfl⟩) (pa_cons (pe_glob (v := .int 4) (by rfl) gF ⟨_, rfl⟩) pa_nil))) (pe_tup (pa_cons (pe_int) (pa_cons (pe_int) pa_nil))) (nomark _)))))) (pss_one (ps_ret pe_bl)) pss_nil)
      (pss_cons (ps_for PassesOwn.never rfl (pi_range1 (by rfl) mr (pa_cons (pe_callB (call_max2 rfl) (by rfl) mx (by decide +kernel) (pa_cons (pe_int) (pa_cons (pe_callB (call_min2 rfl) (by rfl) mn (by decide +kernel) (pa_cons (pe_int) (pa_cons (pe_callB call_len_seq (by rfl) ml PySem.boot_len (pa_cons (pv 0) pa_nil)) pa_nil))) pa_nil))) pa_nil))
          (pg_name (i := 1) scLaw.nd rfl (Or.inl rfl)) (pss_cons (ps_set (i := 2) scLaw.nd rfl (.inl rfl) (C8.pe_c cB hr (by omega) (by rfl) (pa_cons (pv 0) (pa_cons (pv 1) pa_nil))))
      (pss_cons (ps_set (i := 3) scLaw.nd rfl (.inl rfl) (C8.pe_c cS hr (by omega) (by rfl) (pa_cons (pv 2) (pa_cons (C8.pe_c cT hr (by omega) (by rfl) (pa_cons (pv 2) (pa_cons (pe_int) pa_nil))) pa_nil))))
      (pss_cons (ps_set (i := 4) scLaw.nd rfl (.inl rfl) (pe_lst (pa_cons (C8.pe_c cLI hr (by omega) (by rfl) (pa_cons (pv 3) pa_nil)) (pa_cons (C8.pe_c cLN hr (by omega) (by rfl) (pa_cons (pv 3) pa_nil)) (pa_cons (C8.pe_c cLF hr (by omega) (by rfl) (pa_cons (pv 3) pa_nil)) pa_nil)))))
      (Evl.pss_cut (ps_for PassesOwn.never rfl (pi_range1 (by rfl) mr (pa_cons (pe_int) pa_nil)) (pg_name (i := 5) scLaw.nd rfl (Or.inl rfl)) (pss_cons (ps_set (i := 6) scLaw.nd rfl (.inl rfl) (pe_lst (pa_cons (C8.pe_c cI hr (by omega) (by rfl) (pa_cons (pv 3) pa_nil)) (pa_cons (C8.pe_c cN hr (by omega) (by rfl) (pa_cons (pv 3) pa_nil)) (pa_cons (C8.pe_c cF hr (by omega) (by rfl) (pa_cons (pv 3) pa_nil)) pa_nil)))))
      (pss_one (ps_if (PW.pt (pw_or (pt_cmpR (op_neNilL (roomN hr)) (pe_lc (own := [("one", 8)]) (g := gName 8) rfl scLaw.nd (pi_list (pv 6)) (blkOk_by (N := lawN) (sc := defScope s_law) (by decide +kernel))
                (fun _ _ _ _ _ => pg_name (i := 8) scLaw.nd rfl (Or.inl rfl)) (fun _ _ _ _ _ => pts_one (pt_not (pt_val (pe_callB (isi_K (K := K) rfl) (by rfl) mI (by decide +kernel) (pa_cons (pv 8) (pa_cons (pe_bltn (by rfl) mb (by decide +kernel) (v := .ty "bool") rfl) pa_nil)))))) (fun _ _ _ _ _ => pv 8)) (pe_lst pa_nil) (nomark _))
              (pw_or1 (pt_cmpR (op_neD hr.units) (pv 6) (pv 4) (nomark _))))) (pss_one (ps_ret pe_bl)) pss_nil))))
      (Evl.pss_cut (ps_set (i := 7) scLaw.nd rfl (.inl rfl) (pe_ifExp (pt_val (pe_ix ix_list (pv 4) pe_int (fun _ _ => rfl))) (pv 3) (pe_callTy call_tuple_of (by rfl) mt (by decide +kernel) (pa_cons (C8.pe_c cNs hr (by omega) (by rfl) (pa_cons (pv 2) (pa_cons (pe_op op_add pe_int (C8.pe_c cR hr (by omega) (by rfl) (pa_cons (pv 2) (pa_cons (pe_int) pa_nil)))) pa_nil))) pa_nil))))
      (pss_one (ps_if (PW.pt (pw_or (pt_not (pt_val (C8.pe_c cF hr (by omega) (by rfl) (pa_cons (pv 7) pa_nil)))) (pw_or1 (pt_not (pt_val (C8.pe_c cPR hr (by omega) (by rfl) (pa_cons (pv 2) (pa_cons (pv 7) (pa_cons (pv 3) pa_nil))))))))) (pss_one (ps_ret pe_bl)) pss_nil))))))))
      (pss_one (ps_ret pe_bl)))), ?_⟩
    refine ⟨rfl, fun Ha p0 sa hp0 => ne_strsT (zs := keywordsL) (ws := keywordsL) (.inr wK) (.inl (.inl hp0)) low_kw low_kw ⟨false, by rw [decide_eq_true rfl]; rfl, iteF ?_⟩⟩
    refine ⟨(show 3 ≤ sizeLine by decide), fun p1 np1 => ne_strsT (zs := [Str.ofString "full", Str.ofString "look", Str.ofString "own"]) (ws := [Str.ofString "full", Str.ofString "look", Str.ofString "own"]) (.inr wI) (.inl (.inl upd_same)) low_kinds low_kinds ⟨false, by rw [decide_eq_true rfl]; rfl, iteF ?_⟩⟩
    refine ⟨(show 2 ≤ sizeLine by decide), fun p2 np2 => ⟨(show 2 ≤ sizeLine by decide), fun p3 np3 => ne_limits (.inl (.inl (same_upd np3 _ _ upd_same))) (.inl (.inl upd_same)) ⟨false, rfl, iteF ?_⟩⟩⟩
    have smA := ((sa.trans (same_upd np1)).trans (same_upd (o := HO.tup [V.int 8, V.int 4]) np2)).trans (same_upd (o := HO.tup [V.int 8, V.int 4]) np3)
    have hSA := smA.seq hS
    generalize L2.upd (L2.upd (L2.upd Ha p1 _) p2 _) p3 _ = H0 at hSA
    clear smA hS np1 np2 np3 hp0 sa
    refine ⟨.ref a, rfl, a, _, rfl, .inl hSA, _, _, rfl, _, _, rfl, _, rfl, by split <;> split <;> omega, by split <;> split <;> omega, ?_⟩
    generalize (if (if ((ns.map V.int).length : Int) < 12 then ((ns.map V.int).length : Int) else 12) > 1 then (if ((ns.map V.int).length : Int) < 12 then ((ns.map V.int).length : Int) else 12) else 1) = turns
    refine for_range (n := turns.toNat) (fun i σ' H' => (∃ x1 x2 x3 x4 x5 x6 x7 x8 : Option V, σ' = [some (.ref a), x1, x2, x3, x4, x5, x6, x7, x8]) ∧ Same H0 H')
      ⟨⟨_, _, _, _, _, _, _, _, rfl⟩, .refl H0⟩ (fun i σ' H' hi hP => ?_) (fun σ' H' hP => q H')
    obtain ⟨⟨x1, x2, x3, x4, x5, x6, x7, x8, rfl⟩, sm0⟩ := hP
    refine ⟨_, rfl, _, rfl, a, ns, i, (by show [V.ref a, V.int ((0 : Int) + (i : Int))] = _; rw [Int.zero_add]), sm0.seq hSA, fun H1 b sm1 nb g1 => ?_⟩
    refine ⟨_, rfl, _, rfl, b, 0, rfl, g1, by decide, fun H2 v kp2 g2 vl2 => ?_⟩
    have g2 : Bag H2 b 100000 := g2
    refine ⟨b, v, _, rfl, g2, by decide, vl2, fun H3 x kp3 g3 vl3 => ?_⟩
    have vx : ∀ {H' : Hp}, Keep b H3 H' → Vl 30 H' x := fun k => (vl3.same (hide_keep k)).same hide_same
    have items : ∀ {H' : Hp}, Keep b H3 H' → ∀ a xs, x = .ref a → H' a = some (.tup xs) → ∀ y ∈ xs, Dat H' y := fun k a xs e1 e2 => ((vx k).2 a xs e1 e2).2
    have d3 := (vx (.refl b H3)).1
    have kp03 := kp2.trans kp3
    -- due
    refine ⟨_, rfl, x, rfl, d3, _, rfl, x, rfl, d3, fun H4 s4 => ?_⟩
    have d4 := (vx (.of s4)).1
    refine ⟨_, rfl, x, rfl, d4, items (.of s4), fun H5 fb s5 ef => ⟨(show 3 ≤ sizeLine by decide), fun pd npd => ?_⟩⟩
    have s6 := same_upd (o := HO.lst ([intV x, nameV x, fb].map V.bl)) npd
    have hpd : L2.upd H5 pd (HO.lst ([intV x, nameV x, fb].map V.bl)) pd = some (.lst ([intV x, nameV x, fb].map V.bl)) := upd_same
    have s46 := s5.trans s6
    have s36 := s4.trans s46
    have g6 := g3.same s36
    refine ⟨fun σ7 H7 => ∃ x5 x6 : Option V, σ7 = [some (.ref a), some (.int ((0 : Int) + (i : Int))), some (.ref b), some x, some (.ref pd), x5, x6, x7, x8] ∧ Same (L2.upd H5 pd (HO.lst ([intV x, nameV x, fb].map V.bl))) H7, ?_, ?_⟩
    · refine ⟨_, rfl, by decide, by decide, ?_⟩
      refine for_range (n := (2 : Int).toNat) (fun _ σ7 H7 => ∃ x5 x6 : Option V, σ7 = [some (.ref a), some (.int ((0 : Int) + (i : Int))), some (.ref b), some x, some (.ref pd), x5, x6, x7, x8] ∧ Same (L2.upd H5 pd (HO.lst ([intV x, nameV x, fb].map V.bl))) H7)
        ⟨_, _, rfl, .refl _⟩ (fun j σ7 H7 hj hP => ?_) (fun σ7 H7 hP => hP)
      obtain ⟨y5, y6, rfl, s7⟩ := hP
      have k7 : Keep b H3 H7 := .of (s36.trans s7)
      have d7 := (vx k7).1
      refine ⟨_, rfl, x, rfl, d7, _, rfl, x, rfl, d7, fun H8 s8 => ?_⟩
      have k8 := k7.trans (.of s8)
      refine ⟨_, rfl, x, rfl, (vx k8).1, items k8, fun H9 tb s9 et => ⟨(show 3 ≤ sizeLine by decide), fun pt npt => ?_⟩⟩
      have e : tb = fb := by
        rw [Bool.eq_iff_iff]
        exact et.trans ((fieldsV_same d4 ((s46.trans s7).trans s8)).trans ef.symm)
      subst e
      have s10 := same_upd (o := HO.lst ([intV x, nameV x, tb].map V.bl)) npt
      have hpt : L2.upd H9 pt (HO.lst ([intV x, nameV x, tb].map V.bl)) pt = some (.lst ([intV x, nameV x, tb].map V.bl)) := upd_same
      have s710 := (s8.trans s9).trans s10
      refine ⟨.ref pt, rfl, pt, rfl, ⟨_, .inl (.inl hpt)⟩, fun D nD => ?_⟩
      refine lc_vals (vals := [intV x, nameV x, tb].map V.bl) walk_list (fun _ => false) id (by rw [List.length_map]; exact (show 3 ≤ 100000 by decide)) nD (fun H0 s => .inl (.inl (s _ _ hpt))) (fun y H11 Ky Kn hy s11 k1 k0 => ?_) (fun H11 s11 e11 => ?_)
      · obtain ⟨c, _, rfl⟩ := List.mem_map.mp hy
        exact ⟨rfl, _, rfl, .bl c, .ty "bool", _, _, true, rfl, .ty _, .base (.bl c), kit_ty (by decide +kernel), true, rfl, iteF (k0 _ (.refl _) rfl)⟩
      · refine ⟨Nat.zero_le _, fun p12 np12 => ?_⟩
        have s12 := same_upd (o := HO.lst []) np12
        refine ⟨D, p12, _, rfl, rfl, .inl (.inl (s12 _ _ e11)), .inl (.inl upd_same), false, rfl, iteF ?_⟩
        have ht := s12 _ _ (s11 _ _ hpt)
        have hd := s12 _ _ (s11 _ _ (s710 _ _ (s7 _ _ hpd)))
        refine ⟨_, rfl, _, rfl, ne_boolsL (zs := [intV x, nameV x, tb]) (ws := [intV x, nameV x, tb]) (.inl (.inl ht)) (.inl (.inl hd)) ⟨false, by rw [decide_eq_true rfl]; rfl, iteF ?_⟩⟩
        exact ⟨_, _, rfl, ((s7.trans s710).trans s11).trans s12⟩
    · rintro σ7 H7 ⟨y5, y6, rfl, s7⟩
      have k7 : Keep b H3 H7 := .of (s36.trans s7)
      have g7 := g6.same s7
      have hd7 := s7 _ _ hpd
      refine ⟨fun σ8 H8 => ∃ (af : Addr) (zs : List Str), σ8 = [some (.ref a), some (.int ((0 : Int) + (i : Int))), some (.ref b), some x, some (.ref pd), y5, y6, some (.ref af), x8] ∧ Keep b H7 H8 ∧ H8 af = some (.tup (zs.map V.str)) ∧ FieldsOk zs ∧ Bag H8 b 200000, ?_, ?_⟩
      · refine ⟨_, rfl, pd, _, 2, .bl fb, rfl, rfl, .inl (.inl hd7), atI_nat (j := 2) rfl, _, rfl, ?_⟩
        cases fb with
        | true =>
          obtain ⟨af, zs, rfl, e, fo⟩ := ef.mp rfl
          exact iteT ⟨_, rfl, af, zs, rfl, .refl b H7, s7 _ _ (s46 _ _ e), fo, g7.mono (by decide)⟩
        | false =>
          refine iteF ⟨_, rfl, _, rfl, b, 4, _, rfl, by decide, by decide, g7, by decide, fun H8 r kp8 g8 r0 r4 => ⟨_, _, rfl, rfl, ?_⟩⟩
          obtain ⟨rr, rfl⟩ : ∃ k : Nat, r = (k : Int) := ⟨r.toNat, by omega⟩
          have e : (1 + (rr : Int)) = ((1 + rr : Nat) : Int) := by omega
          refine ⟨b, 1 + rr, _, (by show [V.ref b, V.int (1 + (rr : Int))] = _; rw [e]), by omega, g8, by decide, fun H9 p zs kp9 np g9 hp zl zok => ?_⟩
          refine ⟨p, _, rfl, .inl ⟨.inl (.inl hp), fun t nt => ?_⟩⟩
          have s10 := same_upd (o := HO.tup (zs.map V.str)) nt
          refine ⟨t, zs, rfl, (kp8.trans kp9).trans (.of s10), upd_same, ⟨by omega, by omega, fun w hw => zok.names hw, zok.nodup⟩, (g9.same s10).mono ?_⟩
          have : 8 * (1 + rr) ≤ 32 := by omega
          omega
      · rintro σ8 H8 ⟨af, zs, rfl, kp8, haf, fo, g8⟩
        refine ⟨_, rfl, _, rfl, .inr (.inl ⟨_, haf⟩), fun a' xs e1 e2 => ?_, fun H9 rr s9 er => ?_⟩
        · cases e1
          rw [haf] at e2
          cases e2
          exact name_dat fo.2.2.1 _
        have e : rr = true := er.mpr ((fieldsV_iff haf).mpr fo)
        subst e
        have kp9 := (k7.trans kp8).trans (.of s9)
        refine ⟨true, rfl, iteF ⟨_, rfl, _, rfl, _, rfl, b, af, zs, x, _, rfl, g8.same s9, by decide, s9 _ _ haf, fo, (vl3.same (hide_keep kp9)).1, fun H10 kp10 => ⟨true, rfl, iteF ?_⟩⟩⟩
        exact ⟨⟨_, _, _, _, _, _, _, _, rfl⟩, sm0.trans (keep_same sm1 nb ((kp03.trans kp9).trans kp10))⟩
/-! ### what the top has written -/
theorem all_mk {l : PySem.W.OpenLaw} {w : World} {K : PySem.W.Frag} {h : Heap} {mg : Str → Option Value} {fa : Addr} (X : K.In h) (G : h.Ns mainGlobals mg) (hfa : mg "law" = some (.ref fa))
    {f0 : Addr} {od0 an0 : Option Addr} {sl0 : Array (Option Value)} {oc0 kV0 dc0 pm0 cd0 ct0 : Value}
    {f1 : Addr} {od1 an1 : Option Addr} {sl1 : Array (Option Value)} {oc1 kV1 dc1 pm1 cd1 ct1 : Value}
    {f2 : Addr} {od2 an2 : Option Addr} {sl2 : Array (Option Value)} {oc2 kV2 dc2 pm2 cd2 ct2 : Value}
    {f3 : Addr} {od3 an3 : Option Addr} {sl3 : Array (Option Value)} {oc3 kV3 dc3 pm3 cd3 ct3 : Value}
    {f4 : Addr} {od4 an4 : Option Addr} {sl4 : Array (Option Value)} {oc4 kV4 dc4 pm4 cd4 ct4 : Value}
    {f5 : Addr} {od5 an5 : Option Addr} {sl5 : Array (Option Value)} {oc5 kV5 dc5 pm5 cd5 ct5 : Value}
    {f6 : Addr} {od6 an6 : Option Addr} {sl6 : Array (Option Value)} {oc6 kV6 dc6 pm6 cd6 ct6 : Value}
    {f7 : Addr} {od7 an7 : Option Addr} {sl7 : Array (Option Value)} {oc7 kV7 dc7 pm7 cd7 ct7 : Value}
    {f8 : Addr} {od8 an8 : Option Addr} {sl8 : Array (Option Value)} {oc8 kV8 dc8 pm8 cd8 ct8 : Value}
    {f9 : Addr} {od9 an9 : Option Addr} {sl9 : Array (Option Value)} {oc9 kV9 dc9 pm9 cd9 ct9 : Value}
    {f10 : Addr} {od10 an10 : Option Addr} {sl10 : Array (Option Value)} {oc10 kV10 dc10 pm10 cd10 ct10 : Value}
    {f11 : Addr} {od11 an11 : Option Addr} {sl11 : Array (Option Value)} {oc11 kV11 dc11 pm11 cd11 ct11 : Value}
    {f12 : Addr} {od12 an12 : Option Addr} {sl12 : Array (Option Value)} {oc12 kV12 dc12 pm12 cd12 ct12 : Value}
    {f13 : Addr} {od13 an13 : Option Addr} {sl13 : Array (Option Value)} {oc13 kV13 dc13 pm13 cd13 ct13 : Value}
    {f14 : Addr} {od14 an14 : Option Addr} {sl14 : Array (Option Value)} {oc14 kV14 dc14 pm14 cd14 ct14 : Value}
    {f15 : Addr} {od15 an15 : Option Addr} {sl15 : Array (Option Value)} {oc15 kV15 dc15 pm15 cd15 ct15 : Value}
    {f16 : Addr} {od16 an16 : Option Addr} {sl16 : Array (Option Value)} {oc16 kV16 dc16 pm16 cd16 ct16 : Value}
    {f17 : Addr} {od17 an17 : Option Addr} {sl17 : Array (Option Value)} {oc17 kV17 dc17 pm17 cd17 ct17 : Value}
    {f18 : Addr} {od18 an18 : Option Addr} {sl18 : Array (Option Value)} {oc18 kV18 dc18 pm18 cd18 ct18 : Value}
    {f19 : Addr} {od19 an19 : Option Addr} {sl19 : Array (Option Value)} {oc19 kV19 dc19 pm19 cd19 ct19 : Value}
    {f20 : Addr} {od20 an20 : Option Addr} {sl20 : Array (Option Value)} {oc20 kV20 dc20 pm20 cd20 ct20 : Value}
    {pKEYWORDS : Addr} {odKEYWORDS : Option Addr} {itsKEYWORDS : Array Value} {nKEYWORDS : Nat} {slKEYWORDS : Array (Option Value)}
    {pKINDS : Addr} {odKINDS : Option Addr} {itsKINDS : Array Value} {nKINDS : Nat} {slKINDS : Array (Option Value)}
    {tLETTERS : Tok}
    {tMAX_LETTERS : Tok}
    {tMAX_FIELDS : Tok}
    (a0 : PySem.W.nsIn K mainGlobals "is_integer" = some (some (.ref f0)))
    (l0 : K.lookup f0 = some ⟨oc0, od0, .func (PySem.W.fnOf "is_integer" "is_integer" (defArgs s_is_integer) (defBody s_is_integer) (defScope s_is_integer) .none kV0 dc0 pm0 an0 cd0 ct0), sl0⟩)
    (c0 : PySem.W.codeIn K cd0 "is_integer" = true) (k0 : PySem.W.keepIn K (.ref f0) = true)
    (a1 : PySem.W.nsIn K mainGlobals "is_name" = some (some (.ref f1)))
    (l1 : K.lookup f1 = some ⟨oc1, od1, .func (PySem.W.fnOf "is_name" "is_name" (defArgs s_is_name) (defBody s_is_name) (defScope s_is_name) .none kV1 dc1 pm1 an1 cd1 ct1), sl1⟩)
    (c1 : PySem.W.codeIn K cd1 "is_name" = true) (k1 : PySem.W.keepIn K (.ref f1) = true)
    (a2 : PySem.W.nsIn K mainGlobals "are_different_names" = some (some (.ref f2)))
    (l2 : K.lookup f2 = some ⟨oc2, od2, .func (PySem.W.fnOf "are_different_names" "are_different_names" (defArgs s_are_different_names) (defBody s_are_different_names) (defScope s_are_different_names) .none kV2 dc2 pm2 an2 cd2 ct2), sl2⟩)
    (c2 : PySem.W.codeIn K cd2 "are_different_names" = true) (k2 : PySem.W.keepIn K (.ref f2) = true)
    (a3 : PySem.W.nsIn K mainGlobals "is_fields" = some (some (.ref f3)))
    (l3 : K.lookup f3 = some ⟨oc3, od3, .func (PySem.W.fnOf "is_fields" "is_fields" (defArgs s_is_fields) (defBody s_is_fields) (defScope s_is_fields) .none kV3 dc3 pm3 an3 cd3 ct3), sl3⟩)
    (c3 : PySem.W.codeIn K cd3 "is_fields" = true) (k3 : PySem.W.keepIn K (.ref f3) = true)
    (a4 : PySem.W.nsIn K mainGlobals "is_part" = some (some (.ref f4)))
    (l4 : K.lookup f4 = some ⟨oc4, od4, .func (PySem.W.fnOf "is_part" "is_part" (defArgs s_is_part) (defBody s_is_part) (defScope s_is_part) .none kV4 dc4 pm4 an4 cd4 ct4), sl4⟩)
    (c4 : PySem.W.codeIn K cd4 "is_part" = true) (k4 : PySem.W.keepIn K (.ref f4) = true)
    (a5 : PySem.W.nsIn K mainGlobals "_law_bag" = some (some (.ref f5)))
    (l5 : K.lookup f5 = some ⟨oc5, od5, .func (PySem.W.fnOf "_law_bag" "_law_bag" (defArgs s_L_bag) (defBody s_L_bag) (defScope s_L_bag) .none kV5 dc5 pm5 an5 cd5 ct5), sl5⟩)
    (c5 : PySem.W.codeIn K cd5 "_law_bag" = true) (k5 : PySem.W.keepIn K (.ref f5) = true)
    (a6 : PySem.W.nsIn K mainGlobals "_law_roll" = some (some (.ref f6)))
    (l6 : K.lookup f6 = some ⟨oc6, od6, .func (PySem.W.fnOf "_law_roll" "_law_roll" (defArgs s_L_roll) (defBody s_L_roll) (defScope s_L_roll) .none kV6 dc6 pm6 an6 cd6 ct6), sl6⟩)
    (c6 : PySem.W.codeIn K cd6 "_law_roll" = true) (k6 : PySem.W.keepIn K (.ref f6) = true)
    (a7 : PySem.W.nsIn K mainGlobals "_law_is" = some (some (.ref f7)))
    (l7 : K.lookup f7 = some ⟨oc7, od7, .func (PySem.W.fnOf "_law_is" "_law_is" (defArgs s_L_is) (defBody s_L_is) (defScope s_L_is) .none kV7 dc7 pm7 an7 cd7 ct7), sl7⟩)
    (c7 : PySem.W.codeIn K cd7 "_law_is" = true) (k7 : PySem.W.keepIn K (.ref f7) = true)
    (a8 : PySem.W.nsIn K mainGlobals "_law_one" = some (some (.ref f8)))
    (l8 : K.lookup f8 = some ⟨oc8, od8, .func (PySem.W.fnOf "_law_one" "_law_one" (defArgs s_L_one) (defBody s_L_one) (defScope s_L_one) .none kV8 dc8 pm8 an8 cd8 ct8), sl8⟩)
    (c8 : PySem.W.codeIn K cd8 "_law_one" = true) (k8 : PySem.W.keepIn K (.ref f8) = true)
    (a9 : PySem.W.nsIn K mainGlobals "_law_word" = some (some (.ref f9)))
    (l9 : K.lookup f9 = some ⟨oc9, od9, .func (PySem.W.fnOf "_law_word" "_law_word" (defArgs s_L_word) (defBody s_L_word) (defScope s_L_word) .none kV9 dc9 pm9 an9 cd9 ct9), sl9⟩)
    (c9 : PySem.W.codeIn K cd9 "_law_word" = true) (k9 : PySem.W.keepIn K (.ref f9) = true)
    (a10 : PySem.W.nsIn K mainGlobals "_law_names" = some (some (.ref f10)))
    (l10 : K.lookup f10 = some ⟨oc10, od10, .func (PySem.W.fnOf "_law_names" "_law_names" (defArgs s_L_names) (defBody s_L_names) (defScope s_L_names) .none kV10 dc10 pm10 an10 cd10 ct10), sl10⟩)
    (c10 : PySem.W.codeIn K cd10 "_law_names" = true) (k10 : PySem.W.keepIn K (.ref f10) = true)
    (a11 : PySem.W.nsIn K mainGlobals "_law_keywords" = some (some (.ref f11)))
    (l11 : K.lookup f11 = some ⟨oc11, od11, .func (PySem.W.fnOf "_law_keywords" "_law_keywords" (defArgs s_L_keywords) (defBody s_L_keywords) (defScope s_L_keywords) .none kV11 dc11 pm11 an11 cd11 ct11), sl11⟩)
    (c11 : PySem.W.codeIn K cd11 "_law_keywords" = true) (k11 : PySem.W.keepIn K (.ref f11) = true)
    (a12 : PySem.W.nsIn K mainGlobals "_law_is_name" = some (some (.ref f12)))
    (l12 : K.lookup f12 = some ⟨oc12, od12, .func (PySem.W.fnOf "_law_is_name" "_law_is_name" (defArgs s_L_is_name) (defBody s_L_is_name) (defScope s_L_is_name) .none kV12 dc12 pm12 an12 cd12 ct12), sl12⟩)
    (c12 : PySem.W.codeIn K cd12 "_law_is_name" = true) (k12 : PySem.W.keepIn K (.ref f12) = true)
    (a13 : PySem.W.nsIn K mainGlobals "_law_is_fields" = some (some (.ref f13)))
    (l13 : K.lookup f13 = some ⟨oc13, od13, .func (PySem.W.fnOf "_law_is_fields" "_law_is_fields" (defArgs s_L_is_fields) (defBody s_L_is_fields) (defScope s_L_is_fields) .none kV13 dc13 pm13 an13 cd13 ct13), sl13⟩)
    (c13 : PySem.W.codeIn K cd13 "_law_is_fields" = true) (k13 : PySem.W.keepIn K (.ref f13) = true)
    (a14 : PySem.W.nsIn K mainGlobals "_law_is_integer" = some (some (.ref f14)))
    (l14 : K.lookup f14 = some ⟨oc14, od14, .func (PySem.W.fnOf "_law_is_integer" "_law_is_integer" (defArgs s_L_is_integer) (defBody s_L_is_integer) (defScope s_L_is_integer) .none kV14 dc14 pm14 an14 cd14 ct14), sl14⟩)
    (c14 : PySem.W.codeIn K cd14 "_law_is_integer" = true) (k14 : PySem.W.keepIn K (.ref f14) = true)
    (a15 : PySem.W.nsIn K mainGlobals "_law_text" = some (some (.ref f15)))
    (l15 : K.lookup f15 = some ⟨oc15, od15, .func (PySem.W.fnOf "_law_text" "_law_text" (defArgs s_L_text) (defBody s_L_text) (defScope s_L_text) .none kV15 dc15 pm15 an15 cd15 ct15), sl15⟩)
    (c15 : PySem.W.codeIn K cd15 "_law_text" = true) (k15 : PySem.W.keepIn K (.ref f15) = true)
    (a16 : PySem.W.nsIn K mainGlobals "_law_number" = some (some (.ref f16)))
    (l16 : K.lookup f16 = some ⟨oc16, od16, .func (PySem.W.fnOf "_law_number" "_law_number" (defArgs s_L_number) (defBody s_L_number) (defScope s_L_number) .none kV16 dc16 pm16 an16 cd16 ct16), sl16⟩)
    (c16 : PySem.W.codeIn K cd16 "_law_number" = true) (k16 : PySem.W.keepIn K (.ref f16) = true)
    (a17 : PySem.W.nsIn K mainGlobals "_law_thing" = some (some (.ref f17)))
    (l17 : K.lookup f17 = some ⟨oc17, od17, .func (PySem.W.fnOf "_law_thing" "_law_thing" (defArgs s_L_thing) (defBody s_L_thing) (defScope s_L_thing) .none kV17 dc17 pm17 an17 cd17 ct17), sl17⟩)
    (c17 : PySem.W.codeIn K cd17 "_law_thing" = true) (k17 : PySem.W.keepIn K (.ref f17) = true)
    (a18 : PySem.W.nsIn K mainGlobals "_law_spoiled" = some (some (.ref f18)))
    (l18 : K.lookup f18 = some ⟨oc18, od18, .func (PySem.W.fnOf "_law_spoiled" "_law_spoiled" (defArgs s_L_spoiled) (defBody s_L_spoiled) (defScope s_L_spoiled) .none kV18 dc18 pm18 an18 cd18 ct18), sl18⟩)
    (c18 : PySem.W.codeIn K cd18 "_law_spoiled" = true) (k18 : PySem.W.keepIn K (.ref f18) = true)
    (a19 : PySem.W.nsIn K mainGlobals "_law_parts_right" = some (some (.ref f19)))
    (l19 : K.lookup f19 = some ⟨oc19, od19, .func (PySem.W.fnOf "_law_parts_right" "_law_parts_right" (defArgs s_L_parts_right) (defBody s_L_parts_right) (defScope s_L_parts_right) .none kV19 dc19 pm19 an19 cd19 ct19), sl19⟩)
    (c19 : PySem.W.codeIn K cd19 "_law_parts_right" = true) (k19 : PySem.W.keepIn K (.ref f19) = true)
    (a20 : PySem.W.nsIn K mainGlobals "law" = some (some (.ref f20)))
    (l20 : K.lookup f20 = some ⟨oc20, od20, .func (PySem.W.fnOf "law" "law" (defArgs s_law) (defBody s_law) (defScope s_law) .none kV20 dc20 pm20 an20 cd20 ct20), sl20⟩)
    (c20 : PySem.W.codeIn K cd20 "law" = true) (k20 : PySem.W.keepIn K (.ref f20) = true)
    (gKEYWORDS : PySem.W.nsIn K mainGlobals "KEYWORDS" = some (some (.ref pKEYWORDS)))
    (wKEYWORDS : K.lookup pKEYWORDS = some ⟨.type "tuple", odKEYWORDS, .seq itsKEYWORDS nKEYWORDS, slKEYWORDS⟩)
    (vKEYWORDS : itsKEYWORDS.size ≤ sizeLine ∧ Vals (keywordsL.map V.str) itsKEYWORDS.toList)
    (gKINDS : PySem.W.nsIn K mainGlobals "KINDS" = some (some (.ref pKINDS)))
    (wKINDS : K.lookup pKINDS = some ⟨.type "tuple", odKINDS, .seq itsKINDS nKINDS, slKINDS⟩)
    (vKINDS : itsKINDS.size ≤ sizeLine ∧ Vals ([Str.ofString "full", Str.ofString "look", Str.ofString "own"].map V.str) itsKINDS.toList)
    (gLETTERS : PySem.W.nsIn K mainGlobals "LETTERS" = some (some (.str "abcdefghijklmnopqrstuvwxyz" tLETTERS)))
    (gMAX_LETTERS : PySem.W.nsIn K mainGlobals "MAX_LETTERS" = some (some (.int 8 tMAX_LETTERS)))
    (gMAX_FIELDS : PySem.W.nsIn K mainGlobals "MAX_FIELDS" = some (some (.int 4 tMAX_FIELDS)))
    (zisinstance : PySem.W.nsIn K mainGlobals "isinstance" = some none)
    (zstr : PySem.W.nsIn K mainGlobals "str" = some none)
    (zbool : PySem.W.nsIn K mainGlobals "bool" = some none)
    (zlen : PySem.W.nsIn K mainGlobals "len" = some none)
    (zall : PySem.W.nsIn K mainGlobals "all" = some none)
    (zset : PySem.W.nsIn K mainGlobals "set" = some none)
    (ztuple : PySem.W.nsIn K mainGlobals "tuple" = some none)
    (zlist : PySem.W.nsIn K mainGlobals "list" = some none)
    (zrange : PySem.W.nsIn K mainGlobals "range" = some none)
    (zmax : PySem.W.nsIn K mainGlobals "max" = some none)
    (zmin : PySem.W.nsIn K mainGlobals "min" = some none)
    (zint : PySem.W.nsIn K mainGlobals "int" = some none)
    (zabs : PySem.W.nsIn K mainGlobals "abs" = some none)
    (zenumerate : PySem.W.nsIn K mainGlobals "enumerate" = some none)
    : ∃ fd : FuncData, (∀ (s : Shared) (v : Value), BindsTo s fd ⟨[v], []⟩ [("script", v)]) ∧ ∀ base : Heap, K.In base → base.Ns mainGlobals mg → FnOk l.prog w K mg base CX0 9 fa fd ["script"] (spLaw K) := by
  have e := hfa.symm.trans (PySem.W.mg_of X G a20)
  cases e
  have F0 := fun_mk (st := s_is_integer) l0 c0 k0
  have b0 := F0.binds (ps := ["value"]) fun _ _ _ _ _ _ us hl => match us, hl with | [_], _ => rfl
  have m0 := PySem.W.mg_of X G a0
  have F1 := fun_mk (st := s_is_name) l1 c1 k1
  have b1 := F1.binds (ps := ["value"]) fun _ _ _ _ _ _ us hl => match us, hl with | [_], _ => rfl
  have m1 := PySem.W.mg_of X G a1
  have F2 := fun_mk (st := s_are_different_names) l2 c2 k2
  have b2 := F2.binds (ps := ["values"]) fun _ _ _ _ _ _ us hl => match us, hl with | [_], _ => rfl
  have m2 := PySem.W.mg_of X G a2
  have F3 := fun_mk (st := s_is_fields) l3 c3 k3
  have b3 := F3.binds (ps := ["value"]) fun _ _ _ _ _ _ us hl => match us, hl with | [_], _ => rfl
  have m3 := PySem.W.mg_of X G a3
  have F4 := fun_mk (st := s_is_part) l4 c4 k4
  have b4 := F4.binds (ps := ["fields", "value"]) fun _ _ _ _ _ _ us hl => match us, hl with | [_, _], _ => rfl
  have m4 := PySem.W.mg_of X G a4
  have F5 := fun_mk (st := s_L_bag) l5 c5 k5
  have b5 := F5.binds (ps := ["script", "at"]) fun _ _ _ _ _ _ us hl => match us, hl with | [_, _], _ => rfl
  have m5 := PySem.W.mg_of X G a5
  have F6 := fun_mk (st := s_L_roll) l6 c6 k6
  have b6 := F6.binds (ps := ["bag", "total"]) fun _ _ _ _ _ _ us hl => match us, hl with | [_, _], _ => rfl
  have m6 := PySem.W.mg_of X G a6
  have F7 := fun_mk (st := s_L_is) l7 c7 k7
  have b7 := F7.binds (ps := ["thing", "due"]) fun _ _ _ _ _ _ us hl => match us, hl with | [_, _], _ => rfl
  have m7 := PySem.W.mg_of X G a7
  have F8 := fun_mk (st := s_L_one) l8 c8 k8
  have b8 := F8.binds (ps := ["bag", "items"]) fun _ _ _ _ _ _ us hl => match us, hl with | [_, _], _ => rfl
  have m8 := PySem.W.mg_of X G a8
  have F9 := fun_mk (st := s_L_word) l9 c9 k9
  have b9 := F9.binds (ps := ["bag"]) fun _ _ _ _ _ _ us hl => match us, hl with | [_], _ => rfl
  have m9 := PySem.W.mg_of X G a9
  have F10 := fun_mk (st := s_L_names) l10 c10 k10
  have b10 := F10.binds (ps := ["bag", "many"]) fun _ _ _ _ _ _ us hl => match us, hl with | [_, _], _ => rfl
  have m10 := PySem.W.mg_of X G a10
  have F11 := fun_mk (st := s_L_keywords) l11 c11 k11
  have b11 := F11.binds (ps := []) fun _ _ _ _ _ _ us hl => match us, hl with | [], _ => rfl
  have m11 := PySem.W.mg_of X G a11
  have F12 := fun_mk (st := s_L_is_name) l12 c12 k12
  have b12 := F12.binds (ps := ["value"]) fun _ _ _ _ _ _ us hl => match us, hl with | [_], _ => rfl
  have m12 := PySem.W.mg_of X G a12
  have F13 := fun_mk (st := s_L_is_fields) l13 c13 k13
  have b13 := F13.binds (ps := ["value"]) fun _ _ _ _ _ _ us hl => match us, hl with | [_], _ => rfl
  have m13 := PySem.W.mg_of X G a13
  have F14 := fun_mk (st := s_L_is_integer) l14 c14 k14
  have b14 := F14.binds (ps := ["value"]) fun _ _ _ _ _ _ us hl => match us, hl with | [_], _ => rfl
  have m14 := PySem.W.mg_of X G a14
  have F15 := fun_mk (st := s_L_text) l15 c15 k15
  have b15 := F15.binds (ps := ["bag"]) fun _ _ _ _ _ _ us hl => match us, hl with | [_], _ => rfl
  have m15 := PySem.W.mg_of X G a15
  have F16 := fun_mk (st := s_L_number) l16 c16 k16
  have b16 := F16.binds (ps := ["bag"]) fun _ _ _ _ _ _ us hl => match us, hl with | [_], _ => rfl
  have m16 := PySem.W.mg_of X G a16
  have F17 := fun_mk (st := s_L_thing) l17 c17 k17
  have b17 := F17.binds (ps := ["bag", "room"]) fun _ _ _ _ _ _ us hl => match us, hl with | [_, _], _ => rfl
  have m17 := PySem.W.mg_of X G a17
  have F18 := fun_mk (st := s_L_spoiled) l18 c18 k18
  have b18 := F18.binds (ps := ["bag", "value"]) fun _ _ _ _ _ _ us hl => match us, hl with | [_, _], _ => rfl
  have m18 := PySem.W.mg_of X G a18
  have F19 := fun_mk (st := s_L_parts_right) l19 c19 k19
  have b19 := F19.binds (ps := ["bag", "fields", "value"]) fun _ _ _ _ _ _ us hl => match us, hl with | [_, _, _], _ => rfl
  have m19 := PySem.W.mg_of X G a19
  have F20 := fun_mk (st := s_law) l20 c20 k20
  have mKEYWORDS := PySem.W.mg_of X G gKEYWORDS
  have mKINDS := PySem.W.mg_of X G gKINDS
  have mLETTERS := PySem.W.mg_of X G gLETTERS
  have mMAX_LETTERS := PySem.W.mg_of X G gMAX_LETTERS
  have mMAX_FIELDS := PySem.W.mg_of X G gMAX_FIELDS
  have nisinstance := PySem.W.mg_none_of X G zisinstance
  have nstr := PySem.W.mg_none_of X G zstr
  have nbool := PySem.W.mg_none_of X G zbool
  have nlen := PySem.W.mg_none_of X G zlen
  have nall := PySem.W.mg_none_of X G zall
  have nset := PySem.W.mg_none_of X G zset
  have ntuple := PySem.W.mg_none_of X G ztuple
  have nlist := PySem.W.mg_none_of X G zlist
  have nrange := PySem.W.mg_none_of X G zrange
  have nmax := PySem.W.mg_none_of X G zmax
  have nmin := PySem.W.mg_none_of X G zmin
  have nint := PySem.W.mg_none_of X G zint
  have nabs := PySem.W.mg_none_of X G zabs
  have nenumerate := PySem.W.mg_none_of X G zenumerate
  refine ⟨PySem.W.fnOf "law" "law" (defArgs s_law) (defBody s_law) (defScope s_law) .none kV20 dc20 pm20 an20 cd20 ct20, fun s v => .of_eq rfl, fun base _ _ => ?_⟩
  have KW : ∃ a, mg "KEYWORDS" = some (.ref a) ∧ WrT K a (keywordsL.map V.str) := ⟨_, mKEYWORDS, _, _, _, wKEYWORDS, rfl, rfl, vKEYWORDS.1, vKEYWORDS.2⟩
  have KI : ∃ a, mg "KINDS" = some (.ref a) ∧ WrT K a ([Str.ofString "full", Str.ofString "look", Str.ofString "own"].map V.str) := ⟨_, mKINDS, _, _, _, wKINDS, rfl, rfl, vKINDS.1, vKINDS.2⟩
  have NT : NameTxt K mg := ⟨KW, ⟨_, mLETTERS⟩, ⟨_, mMAX_LETTERS⟩, nisinstance, nstr, nlen, nall⟩
  have cIn : Cal l.prog w K mg base 1 "is_integer" spInt := mkCal (ok_int F0 nisinstance nbool nint nabs) F0 b0 m0
  have cN : Cal l.prog w K mg base 1 "is_name" spIsName := mkCal (ok_isName F1 NT) F1 b1 m1
  have cDf : Cal l.prog w K mg base 2 "are_different_names" (spDiff K) := mkCal (ok_diff F2 nall nlen nset cN) F2 b2 m2
  have cF : Cal l.prog w K mg base 3 "is_fields" spFields := mkCal (ok_fields F3 nisinstance ntuple nlen ⟨_, mMAX_FIELDS⟩ cDf) F3 b3 m3
  have cP : Cal l.prog w K mg base 4 "is_part" spPartA := mkCal (ok_partA F4 cF) F4 b4 m4
  have cB : Cal l.prog w K mg base 1 "_law_bag" (spBag K) := mkCal (ok_bag F5 nlen nint nabs nmax) F5 b5 m5
  have cR : Cal l.prog w K mg base 1 "_law_roll" spRoll := mkCal (ok_roll F6 nint) F6 b6 m6
  have cI : Cal l.prog w K mg base 1 "_law_is" spIs := mkCal (ok_is F7 nbool nisinstance) F7 b7 m7
  have cO : Cal l.prog w K mg base 2 "_law_one" (spOne K) := mkCal (ok_one F8 nlen cR) F8 b8 m8
  have cW : Cal l.prog w K mg base 3 "_law_word" spWord := mkCal (ok_word F9 nrange cR cO) F9 b9 m9
  have cNs : Cal l.prog w K mg base 4 "_law_names" spNames := mkCal (ok_names F10 nrange cW) F10 b10 m10
  have cK : Cal l.prog w K mg base 1 "_law_keywords" spKws := mkCal (ok_kws F11 ntuple) F11 b11 m11
  have cLN : Cal l.prog w K mg base 2 "_law_is_name" spIsName := mkCal (ok_lname F12 nisinstance nstr nlen cK) F12 b12 m12
  have cLF : Cal l.prog w K mg base 3 "_law_is_fields" spFields := mkCal (ok_lfields F13 nisinstance ntuple nlen nenumerate cLN) F13 b13 m13
  have cLI : Cal l.prog w K mg base 1 "_law_is_integer" spInt := mkCal (ok_lint F14 nisinstance nbool nint nabs) F14 b14 m14
  have cX : Cal l.prog w K mg base 4 "_law_text" spText := mkCal (ok_text F15 nlen cW cR cO cK) F15 b15 m15
  have cU : Cal l.prog w K mg base 3 "_law_number" spNum := mkCal (ok_num F16 cR cO) F16 b16 m16
  have cT0 : Cal l.prog w K mg base 5 "_law_thing" (spT 0) := mkCal (ok_thing0 F17) F17 b17 m17
  have cT1 : Cal l.prog w K mg base 6 "_law_thing" (spT 1) := mkCal (ok_thing (by decide) F17 ntuple nrange cT0 cR cO cX cU cNs) F17 b17 m17
  have cT2 : Cal l.prog w K mg base 7 "_law_thing" (spT 2) := mkCal (ok_thing (by decide) F17 ntuple nrange cT1 cR cO cX cU cNs) F17 b17 m17
  have cT3 : Cal l.prog w K mg base 8 "_law_thing" (spT 3) := mkCal (ok_thing (by decide) F17 ntuple nrange cT2 cR cO cX cU cNs) F17 b17 m17
  have cS : Cal l.prog w K mg base 8 "_law_spoiled" spSpoil := mkCal (ok_spoil F18 nisinstance ntuple nlen cR cT2) F18 b18 m18
  have cPR : Cal l.prog w K mg base 5 "_law_parts_right" spRight := mkCal (ok_right F19 nlist nisinstance nstr cX cI cP) F19 b19 m19
  exact ok_law F20 ⟨KW, KI, ⟨_, mMAX_LETTERS⟩, ⟨_, mMAX_FIELDS⟩, nrange, nmax, nmin, nlen, ntuple, nisinstance, nbool⟩ cB cR cNs cK cLN cLF cLI cT3 cS cPR cIn cN cF
end
end Lp
open PySem PySem.W PyProof.Rows
set_option maxHeartbeats 0 in
theorem PySem.Challenge.cw_loanpairs_k00_words_judged_holds : PySem.Challenge.rw_loanpairs_k00_words_judged.Holds := by
  w_on; o_law; k_head; (case hw => w_witness2)
  k_fill
  refine L2.walk_of (l := PySem.Challenge.rw_loanpairs_k00_words_judged) (n := 63) (k := 9) (x := "script") (CX := fun _ => L2.CX0) (sp := fun w => Lp.spLaw _) rfl (by decide) rfl ⟨rfl, by decide, by decide⟩ (fun w h Y => PySem.W.kIn_of Y) ?F (fun _ _ a ns hl _ hS => ⟨a, ns, rfl, hS, hl, fun _ => rfl⟩) (fun _ _ _ _ _ h => h)
  case F =>
    intro w mg fa h KX G hmg
    refine' Lp.all_mk KX G hmg ?a0 ?l0 ?c0 ?k0 ?a1 ?l1 ?c1 ?k1 ?a2 ?l2 ?c2 ?k2 ?a3 ?l3 ?c3 ?k3 ?a4 ?l4 ?c4 ?k4 ?a5 ?l5 ?c5 ?k5 ?a6 ?l6 ?c6 ?k6 ?a7 ?l7 ?c7 ?k7 ?a8 ?l8 ?c8 ?k8 ?a9 ?l9 ?c9 ?k9 ?a10 ?l10 ?c10 ?k10 ?a11 ?l11 ?c11 ?k11 ?a12 ?l12 ?c12 ?k12 ?a13 ?l13 ?c13 ?k13 ?a14 ?l14 ?c14 ?k14 ?a15 ?l15 ?c15 ?k15 ?a16 ?l16 ?c16 ?k16 ?a17 ?l17 ?c17 ?k17 ?a18 ?l18 ?c18 ?k18 ?a19 ?l19 ?c19 ?k19 ?a20 ?l20 ?c20 ?k20 ?gKEYWORDS ?wKEYWORDS ?vKEYWORDS ?gKINDS ?wKINDS ?vKINDS ?gLETTERS ?gMAX_LETTERS ?gMAX_FIELDS ?zisinstance ?zstr ?zbool ?zlen ?zall ?zset ?ztuple ?zlist ?zrange ?zmax ?zmin ?zint ?zabs ?zenumerate
    (case a0 => k_is)
    (case l0 => k_is)
    (case c0 => k_is)
    (case k0 => k_is)
    (case a1 => k_is)
    (case l1 => k_is)
    (case c1 => k_is)
    (case k1 => k_is)
    (case a2 => k_is)
    (case l2 => k_is)
    (case c2 => k_is)
    (case k2 => k_is)
    (case a3 => k_is)
    (case l3 => k_is)
    (case c3 => k_is)
    (case k3 => k_is)
    (case a4 => k_is)
    (case l4 => k_is)
    (case c4 => k_is)
    (case k4 => k_is)
    (case a5 => k_is)
    (case l5 => k_is)
    (case c5 => k_is)
    (case k5 => k_is)
    (case a6 => k_is)
    (case l6 => k_is)
    (case c6 => k_is)
    (case k6 => k_is)
    (case a7 => k_is)
    (case l7 => k_is)
    (case c7 => k_is)
    (case k7 => k_is)
    (case a8 => k_is)
    (case l8 => k_is)
    (case c8 => k_is)
    (case k8 => k_is)
    (case a9 => k_is)
    (case l9 => k_is)
    (case c9 => k_is)
    (case k9 => k_is)
    (case a10 => k_is)
    (case l10 => k_is)
    (case c10 => k_is)
    (case k10 => k_is)
    (case a11 => k_is)
    (case l11 => k_is)
    (case c11 => k_is)
    (case k11 => k_is)
    (case a12 => k_is)
    (case l12 => k_is)
    (case c12 => k_is)
    (case k12 => k_is)
    (case a13 => k_is)
    (case l13 => k_is)
    (case c13 => k_is)
    (case k13 => k_is)
    (case a14 => k_is)
    (case l14 => k_is)
    (case c14 => k_is)
    (case k14 => k_is)
    (case a15 => k_is)
    (case l15 => k_is)
    (case c15 => k_is)
    (case k15 => k_is)
    (case a16 => k_is)
    (case l16 => k_is)
    (case c16 => k_is)
    (case k16 => k_is)
    (case a17 => k_is)
    (case l17 => k_is)
    (case c17 => k_is)
    (case k17 => k_is)
    (case a18 => k_is)
    (case l18 => k_is)
    (case c18 => k_is)
    (case k18 => k_is)
    (case a19 => k_is)
    (case l19 => k_is)
    (case c19 => k_is)
    (case k19 => k_is)
    (case a20 => k_is)
    (case l20 => k_is)
    (case c20 => k_is)
    (case k20 => k_is)
    (case gKEYWORDS => k_is)
    (case wKEYWORDS => k_is)
    (case gKINDS => k_is)
    (case wKINDS => k_is)
    (case gLETTERS => k_is)
    (case gMAX_LETTERS => k_is)
    (case gMAX_FIELDS => k_is)
    (case zisinstance => k_is)
    (case zstr => k_is)
    (case zbool => k_is)
    (case zlen => k_is)
    (case zall => k_is)
    (case zset => k_is)
    (case ztuple => k_is)
    (case zlist => k_is)
    (case zrange => k_is)
    (case zmax => k_is)
    (case zmin => k_is)
    (case zint => k_is)
    (case zabs => k_is)
    (case zenumerate => k_is)
    (case vKEYWORDS => exact ⟨by decide, by repeat (first | exact .nil | refine .cons ⟨_, rfl⟩ ?_)⟩)
    (case vKINDS => exact ⟨by decide, by repeat (first | exact .nil | refine .cons ⟨_, rfl⟩ ?_)⟩)
