import PyProof.Rows.All
import Wide.All
import OpenK.AllK
import Wide.FinOn
import HandS.ForMost
import HandS.SetKeys
import HandS.Strs
import HandS.Wide
import HandS.IsInst
import HandS.Evl
import HandS.Codes
import HandS.Walk
import HandS.TupAny
import HandS.Style
import HandS.TupLe
import HandS.Deep
import HandS.DictEq
import PyProof.EqKinds
import KE.GoesMore
import HandS.Iter
import PyProof.EnumMake
import PyProof.NeKinds
import HandS.More
import HandS.Zip
import HandS.FStr
import HandS.StrMore
import HandS.WordsExc
import HandS.ExcOwn
import HandS.TryOnly
import HandS.ExcInit
import HandS.ExcField
import HandS.Dict
import HandS.TupMul
import PySem.Challenge.RW_loanpairs_k05_steps_and_texts
set_option Elab.async false
set_option linter.all false
set_option maxRecDepth 100000
namespace Lp
open PySem PySem.Spec PyProof.Rows L2

/-! ### the members of a list, each once -/
section
variable {α : Type} [DecidableEq α]
def dstep (acc : List α) (k : α) : List α := if k ∈ acc then acc else acc ++ [k]
def dist (ks : List α) : List α := ks.foldl dstep []
theorem dist_snoc (ks : List α) (k : α) : dist (ks ++ [k]) = dstep (dist ks) k := by
  unfold dist
  rw [List.foldl_append]
  rfl
theorem dstep_mem {acc : List α} {k j : α} : j ∈ dstep acc k ↔ j ∈ acc ∨ j = k := by
  unfold dstep
  by_cases h : k ∈ acc
  · rw [if_pos h]
    constructor
    · exact .inl
    · rintro (z | rfl)
      · exact z
      · exact h
  · rw [if_neg h, List.mem_append, List.mem_singleton]
theorem foldl_dstep_mem (j : α) : ∀ (ks acc : List α), j ∈ ks.foldl dstep acc ↔ j ∈ acc ∨ j ∈ ks
  | [], acc => by simp
  | k :: r, acc => by
    show j ∈ r.foldl dstep (dstep acc k) ↔ _
    rw [foldl_dstep_mem j r, dstep_mem, List.mem_cons, or_assoc]
theorem dist_mem {ks : List α} {j : α} : j ∈ dist ks ↔ j ∈ ks := by
  unfold dist
  rw [foldl_dstep_mem]
  simp
theorem foldl_dstep_le : ∀ (ks acc : List α), (ks.foldl dstep acc).length ≤ acc.length + ks.length
  | [], acc => by simp
  | k :: r, acc => by
    have ih := foldl_dstep_le r (dstep acc k)
    have h : (dstep acc k).length ≤ acc.length + 1 := by
      unfold dstep
      split
      · omega
      · rw [List.length_append, List.length_singleton]
        omega
    show (r.foldl dstep (dstep acc k)).length ≤ _
    rw [List.length_cons]
    omega
theorem dist_le (ks : List α) : (dist ks).length ≤ ks.length := by
  have h := foldl_dstep_le ks []
  unfold dist
  simpa using h
theorem foldl_dstep_eq : ∀ (ks acc : List α), (ks.foldl dstep acc).length = acc.length + ks.length ↔ (∀ k ∈ ks, k ∉ acc) ∧ ks.Nodup
  | [], acc => by simp
  | k :: r, acc => by
    show (r.foldl dstep (dstep acc k)).length = _ ↔ _
    rw [List.length_cons, List.nodup_cons]
    have le := foldl_dstep_le r (dstep acc k)
    by_cases h : k ∈ acc
    · have e : dstep acc k = acc := if_pos h
      rw [e] at le ⊢
      constructor
      · intro z
        omega
      · rintro ⟨z, _⟩
        exact absurd h (z k List.mem_cons_self)
    · have e : dstep acc k = acc ++ [k] := if_neg h
      rw [e, show acc.length + (r.length + 1) = (acc ++ [k]).length + r.length by rw [List.length_append, List.length_singleton]; omega, foldl_dstep_eq r (acc ++ [k])]
      constructor
      · rintro ⟨z1, z2⟩
        refine ⟨fun j hj => ?_, ?_, z2⟩
        · rcases List.mem_cons.mp hj with rfl | hj
          · exact h
          · exact fun q => z1 j hj (List.mem_append_left _ q)
        · exact fun q => z1 k q (List.mem_append_right _ (List.mem_singleton.mpr rfl))
      · rintro ⟨z1, z2, z3⟩
        refine ⟨fun j hj q => ?_, z3⟩
        rcases List.mem_append.mp q with q | q
        · exact z1 j (List.mem_cons_of_mem _ hj) q
        · rw [List.mem_singleton] at q
          subst q
          exact z2 hj
theorem dist_eq (ks : List α) : (dist ks).length = ks.length ↔ ks.Nodup := by
  have h := foldl_dstep_eq ks []
  simp only [List.length_nil, Nat.zero_add] at h
  unfold dist
  rw [h]
  simp
end

/-! ### set(xs) of a list or tuple of ints and texts -/
instance (priority := 5000) keyBeq : BEq Key := instBEqOfDecidableEq
section
variable {P : Program} {w : World} {A : Around} {R : Result → Shared → Prop} {I : Addr} {fp wr : List Addr} {G : Array GenState → Array GenState → Prop} {n : Nat} {Pv : Nat → Value → Prop} {St : Nat → Shared → Prop}
/-- what the set at c is to hold when the keys of ks have been added -/
abbrev SetHas (P : Program) (w : World) (h : Heap) (c : Addr) (ks : List Key) : Prop := h.SetOf (mixKind P w) c (fun j => decide (j ∈ ks)) (dist ks).length
theorem SetHas.moved {h h' : Heap} {c : Addr} {ks : List Key} (z : SetHas P w h c ks) (k : ∀ o, h.get? c = some o → h'.get? c = some o) : SetHas P w h' c ks := by
  obtain ⟨o, es, ep, t, ho, q⟩ := z
  exact ⟨o, es, ep, t, k o ho, q⟩
theorem loopKeys (W : WalksS P w A.in1 I fp wr G n Pv St) {c : Addr} (out : c ∉ fp) (ks : List Key) (len : ks.length = n) (few : n + 1 < scanBound)
    (hval : ∀ i v, Pv i v → ∃ k, ks[i]? = some k ∧ RelV (kV k) v) :
    ∀ (m i : Nat) (s : Shared), i + m = n → St i s → SetHas P w s.heap c (ks.take i) →
      (∀ z, Moved (c :: wr) G s z → SetHas P w z.heap c ks → R (.ok (.ret .none)) z) →
      codeAny (model P w) A (.builtin "set.update.loop" ⟨[.ref c, .ref I], []⟩) R s := by
  have outw : c ∉ wr := fun q => out (W.sub _ q)
  have wide : ∀ q ∈ wr, q ∈ c :: wr := fun q hq => List.mem_cons_of_mem _ hq
  intro m
  induction m with
  | zero =>
    intro i s him hst hold fin
    obtain rfl : i = n := by omega
    refine codeAny_builtin PyProof.Rows.F.entry_set_update_loop (?_ : _)
    rw [Around.under_plainId PyProof.Rows.F.plain_set_update_loop (_ : _)]
    show wpAny _ A.in1 (pyNext (Value.ref I) >>= _) _ _ s
    refine wpAny_bind (W.done s _ _ hst fun z mv => ?_)
    show wpAny _ A.in1 (ret (Value.none)) _ _ z
    have al : ks.take i = ks := List.take_of_length_le (by omega)
    rw [al] at hold
    exact wpAny_pure (fin z (mv.mono wide) (hold.moved fun o e => mv.heap c o outw e))
  | succ m ih =>
    intro i s him hst hold fin
    have below : i < n := by omega
    refine codeAny_builtin PyProof.Rows.F.entry_set_update_loop (?_ : _)
    rw [Around.under_plainId PyProof.Rows.F.plain_set_update_loop (_ : _)]
    show wpAny _ A.in1 (pyNext (Value.ref I) >>= _) _ _ s
    refine wpAny_bind (W.item i s _ _ below hst fun v z pv hst2 mv => ?_)
    obtain ⟨k, hk, rk⟩ := hval i v pv
    have hold2 : SetHas P w z.heap c (ks.take i) := hold.moved fun o e => mv.heap c o outw e
    show wpAny _ A.in1 (holding [v] (setAdd c v) >>= _) _ _ z
    refine wpAny_bind (wpAny_holding (?_ : _))
    unfold setAdd
    refine wpAny_holding (?_ : _)
    refine wpAny_bind ((mixKind P w).pyHash (k := k) (kV_is rk) (?_ : _))
    have room : (dist (ks.take i)).length + 1 < scanBound := by
      have a := dist_le (ks.take i)
      rw [List.length_take] at a
      omega
    refine wpAny_setAddHashed_of (knd := mixKind P w) (s := { z with toks := z.toks + 1 }) (kV_is rk) (key_scan rk) hold2 room fun h' same hold3 => ?_
    have next : SetHas P w h' c (ks.take (i + 1)) := by
      have e : ks.take (i + 1) = ks.take i ++ [k] := by
        rw [List.take_add_one, hk]
        rfl
      rw [e]
      refine SetOf_congr hold3 (fun j => (?_ : _)) (?_ : _)
      · rw [← Bool.decide_or]
        exact decide_eq_decide.mpr (by rw [List.mem_append, List.mem_singleton])
      · rw [dist_snoc]
        unfold dstep
        by_cases q : k ∈ ks.take i
        · rw [if_pos (decide_eq_true q), if_pos (dist_mem.mpr q)]
        · rw [if_neg (fun b => q (of_decide_eq_true b)), if_neg (fun b => q (dist_mem.mp b)), List.length_append, List.length_singleton]
    refine wpAny_pure ⟨plainId_quiet PyProof.Rows.F.plain_set_update_loop _, ih (i + 1) _ (by omega) (W.frame _ z _ _ hst2 (Nat.le_succ _) fun q hq o e => ?_) next fun y mv2 hold4 => ?_⟩
    · rw [same.2 q (fun z : q = c => out (z ▸ hq))]
      exact e
    · refine fin y (Moved.trans W.gtrans ((mv.mono wide).then_heap (Nat.le_succ _) fun q o hq e => ?_) mv2) hold4
      rw [same.2 q (fun z : q = c => hq (z ▸ List.mem_cons_self))]
      exact e
end
section
variable {P : Program} {w : World} {A : Around} {E : Value → Shared → Prop} {s : Shared}
/-- a set as it begins -/
abbrev noSet (led : Bool) : Obj := { cls := .type "set", dict := none, data := .set #[] 0 (.fresh 0 0 led) }

set_option maxHeartbeats 3200000 in
theorem set_of_list {l : Addr} {vs : List Value} {ks : List Key} {Q : Value → Shared → Prop} (calm : A.handled = none) (at_ : s.heap.IsList l vs.toArray)
    (rel : Vals (ks.map kV) vs) (few : ks.length + 1 < scanBound)
    (q : ∀ (h' : Heap) (tk : Nat), SetHas P w h' s.heap.objs.size ks → (∀ b o, s.heap.get? b = some o → h'.get? b = some o) → Q (.ref s.heap.objs.size) { s with heap := h', toks := tk }) :
    wpAny (model P w) A (call (.type "set") [.ref l]) Q E s := by
  have len : vs.toArray.size = ks.length := by
    rw [List.size_toArray, ← rel.length, List.length_map]
  obtain ⟨_, _, mro⟩ := PySem.F.called_set.mro
  have f1 := PySem.F.called_set.made
  have f2 := PySem.F.called_set.sub
  refine wpAny_call (codeAny_of_tree (?_ : _))
  show wpAny _ _ (callAny (Value.type "set") _) _ _ _
  refine wpAny_pure ⟨Code.quiet_builtin (_ : _) (by decide +kernel), codeAny_builtin PySem.F.entry_type_call (?_ : _)⟩
  rw [Around.under_plain (weight_type_call_type "set" [Value.ref l] []) rfl]
  have f3 := PySem.F.called_set.notType
  have f4 := PySem.F.called_set.canCreate
  have f5 := PySem.F.typeCall_set_1 (Value.ref l)
  repeat (any_goals (first | assumption | wp_step))
  refine codeAny_mono (code_set_new_1 (Value.ref l) (E := E) (Q₁ := fun r z => ∃ led : Bool, r = .ref s.heap.objs.size ∧ z = { s with heap := s.heap.push (noSet led) }) fun led => ⟨led, rfl, rfl⟩) fun r z hr => ?_
  cases r with
  | error e => exact hr
  | ok fl =>
    cases fl with
    | ret obj =>
      obtain ⟨led, rfl, rfl⟩ := hr
      have g0 : (s.heap.push (noSet led)).get? s.heap.objs.size = some (noSet led) := Heap.get?_push_size _ rfl
      have ty : Shared.TypeIs { s with heap := s.heap.push (noSet led) } (.ref s.heap.objs.size) "set" := ⟨_, g0, rfl⟩
      have f6 := PySem.F.called_set.init.lookup
      have f7 := PySem.F.called_set.init.bind (Value.ref s.heap.objs.size)
      repeat (any_goals (first | assumption | wp_step))
      refine codeAny_mono (codeAny_call_builtin (R := wants (fun r z => r = .none ∧ ∃ h' tk, z = { s with heap := h', toks := tk } ∧ SetHas P w h' s.heap.objs.size ks ∧
        (∀ b o, s.heap.get? b = some o → h'.get? b = some o)) E) PySem.F.called_set.init.plain PySem.F.entry_set_init (check_set_init_1 ty (?_ : _))) fun r2 z2 hr2 => ?_
      · obtain ⟨⟨oc, od, odt, osl⟩, ho, hc, nl, hd⟩ := at_
        simp only at hc hd
        subst hc
        subst hd
        have ho' : (s.heap.push (noSet led)).get? l = some { cls := .type "list", dict := od, data := .seq vs.toArray nl, slots := osl } := Heap.get?_push_of_some _ ho
        have f8 := PySem.F.sub_list_set
        have f9 := PySem.F.sub_list_frozenset
        have nd : (Value.type "list" == Value.type "dict") = false := by decide +kernel
        have at1 : (s.heap.push (noSet led)).IsList l vs.toArray := ⟨_, ho', rfl, nl, rfl⟩
        have nsd : noSet led = { cls := .type "set", dict := none, data := .set #[] 0 (.fresh 0 0 led) } := rfl
        unfold Builtin.«set.__init__» noKeywords Builtin.Frozenset.updateFrom
        generalize hPI : pyIter = PI
        wp_walk
        subst hPI
        refine wpAny_pyIter_list at1 (?_ : _)
        refine wpAny_bind (wpAny_runValue (?_ : _))
        have lo : l < s.heap.objs.size := Heap.lt_size ho
        have calm3 : A.in1.in1.in1.handled = none := by
          simp [calm]
        have apart : l ≠ (s.heap.push (noSet led)).objs.size := by
          rw [Heap.size_push]
          exact Nat.ne_of_lt (Nat.lt_succ_of_lt lo)
        have out : s.heap.objs.size ∉ [(s.heap.push (noSet led)).objs.size, l] := by
          rw [Heap.size_push]
          simp only [List.mem_cons, List.not_mem_nil, or_false, not_or]
          exact ⟨Nat.ne_of_lt (Nat.lt_succ_self _), (Nat.ne_of_lt lo).symm⟩
        refine loopKeys ((Walks.list calm3 _ l apart vs.toArray).toS) out ks len.symm (by omega) (fun i v hv => ?hv) vs.toArray.size 0 _ (by omega) ⟨⟨_, Heap.get?_push_size _ rfl, rfl, rfl⟩, (at1.push _)⟩ ?h0 ?h1
        case hv =>
          have hv2 : vs[i]? = some v := by simpa using hv
          cases e : ks[i]? with
          | none =>
            have b1 : ks.length ≤ i := List.getElem?_eq_none_iff.mp e
            have b2 := (List.getElem?_eq_some_iff.mp hv2).1
            rw [List.size_toArray] at len
            omega
          | some k =>
            obtain ⟨u, hu, ru⟩ := rel.get (i := i) (x := kV k) (by rw [List.getElem?_map, e] <;> rfl)
            rw [hv2] at hu
            cases hu
            exact ⟨k, rfl, ru⟩
        case h0 =>
          have gi : ((s.heap.push (noSet led)).push { cls := .type "list_iterator", data := .fields #[.ref l, .int 0 0] }).get? s.heap.objs.size = some (noSet led) := Heap.get?_push_of_some _ g0
          exact (setObjOf_fresh (knd := mixKind P w) led).setOf gi (by unfold scanBound; omega)
        case h1 =>
          intro z mv hold
          obtain ⟨h', g', d', tk', os'⟩ := z
          obtain rfl : g' = s.gens := mv.gens
          obtain rfl : d' = s.drawn := mv.drawn
          obtain rfl : os' = s.os := mv.os
          show wpAny _ _ _ _ _ _
          refine wpAny_pure (?_ : _)
          show wpAny _ _ (ret (Value.none)) _ _ _
          refine wpAny_pure ⟨rfl, h', tk', rfl, hold, fun b o e => ?_⟩
          have lb : b < s.heap.objs.size := Heap.lt_size e
          have e2 : ((s.heap.push (noSet led)).push { cls := .type "list_iterator", data := .fields #[.ref l, .int 0 0] }).get? b = some o := Heap.get?_push_of_some _ (Heap.get?_push_of_some _ e)
          refine mv.heap b o (?_ : _) e2
          rw [Heap.size_push]
          simp only [List.mem_cons, List.not_mem_nil, or_false, not_or]
          exact ⟨Nat.ne_of_lt lb, Nat.ne_of_lt (Nat.lt_succ_of_lt lb)⟩
      · cases r2 with
        | error e => exact hr2
        | ok fl2 =>
          cases fl2 with
          | ret r =>
            obtain ⟨rfl, h', tk, rfl, hold, keep⟩ := hr2
            repeat (any_goals (first | assumption | wp_step))
            exact q _ _ hold keep
          | _ => exact hr2.elim
    | _ => exact hr.elim

set_option maxHeartbeats 3200000 in
theorem set_of_tuple {l : Addr} {vs : List Value} {ks : List Key} {Q : Value → Shared → Prop} (calm : A.handled = none) (at_ : s.heap.IsTuple l vs.toArray)
    (rel : Vals (ks.map kV) vs) (few : ks.length + 1 < scanBound)
    (q : ∀ (h' : Heap) (tk : Nat), SetHas P w h' s.heap.objs.size ks → (∀ b o, s.heap.get? b = some o → h'.get? b = some o) → Q (.ref s.heap.objs.size) { s with heap := h', toks := tk }) :
    wpAny (model P w) A (call (.type "set") [.ref l]) Q E s := by
  have len : vs.toArray.size = ks.length := by
    rw [List.size_toArray, ← rel.length, List.length_map]
  obtain ⟨_, _, mro⟩ := PySem.F.called_set.mro
  have f1 := PySem.F.called_set.made
  have f2 := PySem.F.called_set.sub
  refine wpAny_call (codeAny_of_tree (?_ : _))
  show wpAny _ _ (callAny (Value.type "set") _) _ _ _
  refine wpAny_pure ⟨Code.quiet_builtin (_ : _) (by decide +kernel), codeAny_builtin PySem.F.entry_type_call (?_ : _)⟩
  rw [Around.under_plain (weight_type_call_type "set" [Value.ref l] []) rfl]
  have f3 := PySem.F.called_set.notType
  have f4 := PySem.F.called_set.canCreate
  have f5 := PySem.F.typeCall_set_1 (Value.ref l)
  repeat (any_goals (first | assumption | wp_step))
  refine codeAny_mono (code_set_new_1 (Value.ref l) (E := E) (Q₁ := fun r z => ∃ led : Bool, r = .ref s.heap.objs.size ∧ z = { s with heap := s.heap.push (noSet led) }) fun led => ⟨led, rfl, rfl⟩) fun r z hr => ?_
  cases r with
  | error e => exact hr
  | ok fl =>
    cases fl with
    | ret obj =>
      obtain ⟨led, rfl, rfl⟩ := hr
      have g0 : (s.heap.push (noSet led)).get? s.heap.objs.size = some (noSet led) := Heap.get?_push_size _ rfl
      have ty : Shared.TypeIs { s with heap := s.heap.push (noSet led) } (.ref s.heap.objs.size) "set" := ⟨_, g0, rfl⟩
      have f6 := PySem.F.called_set.init.lookup
      have f7 := PySem.F.called_set.init.bind (Value.ref s.heap.objs.size)
      repeat (any_goals (first | assumption | wp_step))
      refine codeAny_mono (codeAny_call_builtin (R := wants (fun r z => r = .none ∧ ∃ h' tk, z = { s with heap := h', toks := tk } ∧ SetHas P w h' s.heap.objs.size ks ∧
        (∀ b o, s.heap.get? b = some o → h'.get? b = some o)) E) PySem.F.called_set.init.plain PySem.F.entry_set_init (check_set_init_1 ty (?_ : _))) fun r2 z2 hr2 => ?_
      · obtain ⟨⟨oc, od, odt, osl⟩, ho, hc, nl, hd⟩ := at_
        simp only at hc hd
        subst hc
        subst hd
        have ho' : (s.heap.push (noSet led)).get? l = some { cls := .type "tuple", dict := od, data := .seq vs.toArray nl, slots := osl } := Heap.get?_push_of_some _ ho
        have f8 := PySem.F.sub_tuple_set
        have f9 := PySem.F.sub_tuple_frozenset
        have nd : (Value.type "tuple" == Value.type "dict") = false := by decide +kernel
        have at1 : (s.heap.push (noSet led)).IsTuple l vs.toArray := ⟨_, ho', rfl, nl, rfl⟩
        have nsd : noSet led = { cls := .type "set", dict := none, data := .set #[] 0 (.fresh 0 0 led) } := rfl
        unfold Builtin.«set.__init__» noKeywords Builtin.Frozenset.updateFrom
        generalize hPI : pyIter = PI
        wp_walk
        subst hPI
        refine wpAny_pyIter_tuple at1 (?_ : _)
        refine wpAny_bind (wpAny_runValue (?_ : _))
        have lo : l < s.heap.objs.size := Heap.lt_size ho
        have calm3 : A.in1.in1.in1.handled = none := by
          simp [calm]
        have apart : l ≠ (s.heap.push (noSet led)).objs.size := by
          rw [Heap.size_push]
          exact Nat.ne_of_lt (Nat.lt_succ_of_lt lo)
        have out : s.heap.objs.size ∉ [(s.heap.push (noSet led)).objs.size, l] := by
          rw [Heap.size_push]
          simp only [List.mem_cons, List.not_mem_nil, or_false, not_or]
          exact ⟨Nat.ne_of_lt (Nat.lt_succ_self _), (Nat.ne_of_lt lo).symm⟩
        refine loopKeys ((Walks.tuple calm3 _ l apart vs.toArray).toS) out ks len.symm (by omega) (fun i v hv => ?hv) vs.toArray.size 0 _ (by omega) ⟨⟨_, Heap.get?_push_size _ rfl, rfl, rfl⟩, (at1.push _)⟩ ?h0 ?h1
        case hv =>
          have hv2 : vs[i]? = some v := by simpa using hv
          cases e : ks[i]? with
          | none =>
            have b1 : ks.length ≤ i := List.getElem?_eq_none_iff.mp e
            have b2 := (List.getElem?_eq_some_iff.mp hv2).1
            rw [List.size_toArray] at len
            omega
          | some k =>
            obtain ⟨u, hu, ru⟩ := rel.get (i := i) (x := kV k) (by rw [List.getElem?_map, e] <;> rfl)
            rw [hv2] at hu
            cases hu
            exact ⟨k, rfl, ru⟩
        case h0 =>
          have gi : ((s.heap.push (noSet led)).push { cls := .type "tuple_iterator", data := .fields #[.ref l, .int 0 0] }).get? s.heap.objs.size = some (noSet led) := Heap.get?_push_of_some _ g0
          exact (setObjOf_fresh (knd := mixKind P w) led).setOf gi (by unfold scanBound; omega)
        case h1 =>
          intro z mv hold
          obtain ⟨h', g', d', tk', os'⟩ := z
          obtain rfl : g' = s.gens := mv.gens
          obtain rfl : d' = s.drawn := mv.drawn
          obtain rfl : os' = s.os := mv.os
          show wpAny _ _ _ _ _ _
          refine wpAny_pure (?_ : _)
          show wpAny _ _ (ret (Value.none)) _ _ _
          refine wpAny_pure ⟨rfl, h', tk', rfl, hold, fun b o e => ?_⟩
          have lb : b < s.heap.objs.size := Heap.lt_size e
          have e2 : ((s.heap.push (noSet led)).push { cls := .type "tuple_iterator", data := .fields #[.ref l, .int 0 0] }).get? b = some o := Heap.get?_push_of_some _ (Heap.get?_push_of_some _ e)
          refine mv.heap b o (?_ : _) e2
          rw [Heap.size_push]
          simp only [List.mem_cons, List.not_mem_nil, or_false, not_or]
          exact ⟨Nat.ne_of_lt lb, Nat.ne_of_lt (Nat.lt_succ_of_lt lb)⟩
      · cases r2 with
        | error e => exact hr2
        | ok fl2 =>
          cases fl2 with
          | ret r =>
            obtain ⟨rfl, h', tk, rfl, hold, keep⟩ := hr2
            repeat (any_goals (first | assumption | wp_step))
            exact q _ _ hold keep
          | _ => exact hr2.elim
    | _ => exact hr.elim

end
section
variable {X : Cx}
/-- set(xs): xs a list or tuple of ints and texts -/
def rSetOfK (K : PySem.W.Frag) (P : Program) (w : World) : List V → Hp → VK → Prop := fun vs H Q => ∃ (l : Addr) (ks : List Key), vs = [V.ref l] ∧ (SqL K H l (ks.map kV) ∨ SqT K H l (ks.map kV)) ∧ ks.length ≤ 4000 ∧
  ∀ p, H p = none → Q (.ref p) (upd H p (SetK P w p (fun j => decide (j ∈ ks)) (dist ks).length))
theorem cr_setOfK (hc : X.calm = true) : CallR X (.type "set") (rSetOfK X.K X.prog X.w) := by
  intro pins s σ H vs us Q I r h
  obtain ⟨l, ks, rfl, sq, few, q⟩ := h
  rw [Vals.ref1 r]
  have few2 : ks.length + 1 < scanBound := by
    unfold scanBound
    omega
  have fin : ∀ (h' : Heap) (tk : Nat), SetHas X.prog X.w h' s.heap.objs.size ks → (∀ b o, s.heap.get? b = some o → h'.get? b = some o) →
      ∃ y H2, Inv X pins σ H2 { s with heap := h', toks := tk } ∧ RelV y (.ref s.heap.objs.size) ∧ Q y H2 := fun h' tk hold keep =>
    ⟨.ref s.heap.objs.size, _, I.laid (t' := tk) keep (Nat.le_refl _) (setK_new hold), rfl, q _ (I.hok.fresh (Nat.le_refl _))⟩
  rcases sq with sq | sq
  · obtain ⟨its, rv, pl, _⟩ := I.list sq
    exact set_of_list (I.ok.hd hc) pl.isList rv few2 fin
  · obtain ⟨its, rv, pl, _⟩ := I.tuple sq
    exact set_of_tuple (I.ok.hd hc) pl rv few2 fin
/-- len of a set of ints and texts -/
theorem call_lenK : CallR X (.builtin "len") (fun vs H Q => ∃ (a : Addr) (S : Key → Bool) (n : Nat), vs = [V.ref a] ∧ H a = some (SetK X.prog X.w a S n) ∧ Q (.int n) H) := by
  intro pins s σ H vs us Q I r h
  obtain ⟨a, S, n, rfl, ha, q⟩ := h
  rw [Vals.ref1 r]
  obtain ⟨o, es, ep, t, ho, hex, hd, _, _, few, hf, hn⟩ := setK_get I ha
  unfold scanBound at few
  refine call_len_set ho hex hd hf (by omega) ⟨.int n, H, I.tok _, ⟨_, by rw [hn]⟩, q⟩
end
end Lp

namespace Lp
open PySem PySem.Spec PyProof.Rows L2

/-! ### further operators -/
def CPowW (i j : Int) : Prop := 0 ≤ j ∧ (Builtin.Int.intBits i : Int) * j ≤ 2 ^ 27
section
variable {X : Cx}
theorem op_powW : OpR X (binaryOp .Pow) (rI CPowW fun i j => .int (i ^ j.toNat)) := opI fun _ _ _ _ _ _ _ hc q => pow_int hc.1 hc.2 q
/-- a text k times -/
def txtRep (z : Str) (k : Nat) : Str := ⟨((List.replicate k z.cps.toList).flatten).toArray⟩
theorem txtRep_list (z : Str) (k : Nat) : (txtRep z k).cps.toList = (List.replicate k z.cps.toList).flatten := rfl
theorem fold_app (a : Array Nat) : ∀ (k : Nat) (acc : Array Nat), ((List.replicate k a).foldl (· ++ ·) acc).toList = acc.toList ++ (List.replicate k a.toList).flatten
  | 0, acc => by simp
  | k + 1, acc => by
    rw [List.replicate_succ, List.foldl_cons, fold_app a k (acc ++ a), List.replicate_succ, List.flatten_cons, Array.toList_append, List.append_assoc]
theorem op_repS : OpR X (binaryOp .Mult) (fun x y H Q => ∃ (z : Str) (k : Nat), x = .str z ∧ y = .int (k : Int) ∧ 2 ≤ k ∧ k ≤ 100000 ∧ 0 < z.length ∧ z.length * k ≤ 100000 ∧ Q (.str (txtRep z k)) H) := by
  intro pins s σ H x y v u Q I rx ry h
  obtain ⟨z, k, rfl, rfl, h2, hk, h0, hz, q⟩ := h
  obtain ⟨t, rfl⟩ := rx
  obtain ⟨t', rfl⟩ := ry
  have e1 : ¬ ((k : Int) < 1) := by omega
  have e2 : ((k : Int) == 1 || z.length == 0) = false := by
    rw [Bool.or_eq_false_iff]
    exact ⟨beq_eq_false_iff_ne.mpr (by omega), beq_eq_false_iff_ne.mpr (by omega)⟩
  refine PySem.P.mul_str ?_ (fun _ _ => ?_) (fun _ _ => ?_) ?_
  · rw [Bool.or_eq_false_iff]
    exact ⟨decide_eq_false (by omega), decide_eq_false (by omega)⟩
  · have a : (2 ^ 63 - 1 : Int) / k ≥ (2 ^ 63 - 1 : Int) / 100000 := by
      rw [ge_iff_le, Int.le_ediv_iff_mul_le (by omega), show (2 ^ 63 - 1 : Int) / 100000 = 92233720368547 by decide]
      omega
    have b : (2 ^ 63 - 1 : Int) / 100000 = 92233720368547 := by decide
    have c : z.length ≤ z.length * k := Nat.le_mul_of_pos_right _ (by omega)
    omega
  · show Builtin.Str.tooLong _ = false
    unfold Builtin.Str.tooLong
    have := sizeLine_eq
    exact decide_eq_false (by rw [Int.toNat_natCast]; omega)
  · rw [if_neg e1, if_neg (by rw [e2]; exact Bool.false_ne_true)]
    have e3 : (⟨(List.replicate (k : Int).toNat z.cps).foldl (· ++ ·) #[]⟩ : Str) = txtRep z k := by
      unfold txtRep
      congr 1
      apply Array.ext'
      rw [fold_app]
      simp
    rw [e3]
    dsimp only [Made.post]
    refine ⟨?_, .str (txtRep z k), H, I.tok _, ⟨_, rfl⟩, q⟩
    have e4 : (txtRep z k).length = k * z.length := by
      show (txtRep z k).cps.size = k * z.cps.size
      rw [← Array.length_toList, txtRep_list]
      simp only [List.length_flatten, List.map_replicate, List.sum_replicate_nat, Array.length_toList]
    rw [e4, Nat.mul_comm, sizeLine_eq]
    omega
end

/-! ### what stays, the bag -/
/-- all that is tracked stays, but at b -/
def Keep (b : Addr) (H H' : Hp) : Prop := ∀ a o, a ≠ b → H a = some o → H' a = some o
theorem Keep.refl (b : Addr) (H : Hp) : Keep b H H := fun _ _ _ h => h
theorem Keep.trans {b : Addr} {H H1 H2 : Hp} (k : Keep b H H1) (l : Keep b H1 H2) : Keep b H H2 := fun a o n h => l a o n (k a o n h)
theorem Keep.of {b : Addr} {H H' : Hp} (s : Same H H') : Keep b H H' := fun a o _ h => s a o h
theorem Keep.upd {b : Addr} {H : Hp} {o : HO} : Keep b H (upd H b o) := fun a u n h => by
  rw [upd_ne n]
  exact h
theorem same_upd {H : Hp} {p : Addr} {o : HO} (h : H p = none) : Same H (upd H p o) := fun b x e => by
  rw [upd_ne (ne_of_none e h)]
  exact e
theorem keep_new {b : Addr} {H : Hp} {p : Addr} {o : HO} (h : H p = none) : Keep b H (L2.upd H p o) := .of (same_upd h)
theorem Keep.snoc {b : Addr} {H H1 : Hp} {p : Addr} {o : HO} (k : Keep b H H1) (h : H1 p = none) : Keep b H (L2.upd H1 p o) := k.trans (keep_new h)
theorem same_snoc {H H1 : Hp} {p : Addr} {o : HO} (k : Same H H1) (h : H1 p = none) : Same H (L2.upd H1 p o) := k.trans (same_upd h)
/-- what was not there may change -/
theorem same_put {H : Hp} {p : Addr} {o : HO} {H1 : Hp} (k : Same H H1) (h : H p = none) : Same H (L2.upd H1 p o) := fun a u e => by
  rw [upd_ne (ne_of_none e h)]
  exact k a u e
theorem keep_put {b : Addr} {H : Hp} {p : Addr} {o : HO} {H1 : Hp} (k : Keep b H H1) (h : H p = none) : Keep b H (L2.upd H1 p o) := fun a u n e => by
  rw [upd_ne (ne_of_none e h)]
  exact k a u n e
theorem sqT_same {K : PySem.W.Frag} {H H' : Hp} {a : Addr} {xs : List V} (e : Same H H') (h : SqT K H a xs) : SqT K H' a xs := by
  rcases h with (h | ⟨o, h⟩) | h
  · exact .inl (.inl (e _ _ h))
  · exact .inl (.inr ⟨o, e _ _ h⟩)
  · exact .inr h
theorem sqL_keep {K : PySem.W.Frag} {b : Addr} {H H' : Hp} {a : Addr} {xs : List V} (e : Keep b H H') (n : a ≠ b) (h : SqL K H a xs) : SqL K H' a xs := by
  rcases h with (h | ⟨o, h⟩) | h
  · exact .inl (.inl (e _ _ n h))
  · exact .inl (.inr ⟨o, e _ _ n h⟩)
  · exact .inr h
theorem sqT_keep {K : PySem.W.Frag} {b : Addr} {H H' : Hp} {a : Addr} {xs : List V} (e : Keep b H H') (n : a ≠ b) (h : SqT K H a xs) : SqT K H' a xs := by
  rcases h with (h | ⟨o, h⟩) | h
  · exact .inl (.inl (e _ _ n h))
  · exact .inl (.inr ⟨o, e _ _ n h⟩)
  · exact .inr h
/-- a bag at b, out of which at most n rolls were drawn behind its number's end -/
def Bag (H : Hp) (b : Addr) (n : Nat) : Prop := ∃ x y z : Int, H b = some (.lst [.int x, .int y, .int z]) ∧ 0 ≤ z ∧ z ≤ n
theorem Bag.mono {H : Hp} {b : Addr} {n m : Nat} (g : Bag H b n) (h : n ≤ m) : Bag H b m := by
  obtain ⟨x, y, z, h1, h2, h3⟩ := g
  exact ⟨x, y, z, h1, h2, by omega⟩
theorem Bag.same {H H' : Hp} {b : Addr} {n : Nat} (g : Bag H b n) (k : Same H H') : Bag H' b n := by
  obtain ⟨x, y, z, h1, h2⟩ := g
  exact ⟨x, y, z, k _ _ h1, h2⟩
theorem Bag.put {H : Hp} {b p : Addr} {n : Nat} {o : HO} (g : Bag H b n) (h : b ≠ p) : Bag (upd H p o) b n := by
  obtain ⟨x, y, z, h1, h2⟩ := g
  exact ⟨x, y, z, by rw [upd_ne h]; exact h1, h2⟩
theorem Bag.new {H : Hp} {b p : Addr} {n : Nat} {o : HO} (g : Bag H b n) (h : H p = none) : Bag (upd H p o) b n := g.same (same_upd h)
theorem Bag.ne {H : Hp} {b p : Addr} {n : Nat} (g : Bag H b n) (h : H p = none) : b ≠ p := by
  obtain ⟨x, y, z, h1, _⟩ := g
  exact ne_of_none h1 h
/-- a list of texts is no bag -/
theorem Bag.strs {H : Hp} {b a : Addr} {n : Nat} {zs : List Str} (g : Bag H b n) (h : H a = some (.lst (zs.map V.str))) : a ≠ b := by
  obtain ⟨x, y, z, h1, _⟩ := g
  refine ne_of h h1 fun e => ?_
  cases zs with
  | nil => cases e
  | cons s r => cases e
theorem Bag.tup {H : Hp} {b a : Addr} {n : Nat} {xs : List V} (g : Bag H b n) (h : H a = some (.tup xs)) : a ≠ b := by
  obtain ⟨x, y, z, h1, _⟩ := g
  exact ne_of h h1 fun e => nomatch e
theorem Bag.dk {H : Hp} {b a : Addr} {n : Nat} {xs : List (Key × V)} (g : Bag H b n) (h : H a = some (.dK xs)) : a ≠ b := by
  obtain ⟨x, y, z, h1, _⟩ := g
  exact ne_of h h1 fun e => nomatch e
/-- most rolls that a bag may have given -/
def bagMost : Nat := 1000000000
/-! ### a def by its name -/
abbrev Cal (P : Program) (w : World) (K : PySem.W.Frag) (mg : Str → Option Value) (base : Heap) (k : Nat) (x : Str) (sp : Sp) : Prop := C8.Cal P w K mg base k x sp []
theorem mkCal {P : Program} {w : World} {K : PySem.W.Frag} {mg : Str → Option Value} {base : Heap} {k : Nat} {x : Str} {st : Stmt} {sp : Sp} {f : Addr} {fd : FuncData} {ps : List Str}
    (h : FnOk P w K mg base CX0 k f fd ps sp) (F : Fun K x x st f fd) (b : Binds K fd ps []) (g : mg x = some (.ref f)) : Cal P w K mg base k x sp := ⟨f, fd, ps, [], h, g, F.kp, b, .nil⟩
/-! ### rules with the written part named, for use within a comprehension -/
section
variable {X : Cx} {K : PySem.W.Frag}
theorem in_K (h : X.K = K) : OpR X (compareOp .In) (rIn K false) := h ▸ op_in_seq
theorem notIn_K (h : X.K = K) : OpR X (compareOp .NotIn) (rIn K true) := h ▸ op_notIn_seq
theorem ixL_K (h : X.K = K) : IxR X (rIxL K) := h ▸ ix_list
theorem ixT_K (h : X.K = K) : IxR X (rIxT K) := h ▸ ix_tup
theorem slL_K (h : X.K = K) : SlR X (rSlL K) := h ▸ sl_list
theorem len_K (h : X.K = K) : CallR X (.builtin "len") (fun xs H Q => ∃ p ys, xs = [.ref p] ∧ (SqL K H p ys ∨ SqT K H p ys) ∧ Q (.int ys.length) H) := h ▸ call_len_seq
theorem eqD_K (h : X.K = K) (hu : X.A.units + 64 < cLine) : OpR X (compareOp .Eq) (rEqD K) := h ▸ op_eqD hu
theorem neD_K (h : X.K = K) (hu : X.A.units + 64 < cLine) : OpR X (compareOp .NotEq) (rNeD K) := h ▸ op_neD hu
theorem isi_K (h : X.K = K) : CallR X (.builtin "isinstance") (rIsi K) := h ▸ call_isi
theorem all_K (h : X.K = K) (hc : X.calm = true) : CallR X (.builtin "all") (rAll K) := h ▸ cr_all hc
end
end Lp

namespace Lp
open PySem PySem.Spec PyProof.Rows L2

/-! ### texts as lists of codes -/
abbrev cs (z : Str) : List Nat := z.cps.toList
theorem cs_len (z : Str) : z.length = (cs z).length := by
  show z.cps.size = _
  rw [Array.length_toList]
theorem cs_ext {x y : Str} (h : cs x = cs y) : x = y := by
  cases x
  cases y
  congr 1
  exact Array.ext' h
theorem cs_iff {x y : Str} : x = y ↔ cs x = cs y := ⟨fun h => by rw [h], cs_ext⟩
theorem cs_app (x y : Str) : cs (x ++ y) = cs x ++ cs y := by
  show (x.cps ++ y.cps).toList = _
  rw [Array.toList_append]
theorem cs_one (c : Nat) : cs ⟨#[c]⟩ = [c] := rfl
theorem cs_mk (l : List Nat) : cs ⟨l.toArray⟩ = l := rfl
theorem cs_rep (z : Str) (k : Nat) : cs (txtRep z k) = (List.replicate k (cs z)).flatten := rfl
theorem fold_join (a : Array Nat) : ∀ (ys : List Str) (acc : Array Nat), (ys.foldl (fun acc p => acc ++ (Str.ofString "").cps ++ p.cps) acc).toList = acc.toList ++ (ys.map cs).flatten
  | [], acc => by simp
  | y :: r, acc => by
    rw [List.foldl_cons, fold_join a r, List.map_cons, List.flatten_cons, ← List.append_assoc]
    congr 1
    rw [Array.toList_append, Array.toList_append]
    show acc.toList ++ [] ++ _ = _
    rw [List.append_nil]
theorem cs_join (ys : List Str) : cs (Txt.join (Str.ofString "") ys) = (ys.map cs).flatten := by
  cases ys with
  | nil => rfl
  | cons y r =>
    show (r.foldl (fun acc p => acc ++ (Str.ofString "").cps ++ p.cps) y.cps).toList = _
    rw [fold_join #[], List.map_cons, List.flatten_cons]
theorem join_ones (ws : List Nat) : cs (Txt.join (Str.ofString "") (ws.map fun c => ⟨#[c]⟩)) = ws := by
  rw [cs_join, List.map_map]
  induction ws with
  | nil => rfl
  | cons c r ih =>
    rw [List.map_cons, List.flatten_cons, ih]
    rfl
theorem ones_sum (ws : List Nat) : ((ws.map fun c => (⟨#[c]⟩ : Str)).map (·.length)).sum = ws.length := by
  induction ws with
  | nil => rfl
  | cons c r ih =>
    rw [List.map_cons, List.map_cons, List.sum_cons, ih, List.length_cons]
    show 1 + r.length = _
    omega
theorem one_inj {a b : Nat} (h : (⟨#[a]⟩ : Str) = ⟨#[b]⟩) : a = b := by
  have e := congrArg cs h
  rw [cs_one, cs_one] at e
  exact List.cons.inj e |>.1

/-! ### names -/
def lettersL : List Nat := cs (Str.ofString "abcdefghijklmnopqrstuvwxyz")
def keywordsL : List Str := ["call", "copy", "def", "drop", "fields", "full", "lend", "look", "move", "new", "own", "put", "return", "skip", "take", "touch"]
/-- the document's names -/
def isName (z : Str) : Bool := decide (1 ≤ z.length) && decide (z.length ≤ 8) && !decide (z ∈ keywordsL) && (cs z).all fun c => decide (c ∈ lettersL)
/-- the document's fields -/
def FieldsOk (zs : List Str) : Prop := 1 ≤ zs.length ∧ zs.length ≤ 4 ∧ (∀ z ∈ zs, isName z = true) ∧ zs.Nodup
instance (zs : List Str) : Decidable (FieldsOk zs) := by
  unfold FieldsOk
  infer_instance
/-- the six letters of drawn words, the ten at their ends -/
def sixL : List Nat := cs (Str.ofString "abcxyz")
def endsL : List Nat := cs (Str.ofString "abcdghij")
def WordOk (z : Str) : Prop := 1 ≤ z.length ∧ z.length ≤ 7 ∧ ∀ c ∈ cs z, c ∈ sixL
/-- a drawn name: a front of drawn letters, of one to seven, and the letter that belongs to its turn -/
def NameOk (t : Nat) (z : Str) : Prop := ∃ front : List Nat, ∃ c, cs z = front ++ [c] ∧ 2 ≤ front.length ∧ front.length ≤ 7 ∧ (∀ d ∈ front, d ∈ sixL) ∧ endsL[t]? = some c
def looksDrawn (l : List Nat) : Bool := decide (3 ≤ l.length) && (l.dropLast.all fun c => decide (c ∈ sixL)) && (match l.getLast? with | some c => decide (c ∈ endsL) | none => false)
theorem six_letters : ∀ c ∈ sixL, c ∈ lettersL := by decide +kernel
theorem ends_letters : ∀ c ∈ endsL, c ∈ lettersL := by decide +kernel
theorem keywords_look : ∀ k ∈ keywordsL, looksDrawn (cs k) = false := by decide +kernel
theorem NameOk.looks {t : Nat} {z : Str} (h : NameOk t z) : looksDrawn (cs z) = true := by
  obtain ⟨f, c, e, h1, h2, h3, h4⟩ := h
  have hc : c ∈ endsL := List.mem_of_getElem? h4
  unfold looksDrawn
  rw [e, List.dropLast_concat, List.getLast?_concat, List.length_append, List.length_singleton]
  simp only [Bool.and_eq_true, decide_eq_true_eq, List.all_eq_true]
  exact ⟨⟨by omega, h3⟩, hc⟩
theorem NameOk.name {t : Nat} {z : Str} (h : NameOk t z) : isName z = true := by
  have look := h.looks
  obtain ⟨f, c, e, h1, h2, h3, h4⟩ := h
  have hc : c ∈ endsL := List.mem_of_getElem? h4
  have hl : z.length = f.length + 1 := by
    rw [cs_len, e, List.length_append, List.length_singleton]
  unfold isName
  simp only [Bool.and_eq_true, decide_eq_true_eq, Bool.not_eq_true', decide_eq_false_iff_not, List.all_eq_true]
  refine ⟨⟨⟨by omega, by omega⟩, fun hk => ?_⟩, fun d hd => ?_⟩
  · have q := keywords_look z hk
    rw [q] at look
    cases look
  · rw [e, List.mem_append, List.mem_singleton] at hd
    rcases hd with hd | rfl
    · exact six_letters d (h3 d hd)
    · exact ends_letters d hc
theorem ends_nodup : endsL.Nodup := by decide +kernel
theorem NameOk.inj {t u : Nat} {z : Str} (h : NameOk t z) (k : NameOk u z) : t = u := by
  obtain ⟨f, c, e, _, _, _, h4⟩ := h
  obtain ⟨f', c', e', _, _, _, k4⟩ := k
  rw [e] at e'
  have ec : c = c' := by
    have q := congrArg List.getLast? e'
    rw [List.getLast?_concat, List.getLast?_concat] at q
    exact Option.some.inj q
  subst ec
  exact nd_ix ends_nodup h4 k4
/-- the names of several turns -/
def NamesOk (zs : List Str) : Prop := ∀ i z, zs[i]? = some z → NameOk i z
theorem NamesOk.nodup {zs : List Str} (h : NamesOk zs) : zs.Nodup := by
  refine List.pairwise_iff_getElem.mpr fun i j hi hj hij e => ?_
  have a := List.getElem?_eq_getElem hj
  have b := h j _ a
  have c := h i _ (List.getElem?_eq_getElem hi)
  rw [e] at c
  exact absurd (c.inj b) (by omega)
theorem NamesOk.names {zs : List Str} (h : NamesOk zs) {z : Str} (m : z ∈ zs) : isName z = true := by
  obtain ⟨i, hi⟩ := List.mem_iff_getElem?.mp m
  exact (h i z hi).name
theorem NamesOk.snoc {zs : List Str} {z : Str} (h : NamesOk zs) (k : NameOk zs.length z) : NamesOk (zs ++ [z]) := fun i y e => by
  rw [List.getElem?_append] at e
  split at e
  · exact h i y e
  · rename_i hi
    rw [List.getElem?_singleton] at e
    split at e
    · cases e
      have : i = zs.length := by omega
      exact this ▸ k
    · cases e
end Lp

namespace Lp
open PySem PySem.Spec PyProof.Rows L2

/-! ### comprehensions whose turns leave all that stood -/
section
variable {J : It} {n : Nat} {G : Hp → Prop} {Y : Nat → Hp → V → Hp → Prop} {g : TG} {tt : TT} {te : TE} {vs : List Nat} {σ : L2.St} {H1 : Hp} {D : Addr} {Qd : Hp → Prop}
theorem lc_gen (w : Walk J n G Y) (r : Nat → List V) (r0 : r 0 = []) (rl : ∀ i, i < n → (r i).length ≤ 100000) (nD : H1 D = none) (hG : ∀ H', Same H1 H' → G H')
    (hs : ∀ (i : Nat) (x : V) (H2 H3 : Hp) (Ky : V → Hp → Prop) (Kn : Hp → Prop), i < n → Same H1 H2 → Y i H2 x H3 → (∀ y H4, Same H2 H4 → r (i + 1) = r i ++ [y] → Ky y H4) → (∀ H4, Same H2 H4 → r (i + 1) = r i → Kn H4) →
      g x (wipe σ vs) H3 fun σ2 H4 => wipe σ2 vs = wipe σ vs ∧ tt σ2 H4 fun b H5 => if b = true then te σ2 H5 Ky else Kn H5)
    (hd : ∀ H', Same H1 H' → H' D = some (.lst (r n)) → Qd H') :
    ∃ W : Nat → Nat → Hp → Prop, (∃ m, W 0 m (upd H1 D (.lst []))) ∧ ∀ i m H, W i m H →
      (J.stop i H ∧ Qd H) ∨ (J.go i H ∧ ∃ Nx : Hp → Prop, (∀ H', Nx H' → ∃ m', m' < m ∧ W (i + 1) m' H') ∧ ∀ x H', J.yld i H x H' → g x (wipe σ vs) H' fun σ2 H2 => wipe σ2 vs = wipe σ vs ∧ tt σ2 H2 fun b H3 =>
        if b = true then te σ2 H3 fun y H4 => ∃ acc, H4 D = some (.lst acc) ∧ acc.length < sizeLine ∧ Nx (upd H4 D (.lst (acc ++ [y]))) else Nx H3) := by
  refine lc_it w (fun i H' => Same H1 H' ∧ H' D = some (.lst (r i))) ⟨same_upd nD, by rw [upd_same, r0]⟩ (fun i H' _ p => hG H' p.1) (fun i x H2 H3 hi p y => ?_) (fun H' p => hd H' p.1 p.2)
  obtain ⟨sm, hD⟩ := p
  refine hs i x H2 H3 _ _ hi sm y (fun v H4 s4 e => ⟨r i, s4 D _ hD, Nat.lt_of_le_of_lt (rl i hi) (by decide), same_put (sm.trans s4) nD, ?_⟩) (fun H4 s4 e => ⟨sm.trans s4, ?_⟩)
  · rw [upd_same, e]
  · rw [e]
    exact s4 D _ hD
/-- over values that are known: f tells which give, v what -/
theorem lc_vals {vals : List V} (w : Walk J vals.length G (YAt vals)) (f : V → Bool) (v : V → V) (few : vals.length ≤ 100000) (nD : H1 D = none) (hG : ∀ H', Same H1 H' → G H')
    (hs : ∀ (x : V) (H2 : Hp) (Ky : V → Hp → Prop) (Kn : Hp → Prop), x ∈ vals → Same H1 H2 → (∀ H4, Same H2 H4 → f x = true → Ky (v x) H4) → (∀ H4, Same H2 H4 → f x = false → Kn H4) →
      g x (wipe σ vs) H2 fun σ2 H4 => wipe σ2 vs = wipe σ vs ∧ tt σ2 H4 fun b H5 => if b = true then te σ2 H5 Ky else Kn H5)
    (hd : ∀ H', Same H1 H' → H' D = some (.lst ((vals.filter f).map v)) → Qd H') :
    ∃ W : Nat → Nat → Hp → Prop, (∃ m, W 0 m (upd H1 D (.lst []))) ∧ ∀ i m H, W i m H →
      (J.stop i H ∧ Qd H) ∨ (J.go i H ∧ ∃ Nx : Hp → Prop, (∀ H', Nx H' → ∃ m', m' < m ∧ W (i + 1) m' H') ∧ ∀ x H', J.yld i H x H' → g x (wipe σ vs) H' fun σ2 H2 => wipe σ2 vs = wipe σ vs ∧ tt σ2 H2 fun b H3 =>
        if b = true then te σ2 H3 fun y H4 => ∃ acc, H4 D = some (.lst acc) ∧ acc.length < sizeLine ∧ Nx (upd H4 D (.lst (acc ++ [y]))) else Nx H3) := by
  refine lc_gen w (fun i => ((vals.take i).filter f).map v) rfl (fun i hi => ?_) nD hG (fun i x H2 H3 Ky Kn hi sm y k1 k0 => ?_) (fun H' sm e => hd H' sm ?_)
  · rw [List.length_map]
    have := List.length_filter_le f (vals.take i)
    rw [List.length_take] at this
    omega
  · obtain ⟨rfl, hx⟩ := y
    have tk : vals.take (i + 1) = vals.take i ++ [x] := by
      rw [List.take_add_one, hx]
      rfl
    refine hs x H3 Ky Kn (List.mem_of_getElem? hx) sm (fun H4 s4 e => k1 _ H4 s4 ?_) (fun H4 s4 e => k0 H4 s4 ?_)
    · show ((vals.take (i + 1)).filter f).map v = _
      rw [tk, List.filter_append, List.map_append, List.filter_cons, if_pos e]
      rfl
    · show ((vals.take (i + 1)).filter f).map v = _
      rw [tk, List.filter_append, List.map_append, List.filter_cons, if_neg (by rw [e]; exact Bool.false_ne_true)]
      show _ ++ [] = _
      rw [List.append_nil]
  · rw [e]
    show some (HO.lst (((vals.take vals.length).filter f).map v)) = _
    rw [List.take_length]
end
/-- the signs of a text, as values -/
def signs (z : Str) : List V := (cs z).map fun c => .str ⟨#[c]⟩
theorem signs_len (z : Str) : (signs z).length = (cs z).length := List.length_map _
theorem walk_signs {z : Str} : Walk (Its z) (signs z).length (fun _ => True) (YAt (signs z)) := by
  have w := walk_str (z := z)
  have e : z.cps.size = (signs z).length := by
    rw [signs_len, Array.length_toList]
  rw [e] at w
  refine w.mono (fun _ h => h) fun i H x H' hi _ y => ⟨y.1, ?_⟩
  obtain ⟨c, hc, rfl⟩ := y.2
  unfold signs
  rw [List.getElem?_map, Array.getElem?_toList, hc]
  rfl
/-- the numbers of a range, as values -/
def upto (n : Nat) : List V := (List.range n).map fun i : Nat => V.int (i : Int)
theorem upto_len (n : Nat) : (upto n).length = n := by
  unfold upto
  rw [List.length_map, List.length_range]
theorem walk_upto {n : Nat} : Walk (Itr 0 n) (upto n).length (fun _ => True) (YAt (upto n)) := by
  have w := walk_range (lo := 0) (n := n)
  rw [upto_len]
  refine w.mono (fun _ h => h) fun i H x H' hi _ y => ⟨y.1, ?_⟩
  rw [y.2]
  show (upto n)[i]? = some (V.int ((0 : Int) + (i : Int)))
  rw [Int.zero_add]
  unfold upto
  rw [List.getElem?_map, List.getElem?_range hi]
  rfl
end Lp
namespace Lp
open PySem PySem.Spec PyProof.Rows L2
/-! ### plain data -/
def Dat (H : Hp) : V → Prop
  | .non => True
  | .bl _ => True
  | .int _ => True
  | .str z => z.length ≤ 100000
  | .ref a => (∃ xs, H a = some (.lst xs)) ∨ (∃ xs, H a = some (.tup xs)) ∨ ∃ kvs, H a = some (.dK kvs)
  | _ => False
def nameV : V → Bool
  | .str z => isName z
  | _ => false
theorem Dat.same {H H' : Hp} {v : V} (k : Same H H') (d : Dat H v) : Dat H' v := by
  cases v with
  | ref a =>
    rcases d with ⟨xs, e⟩ | ⟨xs, e⟩ | ⟨xs, e⟩
    · exact .inl ⟨xs, k _ _ e⟩
    · exact .inr (.inl ⟨xs, k _ _ e⟩)
    · exact .inr (.inr ⟨xs, k _ _ e⟩)
  | _ => exact d
theorem dat_not_str {K : PySem.W.Frag} {H : Hp} {v : V} (d : Dat H v) (h : ¬ ∃ z, v = .str z) : ∃ t, TyX K H v (.type t) ∧ PySem.W.kitOne K (.type t) (.type "str") = some false := by
  cases v with
  | non => exact ⟨_, .base .non, kit_ty (by decide +kernel)⟩
  | bl b => exact ⟨_, .base (.bl b), kit_ty (by decide +kernel)⟩
  | int i => exact ⟨_, .base (.int i), kit_ty (by decide +kernel)⟩
  | str z => exact absurd ⟨z, rfl⟩ h
  | ref a =>
    rcases d with ⟨xs, e⟩ | ⟨xs, e⟩ | ⟨xs, e⟩
    · exact ⟨_, .base (.lst e), kit_ty (by decide +kernel)⟩
    · exact ⟨_, .base (.tup e), kit_ty (by decide +kernel)⟩
    · exact ⟨_, .base (.dK e), kit_ty (by decide +kernel)⟩
  | byt b => exact False.elim d
  | flt b => exact False.elim d
  | ty n => exact False.elim d
theorem dat_not_tup {K : PySem.W.Frag} {H : Hp} {v : V} (d : Dat H v) (h : ¬ ∃ a xs, v = .ref a ∧ H a = some (.tup xs)) : ∃ t, TyX K H v (.type t) ∧ PySem.W.kitOne K (.type t) (.type "tuple") = some false := by
  cases v with
  | non => exact ⟨_, .base .non, kit_ty (by decide +kernel)⟩
  | bl b => exact ⟨_, .base (.bl b), kit_ty (by decide +kernel)⟩
  | int i => exact ⟨_, .base (.int i), kit_ty (by decide +kernel)⟩
  | str z => exact ⟨_, .base (.str z), kit_ty (by decide +kernel)⟩
  | ref a =>
    rcases d with ⟨xs, e⟩ | ⟨xs, e⟩ | ⟨xs, e⟩
    · exact ⟨_, .base (.lst e), kit_ty (by decide +kernel)⟩
    · exact absurd ⟨a, xs, rfl, e⟩ h
    · exact ⟨_, .base (.dK e), kit_ty (by decide +kernel)⟩
  | byt b => exact False.elim d
  | flt b => exact False.elim d
  | ty n => exact False.elim d
/-- in, of a text among texts -/
theorem inV_strs (z : Str) (ks : List Str) : inV (.str z) (ks.map V.str) = decide (z ∈ ks) := by
  unfold inV
  rw [List.any_map]
  induction ks with
  | nil => rfl
  | cons k r ih =>
    rw [List.any_cons, ih]
    show ((k == z) || decide (z ∈ r)) = decide (z ∈ k :: r)
    by_cases e : k = z
    · subst e
      simp
    · have e2 : (k == z) = false := beq_eq_false_iff_ne.mpr e
      rw [e2, Bool.false_or]
      exact decide_eq_decide.mpr ⟨fun h => List.mem_cons_of_mem _ h, fun h => (List.mem_cons.mp h).resolve_left fun q => e q.symm⟩
theorem bools_all {xs : List V} {f : V → Bool} : ((xs.filter fun _ => true).map fun x => V.bl (f x)) = (xs.map f).map V.bl := by
  rw [List.filter_eq_self.mpr fun _ _ => rfl, List.map_map]
  rfl
theorem strs_all_flat (zs : List Str) : (zs.map V.str).all flatV = true := by
  rw [List.all_map]
  exact List.all_eq_true.mpr fun _ _ => rfl
def letterV : V → Bool
  | .str y => (cs y).all fun c => decide (c ∈ lettersL)
  | _ => false
theorem letterV_one (c : Nat) : letterV (.str ⟨#[c]⟩) = decide (c ∈ lettersL) := by
  show (cs ⟨#[c]⟩).all (fun c => decide (c ∈ lettersL)) = _
  rw [cs_one]
  simp
theorem letters_all (z : Str) : ((signs z).map letterV).all id = (cs z).all fun c => decide (c ∈ lettersL) := by
  unfold signs
  rw [List.map_map, List.all_map]
  congr 1
  funext c
  exact letterV_one c
/-- whether values are different names -/
def DiffOk (xs : List V) : Prop := ∃ zs : List Str, xs = zs.map V.str ∧ (∀ z ∈ zs, isName z = true) ∧ zs.Nodup
theorem all_names : ∀ {xs : List V}, (xs.map nameV).all id = true → ∃ zs : List Str, xs = zs.map V.str ∧ ∀ z ∈ zs, isName z = true
  | [], _ => ⟨[], rfl, fun _ h => nomatch h⟩
  | x :: r, h => by
    rw [List.map_cons, List.all_cons, Bool.and_eq_true] at h
    obtain ⟨zs, rfl, hz⟩ := all_names h.2
    cases x with
    | str z =>
      refine ⟨z :: zs, rfl, fun y hy => ?_⟩
      rcases List.mem_cons.mp hy with rfl | hy
      · exact h.1
      · exact hz y hy
    | _ => exact absurd (show false = true from h.1) Bool.false_ne_true
theorem names_all {zs : List Str} (h : ∀ z ∈ zs, isName z = true) : ((zs.map V.str).map nameV).all id = true := by
  rw [List.map_map, List.all_map]
  exact List.all_eq_true.mpr fun z hz => h z hz
theorem strs_inj : ∀ {a b : List Str}, a.map V.str = b.map V.str → a = b
  | [], [], _ => rfl
  | [], _ :: _, h => nomatch h
  | _ :: _, [], h => nomatch h
  | x :: r, y :: t, h => by
    rw [List.map_cons, List.map_cons] at h
    injection h with h1 h2
    injection h1 with h1
    rw [h1, strs_inj h2]
theorem nodup_inr {zs : List Str} : (zs.map (Sum.inr : Str → Key)).Nodup ↔ zs.Nodup := by
  unfold List.Nodup
  rw [List.pairwise_map]
  constructor
  · exact fun h => h.imp fun n e => n (congrArg _ e)
  · exact fun h => h.imp fun n e => n (Sum.inr.inj e)
end Lp

namespace Lp
open PySem PySem.Spec PyProof.Rows L2

/-! ### == of lists of texts, of lists of truths -/
def lowS (z : Str) : Prop := ∀ c ∈ cs z, c < 1114112
theorem lowS.ok {z : Str} (h : lowS z) : PyData.strOk z = true := by
  unfold PyData.strOk
  rw [Array.all_eq_true']
  intro c hc
  exact decide_eq_true (h c (Array.mem_toList_iff.mpr hc))
theorem letters_low : ∀ c ∈ lettersL, c < 1114112 := by decide +kernel
theorem name_low {z : Str} (h : isName z = true) : lowS z := by
  unfold isName at h
  simp only [Bool.and_eq_true, List.all_eq_true, decide_eq_true_eq] at h
  exact fun c hc => letters_low c (h.2 c hc)
theorem dp_strs {K : PySem.W.Frag} {H : Hp} : ∀ zs : List Str, DpAll K H (zs.map V.str) (zs.map PyData.str)
  | [] => .nil
  | z :: r => .cons (.str z) (dp_strs r)
theorem dp_bools {K : PySem.W.Frag} {H : Hp} : ∀ zs : List Bool, DpAll K H (zs.map V.bl) (zs.map PyData.bool)
  | [] => .nil
  | z :: r => .cons (.bl z) (dp_bools r)
theorem lay_strs : ∀ {zs : List Str}, (∀ z ∈ zs, lowS z) → PyData.canLayAll0 (zs.map PyData.str) = true ∧ PyData.depthAll (zs.map PyData.str) = 0
  | [], _ => ⟨rfl, rfl⟩
  | z :: r, h => by
    have ih := lay_strs (zs := r) fun y hy => h y (List.mem_cons_of_mem _ hy)
    have hz := (h z List.mem_cons_self).ok
    rw [List.map_cons]
    refine ⟨?_, ?_⟩
    · show (PyData.canLay0 (.str z) && PyData.canLayAll0 _) = true
      rw [ih.1, Bool.and_true]
      exact hz
    · show max (PyData.depth (.str z)) (PyData.depthAll _) = 0
      rw [ih.2]
      rfl
theorem lay_bools : ∀ (zs : List Bool), PyData.canLayAll0 (zs.map PyData.bool) = true ∧ PyData.depthAll (zs.map PyData.bool) = 0
  | [] => ⟨rfl, rfl⟩
  | z :: r => by
    have ih := lay_bools r
    rw [List.map_cons]
    refine ⟨?_, ?_⟩
    · show (PyData.canLay0 (.bool z) && PyData.canLayAll0 _) = true
      rw [ih.1, Bool.and_true]
      rfl
    · show max (PyData.depth (.bool z)) (PyData.depthAll _) = 0
      rw [ih.2]
      rfl
theorem shaped_of {ds : List PyData} (h : PyData.canLayAll0 ds = true ∧ PyData.depthAll ds = 0) : SeqAt.shaped (.list ds) = true ∧ SeqAt.shaped (.tuple ds) = true := by
  constructor
  · show (PyData.canLayAll0 ds && decide (PyData.depthAll ds + 1 ≤ 64)) = true
    rw [h.1, h.2]
    rfl
  · show (PyData.canLayAll0 ds && decide (PyData.depthAll ds + 1 ≤ 64)) = true
    rw [h.1, h.2]
    rfl
theorem eqv_strs : ∀ (zs ws : List Str), PyData.eqvAll (zs.map PyData.str) (ws.map PyData.str) = decide (zs = ws)
  | [], [] => rfl
  | [], _ :: _ => rfl
  | _ :: _, [] => rfl
  | x :: r, y :: t => by
    show (PyData.eqv (.str x) (.str y) && PyData.eqvAll (r.map PyData.str) (t.map PyData.str)) = _
    rw [eqv_strs r t]
    show ((x == y) && decide (r = t)) = _
    by_cases e : x = y
    · subst e
      rw [beq_self_eq_true, Bool.true_and]
      exact decide_eq_decide.mpr ⟨fun h => by rw [h], fun h => (List.cons.inj h).2⟩
    · rw [beq_eq_false_iff_ne.mpr e, Bool.false_and]
      exact (decide_eq_false fun h => e (List.cons.inj h).1).symm
theorem eqv_bools : ∀ (zs ws : List Bool), PyData.eqvAll (zs.map PyData.bool) (ws.map PyData.bool) = decide (zs = ws)
  | [], [] => rfl
  | [], _ :: _ => rfl
  | _ :: _, [] => rfl
  | x :: r, y :: t => by
    show (PyData.eqv (.bool x) (.bool y) && PyData.eqvAll (r.map PyData.bool) (t.map PyData.bool)) = _
    rw [eqv_bools r t]
    show ((x == y) && decide (r = t)) = _
    by_cases e : x = y
    · subst e
      rw [beq_self_eq_true, Bool.true_and]
      exact decide_eq_decide.mpr ⟨fun h => by rw [h], fun h => (List.cons.inj h).2⟩
    · rw [beq_eq_false_iff_ne.mpr e, Bool.false_and]
      exact (decide_eq_false fun h => e (List.cons.inj h).1).symm
section
variable {K : PySem.W.Frag} {H : Hp} {a b : Addr} {Q : VK}
theorem eq_strsL {zs ws : List Str} (ha : SqL K H a (zs.map V.str)) (hb : SqL K H b (ws.map V.str)) (la : ∀ z ∈ zs, lowS z) (lb : ∀ z ∈ ws, lowS z) (q : Q (.bl (decide (zs = ws))) H) : rEqD K (.ref a) (.ref b) H Q :=
  ⟨_, _, .lst ha (dp_strs zs), .lst hb (dp_strs ws), (shaped_of (lay_strs la)).1, (shaped_of (lay_strs lb)).1, by rw [show PyData.eqv (.list (zs.map PyData.str)) (.list (ws.map PyData.str)) = _ from eqv_strs zs ws]; exact q⟩
theorem ne_strsL {zs ws : List Str} (ha : SqL K H a (zs.map V.str)) (hb : SqL K H b (ws.map V.str)) (la : ∀ z ∈ zs, lowS z) (lb : ∀ z ∈ ws, lowS z) (q : Q (.bl (!decide (zs = ws))) H) : rNeD K (.ref a) (.ref b) H Q :=
  ⟨_, _, .lst ha (dp_strs zs), .lst hb (dp_strs ws), (shaped_of (lay_strs la)).1, (shaped_of (lay_strs lb)).1, by rw [show PyData.eqv (.list (zs.map PyData.str)) (.list (ws.map PyData.str)) = _ from eqv_strs zs ws]; exact q⟩
theorem eq_boolsL {zs ws : List Bool} (ha : SqL K H a (zs.map V.bl)) (hb : SqL K H b (ws.map V.bl)) (q : Q (.bl (decide (zs = ws))) H) : rEqD K (.ref a) (.ref b) H Q :=
  ⟨_, _, .lst ha (dp_bools zs), .lst hb (dp_bools ws), (shaped_of (lay_bools zs)).1, (shaped_of (lay_bools ws)).1, by rw [show PyData.eqv (.list (zs.map PyData.bool)) (.list (ws.map PyData.bool)) = _ from eqv_bools zs ws]; exact q⟩
theorem ne_boolsL {zs ws : List Bool} (ha : SqL K H a (zs.map V.bl)) (hb : SqL K H b (ws.map V.bl)) (q : Q (.bl (!decide (zs = ws))) H) : rNeD K (.ref a) (.ref b) H Q :=
  ⟨_, _, .lst ha (dp_bools zs), .lst hb (dp_bools ws), (shaped_of (lay_bools zs)).1, (shaped_of (lay_bools ws)).1, by rw [show PyData.eqv (.list (zs.map PyData.bool)) (.list (ws.map PyData.bool)) = _ from eqv_bools zs ws]; exact q⟩
end
end Lp
namespace Lp
open PySem PySem.Spec PyProof.Rows L2
/-- zs[:i] -/
theorem cut_to (zs : List Str) (i : Nat) : cutV (zs.map V.str) none (some (i : Int)) = (zs.take i).map V.str := by
  unfold cutV
  rw [HT.sIx_none, HT.sIx_nat, List.drop_zero, Nat.sub_zero, List.map_take, Nat.min_def]
  split
  · rfl
  · rw [List.take_length, List.take_of_length_le (by omega)]
end Lp
namespace Lp
open PySem PySem.Spec PyProof.Rows L2
theorem cut_strs (zs : List Str) (lo hi : Option Int) : ∃ ws : List Str, cutV (zs.map V.str) lo hi = ws.map V.str ∧ (∀ w ∈ ws, w ∈ zs) ∧ ws.length ≤ zs.length := by
  refine ⟨(zs.drop (HT.sIx (zs.map V.str).length 0 lo)).take (HT.sIx (zs.map V.str).length (zs.map V.str).length hi - HT.sIx (zs.map V.str).length 0 lo), ?_, fun w hw => List.mem_of_mem_drop (List.mem_of_mem_take hw), ?_⟩
  · unfold cutV
    rw [List.map_take, List.map_drop]
  · rw [List.length_take, List.length_drop]
    omega
end Lp

namespace Lp
open PySem PySem.Spec PyProof.Rows L2

/-! ### t[::-1] of a tuple -/
section
variable {prog : Program} {w : World} {A : Around} {E : Value → Shared → Prop} {s : Shared}
theorem apply_back {sl : Addr} {vk : Value} {n : Nat} {Q : Int × Int × Nat → Shared → Prop} (here : s.heap.IsSliceOf sl .none .none vk) (pk : IsPart vk (some (-1))) (q : Q (((n : Nat) : Int) - 1, -1, n) s) :
    wpAny (model prog w) A (Builtin.Slice.sliceApplied (.ref sl) (pure (n : Int))) Q E s := by
  obtain ⟨o, ho, _, hd⟩ := here
  unfold Builtin.Slice.sliceApplied Builtin.Slice.sliceFields
  refine wpAny_bind (wpAny_bind (wpAny_field ho hd (x := .none) rfl (wpAny_bind (wpAny_field ho hd (x := .none) rfl (wpAny_bind (wpAny_field ho hd (x := vk) rfl (wpAny_pure (?_ : _))))))))
  refine wpAny_bind (HT.slicePart_ pk (?_ : _))
  show wpAny _ _ (if ((-1 : Int) == 0) = true then _ else _) _ _ s
  rw [if_neg (by decide)]
  refine wpAny_bind (HT.slicePart_ .none (wpAny_bind (HT.slicePart_ .none (wpAny_bind (wpAny_pure (?_ : _))))))
  have places : Builtin.Slice.slicePlaces ((n : Int) - 1) (-1) (-1) = n := by
    unfold Builtin.Slice.slicePlaces
    rw [if_neg (by decide)]
    by_cases h : (n : Int) - 1 > -1
    · rw [if_pos h, show (- -1 : Int) = 1 by decide, Int.ediv_one]
      omega
    · rw [if_neg h]
      show (0 : Int).toNat = n
      omega
  show wpAny _ _ (pure ((n : Int) - 1, (-1 : Int), Builtin.Slice.slicePlaces ((n : Int) - 1) (-1) (-1))) _ _ s
  rw [places]
  exact wpAny_pure q
theorem pick_back (xs : Array Value) : ((List.range xs.size).filterMap fun (m : Nat) => xs[((xs.size : Int) - 1 + (m : Int) * -1).toNat]?).toArray = xs.toList.reverse.toArray := by
  have e1 : (List.range xs.size).filterMap (fun (m : Nat) => xs[((xs.size : Int) - 1 + (m : Int) * -1).toNat]?) = ((List.range xs.size).map fun k => xs.size - 1 - k).filterMap (xs[·]?) := by
    rw [List.filterMap_map]
    congr 1
    funext m
    have e2 : ((xs.size : Int) - 1 + (m : Int) * -1).toNat = xs.size - 1 - m := by omega
    rw [e2]
    rfl
  rw [e1, PySem.W.krv_range, List.filterMap_reverse, PySem.W.krv_all]
theorem item_back {t sl : Addr} {items : Array Value} {vk : Value} {Q : Value → Shared → Prop} (ht : IsTup s.heap t items) (here : s.heap.IsSliceOf sl .none .none vk) (pk : IsPart vk (some (-1))) (small : items.size ≤ sizeLine)
    (q : Q (.ref s.heap.objs.size) { s with heap := s.heap.push { cls := .type "tuple", data := .seq items.toList.reverse.toArray } }) : wpAny (model prog w) A (getItem (.ref t) (.ref sl)) Q E s := by
  obtain ⟨o, ho, hc, _⟩ := id here
  have ty : s.TypeIs (.ref sl) "slice" := ⟨o, ho, hc⟩
  have fits : sizeOk (.seq items.toList.reverse.toArray) := by
    show items.toList.reverse.toArray.size ≤ sizeLine
    rw [List.size_toArray, List.length_reverse, Array.length_toList]
    exact small
  unfold getItem
  refine wpAny_holding (?_ : _)
  refine wpAny_bind (wpAny_sequenceKey ht.typeIs (by decide) (?_ : _))
  refine wpAny_bind (wpAny_callSpecial?_slot (name := Str.ofString "__getitem__") ht.typeIs PyProof.Rows.slot_tuple_getitem (wpAny_call_entry PyProof.Rows.slot_tuple_getitem ht.typeIs entry_tuple_getitem (?_ : _) (args_tuple_getitem _ _)))
  show wpAny _ _ (Builtin.Tuple.tupleItemsOf (Value.ref t) >>= _) _ _ s
  refine wpAny_bind (tupleItemsOf_ ht (?_ : _))
  refine wpAny_bind (wpAny_typeOf ty (?_ : _))
  rw [if_pos (by decide)]
  refine wpAny_bind (apply_back here pk (?_ : _))
  show wpAny _ _ (if (((items.size : Int) - 1) == 0 && (-1 : Int) == 1 && items.size == items.size) = true then _ else _) _ _ s
  rw [if_neg (by simp), pick_back]
  first
    | exact wpAny_bind (m := Builtin.Tuple.tupleExact _) (wpAny_newObj_type (wpAny_pure ⟨_, rfl, wpAny_pure q⟩) fits)
    | exact wpAny_bind (m := Builtin.Tuple.tupleExact _) (wpAny_newObj_type (wpAny_bind (wpAny_pure (wpAny_pure ⟨_, rfl, wpAny_pure q⟩))) fits)
    | exact wpAny_bind (wpAny_bind (m := Builtin.Tuple.tupleExact _) (wpAny_newObj_type (wpAny_pure (wpAny_pure ⟨_, rfl, wpAny_pure q⟩)) fits))
    | exact wpAny_bind (wpAny_bind (m := Builtin.Tuple.tupleExact _) (wpAny_newObj_type (wpAny_pure ⟨_, rfl, wpAny_pure q⟩) fits))
end
section
variable {X : Cx}
def tRevT (K : PySem.W.Frag) (te : TE) : TE := fun σ H Q => te σ H fun x H1 => ∃ a xs, x = .ref a ∧ SqT K H1 a xs ∧ ∀ p, H1 p = none → Q (.ref p) (upd H1 p (.tup xs.reverse))
theorem pe_revT {e : Expr} {te : TE} {k : Nat} {p1 p2 p3 pos : Pos} (he : PE X e te) : PE X (.Subscript e (.Slice none none (some (.UnaryOp .USub (.Constant (.int 1) k p1) p2)) p3) pos) (tRevT X.K te) := by
  refine ⟨fun pins s σ H Q I h => ?_⟩
  refine Subscript_ (thn (he.run pins s σ H _ I h) fun v s1 ⟨x, H1, I1, r1, q1⟩ => ?_)
  obtain ⟨a, xs, rfl, hx, q⟩ := q1
  cases r1
  have back : PO X (some (.UnaryOp .USub (.Constant (.int 1) k p1) p2)) (tPart (tUn (rU fun i => .int (-i)) (tC (.int 1)))) := po_some (pe_un un_neg pe_int)
  refine wpAny_Slice (thn (po_none.run pins s1 σ H1 (fun o H2 => o = none ∧ H2 = H1) I1 ⟨rfl, rfl⟩) fun vl s2 ⟨l, H2, I2, pl, el, e2⟩ => (?_ : _))
  subst el
  subst e2
  refine thn (po_none.run pins s2 σ H2 (fun o H3 => o = none ∧ H3 = H2) I2 ⟨rfl, rfl⟩) fun vu s3 ⟨u, H3, I3, pu, eu, e3⟩ => (?_ : _)
  subst eu
  subst e3
  refine thn (back.run pins s3 σ H3 (fun o H4 => o = some (-1) ∧ H4 = H3) I3 ⟨1, rfl, -1, rfl, rfl, rfl⟩) fun vs s4 ⟨o, H4, I4, ps, eo, e4⟩ => (?_ : _)
  subst eo
  subst e4
  cases pl
  cases pu
  have I5 : Inv X pins σ H4 { s4 with heap := s4.heap.push { cls := .type "slice", data := .fields #[.none, .none, vs] } } := I4.kept (t' := s4.toks) fun b ob z => Heap.get?_push_of_some _ z
  obtain ⟨its, r, ht, hz⟩ := I5.tuple hx
  have len := r.length
  show wpAny (model X.prog X.w) X.A (subscriptTail e (.Slice none none (some (.UnaryOp .USub (.Constant (.int 1) k p1) p2)) p3) (.ref a) (.ref s4.heap.objs.size)) (EP X pins σ Q) X.xe
    { s4 with heap := s4.heap.push { cls := .type "slice", data := .fields #[.none, .none, vs] } }
  refine tail_any (ops := [.ref a, .ref s4.heap.objs.size]) ht.typeIs PyProof.Rows.slot_tuple_getitem.lookup (?_ : _) (by with_unfolding_all rfl)
  refine item_back ht (Heap.IsSliceOf.new _ .none .none vs) ps (by rw [List.size_toArray]; omega) (?_ : _)
  refine ⟨.ref _, _, I5.laid (t' := s4.toks) (o := .tup xs.reverse) (fun b ob z => Heap.get?_push_of_some _ z) (Nat.le_refl _) (?_ : _), rfl, q _ (I5.hok.fresh (Nat.le_refl _))⟩
  exact ⟨by rw [List.length_reverse]; exact hz, its.reverse, r.reverse, ⟨_, Heap.get?_push_size _ rfl, rfl, 0, by simp⟩⟩
end
end Lp

namespace Lp
open PySem PySem.Spec PyProof.Rows L2

/-! ### texts of ASCII signs, of at most n -/
def Asc (n : Nat) (z : Str) : Prop := z.length ≤ n ∧ ∀ c ∈ cs z, c < 128
theorem Asc.mono {n m : Nat} {z : Str} (h : Asc n z) (k : n ≤ m) : Asc m z := ⟨Nat.le_trans h.1 k, h.2⟩
theorem Asc.low {n : Nat} {z : Str} (h : Asc n z) : lowS z := fun c hc => Nat.lt_trans (h.2 c hc) (by decide)
theorem Asc.cut {n : Nat} {z : Str} (h : Asc n z) (lo hi : Option Int) : Asc n (cutS z lo hi) := by
  refine ⟨Nat.le_trans (cutS_length z lo hi) h.1, fun c hc => ?_⟩
  unfold cutS at hc
  rw [cs_mk] at hc
  exact h.2 c (List.mem_of_mem_drop (List.mem_of_mem_take hc))
theorem Asc.app {n m : Nat} {x y : Str} (h : Asc n x) (k : Asc m y) : Asc (n + m) (x ++ y) := by
  refine ⟨?_, fun c hc => ?_⟩
  · have a := h.1
    have b := k.1
    rw [cs_len] at a b ⊢
    rw [cs_app, List.length_append]
    omega
  · rw [cs_app] at hc
    rcases List.mem_append.mp hc with hc | hc
    · exact h.2 c hc
    · exact k.2 c hc
theorem Asc.rep {n : Nat} {z : Str} (h : Asc n z) (k : Nat) : Asc (k * n) (txtRep z k) := by
  refine ⟨?_, fun c hc => ?_⟩
  · have a := h.1
    rw [cs_len] at a ⊢
    rw [cs_rep]
    simp only [List.length_flatten, List.map_replicate, List.sum_replicate_nat]
    exact Nat.mul_le_mul_left k a
  · rw [cs_rep] at hc
    obtain ⟨l, hl, hc⟩ := List.mem_flatten.mp hc
    rw [(List.mem_replicate.mp hl).2] at hc
    exact h.2 c hc
/-- a text backward -/
def revS (z : Str) : Str := ⟨(cs z).reverse.toArray⟩
theorem cs_revS (z : Str) : cs (revS z) = (cs z).reverse := rfl
theorem Asc.rev {n : Nat} {z : Str} (h : Asc n z) : Asc n (revS z) := by
  refine ⟨?_, fun c hc => h.2 c (List.mem_reverse.mp hc)⟩
  have a := h.1
  rw [cs_len] at a ⊢
  rw [cs_revS, List.length_reverse]
  exact a
theorem up1_low : ∀ c, c < 128 → up1 c < 128 := by decide +kernel
theorem Asc.up {n : Nat} {z : Str} (h : Asc n z) : Asc n (Txt.upper z) := by
  rw [upper_ascii h.2]
  refine ⟨?_, fun c hc => ?_⟩
  · show (z.cps.map up1).size ≤ n
    rw [Array.size_map]
    exact h.1
  · have hc : c ∈ (z.cps.map up1).toList := hc
    rw [Array.toList_map] at hc
    obtain ⟨d, hd, rfl⟩ := List.mem_map.mp hc
    exact up1_low d (h.2 d hd)
theorem Asc.one {c : Nat} (h : c < 128) : Asc 1 ⟨#[c]⟩ := ⟨Nat.le_refl _, fun d hd => by
  rw [cs_one, List.mem_singleton] at hd
  exact hd ▸ h⟩
theorem letters_asc : ∀ c ∈ lettersL, c < 128 := by decide +kernel
theorem name_size {z : Str} (h : isName z = true) : 1 ≤ z.length ∧ z.length ≤ 8 := by
  unfold isName at h
  simp only [Bool.and_eq_true, decide_eq_true_eq] at h
  exact ⟨h.1.1.1, h.1.1.2⟩
theorem name_asc {z : Str} (h : isName z = true) : Asc 8 z := by
  refine ⟨(name_size h).2, ?_⟩
  unfold isName at h
  simp only [Bool.and_eq_true, List.all_eq_true, decide_eq_true_eq] at h
  exact fun c hc => letters_asc c (h.2 c hc)
/-- a written text -/
theorem asc_by {n : Nat} {z : Str} (h : (decide (z.length ≤ n) && (cs z).all fun c => decide (c < 128)) = true) : Asc n z := by
  rw [Bool.and_eq_true, List.all_eq_true] at h
  exact ⟨of_decide_eq_true h.1, fun c hc => of_decide_eq_true (h.2 c hc)⟩

/-! ### s[::-1] of a text -/
section
variable {X : Cx}
theorem back_revS (z : Str) (u : Tok) : Txt.sliceBy z none none (-1, u) = revS z := by
  apply cs_ext
  rw [cs_revS]
  show (Txt.sliceBy z none none (-1, u)).cps.toList = _
  rw [step_rev_list]
  apply List.ext_getElem
  · rw [List.length_map, List.length_range, List.length_reverse, cs_len]
  · intro i h1 h2
    rw [List.getElem_map, List.getElem_range, List.getElem_reverse]
    have lt : i < (cs z).length := by
      rw [List.length_reverse] at h2
      exact h2
    have b : z.length - 1 - i < z.cps.size := by
      have := cs_len z
      have e : z.cps.size = z.length := rfl
      omega
    rw [← Array.getElem_eq_getD 0 (h := b), ← Array.getElem_toList]
    congr 1
def tRevS (te : TE) : TE := fun σ H Q => te σ H fun x H1 => ∃ z, x = .str z ∧ z.length ≤ sizeLine ∧ Q (.str (revS z)) H1
theorem pe_revS {e : Expr} {te : TE} {k : Nat} {p1 p2 p3 pos : Pos} (he : PE X e te) : PE X (.Subscript e (.Slice none none (some (.UnaryOp .USub (.Constant (.int 1) k p1) p2)) p3) pos) (tRevS te) := by
  refine ⟨fun pins s σ H Q I h => ?_⟩
  refine Subscript_ (thn (he.run pins s σ H _ I h) fun v s1 ⟨x, H1, I1, r1, q1⟩ => ?_)
  obtain ⟨z, rfl, small, q⟩ := q1
  obtain ⟨t, rfl⟩ := r1
  have back : PO X (some (.UnaryOp .USub (.Constant (.int 1) k p1) p2)) (tPart (tUn (rU fun i => .int (-i)) (tC (.int 1)))) := po_some (pe_un un_neg pe_int)
  refine wpAny_Slice (thn (po_none.run pins s1 σ H1 (fun o H2 => o = none ∧ H2 = H1) I1 ⟨rfl, rfl⟩) fun vl s2 ⟨l, H2, I2, pl, el, e2⟩ => (?_ : _))
  subst el
  subst e2
  refine thn (po_none.run pins s2 σ H2 (fun o H3 => o = none ∧ H3 = H2) I2 ⟨rfl, rfl⟩) fun vu s3 ⟨u, H3, I3, pu, eu, e3⟩ => (?_ : _)
  subst eu
  subst e3
  refine thn (back.run pins s3 σ H3 (fun o H4 => o = some (-1) ∧ H4 = H3) I3 ⟨1, rfl, -1, rfl, rfl, rfl⟩) fun vs s4 ⟨o, H4, I4, ps, eo, e4⟩ => (?_ : _)
  subst eo
  subst e4
  cases pl
  cases pu
  obtain ⟨uk, rfl⟩ : ∃ uk, vs = .int (-1) uk := by
    cases ps
    exact ⟨_, rfl⟩
  have I5 : Inv X pins σ H4 { s4 with heap := s4.heap.push { cls := .type "slice", data := .fields #[.none, .none, .int (-1) uk] } } := I4.kept (t' := s4.toks) fun b ob y => Heap.get?_push_of_some _ y
  show wpAny (model X.prog X.w) X.A (subscriptTail e (.Slice none none (some (.UnaryOp .USub (.Constant (.int 1) k p1) p2)) p3) (.str z t) (.ref s4.heap.objs.size)) (EP X pins σ Q) X.xe
    { s4 with heap := s4.heap.push { cls := .type "slice", data := .fields #[.none, .none, .int (-1) uk] } }
  refine tail_any (ops := [.ref s4.heap.objs.size, .str z t]) (typeIs_str _ _ _) PySem.F.slot_str_getitem.lookup (?_ : _) (by with_unfolding_all rfl)
  refine wpAny_getItem_str_slice (l := none) (u := none) (st := some (-1, uk)) ⟨_, Heap.get?_push_size _ rfl, rfl, rfl⟩ rfl (?_ : _)
  refine post_val_or_str ⟨Nat.le_trans (Txt.sliceBy_le z _ _ (-1, uk) (show (-1 : Int) ≠ 0 by decide)) small, fun t' c => ?_⟩
  refine ⟨.str (revS z), H4, I5.tok c, ⟨t', ?_⟩, q⟩
  rw [← back_revS z uk]
  rfl
end
end Lp

namespace Lp
open PySem PySem.Spec PyProof.Rows L2

/-! ### a word between blanks in the row of keywords -/
def rowS : Str := " call copy def drop fields full lend look move new own put return skip take touch "
def cutL (i n : Nat) : List Nat := ((cs rowS).drop i).take (n + 2)
theorem row_cuts : ((List.range 90).all fun i => (List.range 9).all fun n => !(decide ((cutL i n).length = n + 2) && decide ((cutL i n).head? = some 32) && decide ((cutL i n).getLast? = some 32) &&
    (((cutL i n).drop 1).take n).all (fun c => decide (c ≠ 32)) && decide (1 ≤ n)) || decide ((((cutL i n).drop 1).take n) ∈ keywordsL.map cs)) = true := by decide +kernel
theorem row_has : (keywordsL.all fun k => (List.range 90).any fun i => decide (cutL i k.length = 32 :: cs k ++ [32])) = true := by decide +kernel
theorem row_len : rowS.length = 82 := by decide +kernel
theorem sub_cut (y : Str) (i : Nat) : Builtin.Str.subAt rowS y i = true ↔ ((cs rowS).drop i).take y.length = cs y := by
  unfold Builtin.Str.subAt
  rw [beq_iff_eq, ← Array.toList_inj, Array.toList_extract]
  show List.take (i + y.length - i) (List.drop i (cs rowS)) = cs y ↔ _
  rw [Nat.add_sub_cancel_left]
theorem blank_cs (z : Str) : cs (Str.ofString " " ++ z ++ Str.ofString " ") = 32 :: cs z ++ [32] := by
  rw [cs_app, cs_app]
  rfl
theorem blank_len (z : Str) : (Str.ofString " " ++ z ++ Str.ofString " ").length = z.length + 2 := by
  rw [cs_len, blank_cs, cs_len, List.length_append, List.length_cons]
  rfl
theorem kw_row {z : Str} (h1 : 1 ≤ z.length) (h8 : z.length ≤ 8) (hl : ∀ c ∈ cs z, c ≠ 32) :
    (!(Builtin.Str.occurrences rowS (Str.ofString " " ++ z ++ Str.ofString " ") 0 rowS.length 1).isEmpty) = decide (z ∈ keywordsL) := by
  have key : (!(Builtin.Str.occurrences rowS (Str.ofString " " ++ z ++ Str.ofString " ") 0 rowS.length 1).isEmpty) = true ↔ z ∈ keywordsL := by
    rw [StrLaws.found_iff]
    simp only [sub_cut, blank_len, blank_cs]
    constructor
    · rintro ⟨i, hi, e⟩
      rw [row_len] at hi
      have a := List.all_eq_true.mp (List.all_eq_true.mp row_cuts i (List.mem_range.mpr (by omega))) z.length (List.mem_range.mpr (by omega))
      have e2 : cutL i z.length = 32 :: cs z ++ [32] := e
      rw [e2] at a
      have e3 : ((32 :: cs z ++ [32]).drop 1).take z.length = cs z := by
        show (cs z ++ [32]).take z.length = cs z
        rw [cs_len, List.take_left]
      rw [e3] at a
      have c1 : decide ((32 :: cs z ++ [32]).length = z.length + 2) = true := decide_eq_true (by rw [List.length_append, List.length_cons, cs_len]; rfl)
      have c2 : decide ((32 :: cs z ++ [32]).head? = some 32) = true := decide_eq_true rfl
      have c3 : decide ((32 :: cs z ++ [32]).getLast? = some 32) = true := decide_eq_true (List.getLast?_concat)
      have c4 : (cs z).all (fun c => decide (c ≠ 32)) = true := List.all_eq_true.mpr fun c hc => decide_eq_true (hl c hc)
      rw [c1, c2, c3, c4, decide_eq_true h1] at a
      have m : cs z ∈ keywordsL.map cs := of_decide_eq_true (by simpa using a)
      obtain ⟨k, hk, ek⟩ := List.mem_map.mp m
      rw [← cs_ext ek]
      exact hk
    · intro hk
      obtain ⟨i, hi, e⟩ := List.any_eq_true.mp (List.all_eq_true.mp row_has z hk)
      have e := of_decide_eq_true e
      refine ⟨i, ?_, e⟩
      have l := congrArg List.length e
      unfold cutL at l
      rw [List.length_take, List.length_drop, List.length_append, List.length_cons, ← cs_len, ← cs_len, row_len] at l
      rw [row_len]
      simp at l
      omega
  cases hb : (!(Builtin.Str.occurrences rowS (Str.ofString " " ++ z ++ Str.ofString " ") 0 rowS.length 1).isEmpty) with
  | true => exact (decide_eq_true (key.mp hb)).symm
  | false =>
    refine (decide_eq_false fun h => ?_).symm
    rw [key.mpr h] at hb
    cases hb
theorem letters_are : lettersL = (List.range 26).map (· + 97) := by decide +kernel
theorem letter_iff (c : Nat) : c ∈ lettersL ↔ 97 ≤ c ∧ c ≤ 122 := by
  rw [letters_are, List.mem_map]
  constructor
  · rintro ⟨i, hi, rfl⟩
    have := List.mem_range.mp hi
    omega
  · intro h
    exact ⟨c - 97, List.mem_range.mpr (by omega), by omega⟩
theorem one_lt (c d : Nat) : decide ((⟨#[c]⟩ : Str).cps.toList < (⟨#[d]⟩ : Str).cps.toList) = decide (c < d) := by
  refine decide_eq_decide.mpr ?_
  show [c] < [d] ↔ c < d
  rw [List.cons_lt_cons_iff]
  constructor
  · rintro (h | ⟨_, h⟩)
    · exact h
    · exact absurd h (List.not_lt_nil _)
  · exact .inl
end Lp

namespace Lp
open PySem PySem.Spec PyProof.Rows L2

/-! ### comprehensions over values that stand for something -/
section
variable {J : It} {G : Hp → Prop} {g : TG} {tt : TT} {te : TE} {vs : List Nat} {σ : L2.St} {H1 : Hp} {D : Addr} {Qd : Hp → Prop} {α : Type}
theorem lc_src {src : List α} (val : α → V) (w : Walk J (src.map val).length G (YAt (src.map val))) (f : α → Bool) (v : α → V) (few : src.length ≤ 100000) (nD : H1 D = none) (hG : ∀ H', Same H1 H' → G H')
    (hs : ∀ (x : α) (H2 : Hp) (Ky : V → Hp → Prop) (Kn : Hp → Prop), x ∈ src → Same H1 H2 → (∀ H4, Same H2 H4 → f x = true → Ky (v x) H4) → (∀ H4, Same H2 H4 → f x = false → Kn H4) →
      g (val x) (wipe σ vs) H2 fun σ2 H4 => wipe σ2 vs = wipe σ vs ∧ tt σ2 H4 fun b H5 => if b = true then te σ2 H5 Ky else Kn H5)
    (hd : ∀ H', Same H1 H' → H' D = some (.lst ((src.filter f).map v)) → Qd H') :
    ∃ W : Nat → Nat → Hp → Prop, (∃ m, W 0 m (upd H1 D (.lst []))) ∧ ∀ i m H, W i m H →
      (J.stop i H ∧ Qd H) ∨ (J.go i H ∧ ∃ Nx : Hp → Prop, (∀ H', Nx H' → ∃ m', m' < m ∧ W (i + 1) m' H') ∧ ∀ x H', J.yld i H x H' → g x (wipe σ vs) H' fun σ2 H2 => wipe σ2 vs = wipe σ vs ∧ tt σ2 H2 fun b H3 =>
        if b = true then te σ2 H3 fun y H4 => ∃ acc, H4 D = some (.lst acc) ∧ acc.length < sizeLine ∧ Nx (upd H4 D (.lst (acc ++ [y]))) else Nx H3) := by
  refine lc_gen w (fun i => ((src.take i).filter f).map v) rfl (fun i hi => ?_) nD hG (fun i x H2 H3 Ky Kn hi sm y k1 k0 => ?_) (fun H' sm e => hd H' sm ?_)
  · rw [List.length_map]
    have := List.length_filter_le f (src.take i)
    rw [List.length_take] at this
    omega
  · obtain ⟨rfl, hx⟩ := y
    rw [List.getElem?_map] at hx
    obtain ⟨u, hu, rfl⟩ := Option.map_eq_some_iff.mp hx
    have tk : src.take (i + 1) = src.take i ++ [u] := by
      rw [List.take_add_one, hu]
      rfl
    refine hs u H3 Ky Kn (List.mem_of_getElem? hu) sm (fun H4 s4 e => k1 _ H4 s4 ?_) (fun H4 s4 e => k0 H4 s4 ?_)
    · show ((src.take (i + 1)).filter f).map v = _
      rw [tk, List.filter_append, List.map_append, List.filter_cons, if_pos e]
      rfl
    · show ((src.take (i + 1)).filter f).map v = _
      rw [tk, List.filter_append, List.map_append, List.filter_cons, if_neg (by rw [e]; exact Bool.false_ne_true)]
      show _ ++ [] = _
      rw [List.append_nil]
  · rw [e]
    show some (HO.lst (((src.take (src.map val).length).filter f).map v)) = _
    rw [List.length_map, List.take_length]
end

/-! ### lists of pairs of texts -/
/-- pairs as they stand in a heap -/
abbrev PairL := List (Addr × Str × Str)
def PairsAt (H : Hp) (ps : PairL) : Prop := ∀ q ∈ ps, H q.1 = some (.tup [.str q.2.1, .str q.2.2])
theorem PairsAt.same {H H' : Hp} {ps : PairL} (h : PairsAt H ps) (k : Same H H') : PairsAt H' ps := fun q hq => k _ _ (h q hq)
def refs (ps : PairL) : List V := ps.map fun q => V.ref q.1
def dat2 (p : Str × Str) : PyData := .tuple [.str p.1, .str p.2]
theorem dp_pair {K : PySem.W.Frag} {H : Hp} {q : Addr × Str × Str} (h : H q.1 = some (.tup [.str q.2.1, .str q.2.2])) : Dp K H (.ref q.1) (dat2 q.2) := .tup (.inl (.inl h)) (.cons (.str _) (.cons (.str _) .nil))
theorem dp_pairs {K : PySem.W.Frag} {H : Hp} : ∀ {ps : PairL}, PairsAt H ps → DpAll K H (refs ps) (ps.map fun q => dat2 q.2)
  | [], _ => .nil
  | q :: r, h => .cons (dp_pair (h q List.mem_cons_self)) (dp_pairs fun u hu => h u (List.mem_cons_of_mem _ hu))
theorem lay_pair {p : Str × Str} (h1 : lowS p.1) (h2 : lowS p.2) : PyData.canLay0 (dat2 p) = true ∧ PyData.depth (dat2 p) = 1 := by
  have a : PyData.strOk p.1 = true := h1.ok
  have b : PyData.strOk p.2 = true := h2.ok
  constructor
  · show (PyData.strOk p.1 && (PyData.strOk p.2 && true)) = true
    rw [a, b]
    rfl
  · rfl
theorem lay_pairs : ∀ {ps : List (Str × Str)}, (∀ p ∈ ps, lowS p.1 ∧ lowS p.2) → PyData.canLayAll0 (ps.map dat2) = true ∧ PyData.depthAll (ps.map dat2) ≤ 1
  | [], _ => ⟨rfl, Nat.zero_le _⟩
  | p :: r, h => by
    have ih := lay_pairs (ps := r) fun y hy => h y (List.mem_cons_of_mem _ hy)
    have hp := lay_pair (h p List.mem_cons_self).1 (h p List.mem_cons_self).2
    rw [List.map_cons]
    refine ⟨?_, ?_⟩
    · show (PyData.canLay0 (dat2 p) && PyData.canLayAll0 _) = true
      rw [ih.1, hp.1]
      rfl
    · show max (PyData.depth (dat2 p)) (PyData.depthAll _) ≤ 1
      rw [hp.2]
      omega
theorem shaped_pairs {ps : List (Str × Str)} (h : ∀ p ∈ ps, lowS p.1 ∧ lowS p.2) : SeqAt.shaped (.list (ps.map dat2)) = true := by
  have l := lay_pairs h
  show (PyData.canLayAll0 (ps.map dat2) && decide (PyData.depthAll (ps.map dat2) + 1 ≤ 64)) = true
  rw [l.1, Bool.true_and]
  exact decide_eq_true (by omega)
theorem shaped_pair {p : Str × Str} (h1 : lowS p.1) (h2 : lowS p.2) : SeqAt.shaped (dat2 p) = true := by
  have l := lay_pair h1 h2
  unfold SeqAt.shaped
  rw [l.1, l.2]
  rfl
theorem eqv_pair (p q : Str × Str) : PyData.eqv (dat2 p) (dat2 q) = decide (p = q) := by
  show ((p.1 == q.1) && ((p.2 == q.2) && true)) = _
  obtain ⟨a, b⟩ := p
  obtain ⟨c, d⟩ := q
  rw [Bool.and_true]
  by_cases h1 : a = c
  · by_cases h2 : b = d
    · subst h1
      subst h2
      simp
    · have : ((a, b) : Str × Str) ≠ (c, d) := fun e => h2 (Prod.mk.inj e).2
      rw [decide_eq_false this, show (b == d) = false from beq_eq_false_iff_ne.mpr h2, Bool.and_false]
  · have : ((a, b) : Str × Str) ≠ (c, d) := fun e => h1 (Prod.mk.inj e).1
    rw [decide_eq_false this, show (a == c) = false from beq_eq_false_iff_ne.mpr h1, Bool.false_and]
theorem any_pair (ps : List (Str × Str)) (p : Str × Str) : ((ps.map dat2).any fun z => PyData.eqv z (dat2 p)) = decide (p ∈ ps) := by
  rw [List.any_map]
  induction ps with
  | nil => rfl
  | cons q r ih =>
    rw [List.any_cons, ih]
    show (PyData.eqv (dat2 q) (dat2 p) || decide (p ∈ r)) = _
    rw [eqv_pair]
    by_cases e : q = p
    · subst e
      simp
    · rw [decide_eq_false e, Bool.false_or]
      exact decide_eq_decide.mpr ⟨fun h => List.mem_cons_of_mem _ h, fun h => (List.mem_cons.mp h).resolve_left fun z => e z.symm⟩
section
variable {X : Cx} {K : PySem.W.Frag}
theorem inD_K (h : X.K = K) (hu : X.A.units + 65 < cLine) : OpR X (compareOp .In) (rInD K) := h ▸ op_inD hu
theorem pair_in {H : Hp} {Q : VK} {a : Addr} {x y : Str} {l : Addr} {ps : PairL} (ha : H a = some (.tup [.str x, .str y])) (hl : H l = some (.lst (refs ps))) (hp : PairsAt H ps) (low : ∀ p ∈ ps.map (·.2), lowS p.1 ∧ lowS p.2) (lx : lowS x) (ly : lowS y)
    (q : Q (.bl (decide ((x, y) ∈ ps.map (·.2)))) H) : rInD K (.ref a) (.ref l) H Q := by
  have e : (ps.map fun q => dat2 q.2) = (ps.map (·.2)).map dat2 := by rw [List.map_map]; rfl
  refine ⟨dat2 (x, y), ps.map fun q => dat2 q.2, dp_pair (q := (a, x, y)) ha, .lst (.inl (.inl hl)) (dp_pairs hp), shaped_pair (p := (x, y)) lx ly, ?_, ?_⟩
  · rw [e]
    exact shaped_pairs low
  · rw [e, any_pair]
    exact q
/-- a list of pairs beside [] -/
theorem ne_pairs_nil {H : Hp} {Q : VK} {l m : Addr} {ps : PairL} (hl : H l = some (.lst (refs ps))) (hp : PairsAt H ps) (low : ∀ p ∈ ps.map (·.2), lowS p.1 ∧ lowS p.2) (hm : H m = some (.lst [])) (q : Q (.bl (!decide (ps = []))) H) : rNeD K (.ref l) (.ref m) H Q := by
  have e : (ps.map fun q => dat2 q.2) = (ps.map (·.2)).map dat2 := by rw [List.map_map]; rfl
  refine ⟨.list (ps.map fun q => dat2 q.2), .list [], .lst (.inl (.inl hl)) (dp_pairs hp), .lst (.inl (.inl hm)) .nil, ?_, rfl, ?_⟩
  · rw [e]
    exact shaped_pairs low
  · cases ps with
    | nil => exact q
    | cons p r => exact q
end
/-- names[a:b], of numbers that are none below 0 -/
theorem cut_mid (zs : List Str) (a b : Nat) : cutV (zs.map V.str) (some (a : Int)) (some (b : Int)) = ((zs.take b).drop a).map V.str := by
  unfold cutV
  rw [HT.sIx_nat, HT.sIx_nat, List.length_map, ← List.map_drop, ← List.map_take]
  congr 1
  rw [List.drop_take]
  by_cases ha : a ≤ zs.length
  · rw [Nat.min_eq_left ha]
    by_cases hb : b ≤ zs.length
    · rw [Nat.min_eq_left hb]
    · rw [Nat.min_eq_right (Nat.le_of_lt (Nat.lt_of_not_le hb)), List.take_of_length_le (by rw [List.length_drop]; exact Nat.le_refl _), List.take_of_length_le (by rw [List.length_drop]; omega)]
  · rw [Nat.min_eq_right (Nat.le_of_lt (Nat.lt_of_not_le ha)), List.drop_eq_nil_of_le (Nat.le_refl _), List.drop_eq_nil_of_le (Nat.le_of_lt (Nat.lt_of_not_le ha)), List.take_nil, List.take_nil]
theorem cut_from (zs : List Str) (a : Nat) : cutV (zs.map V.str) (some (a : Int)) none = (zs.drop a).map V.str := by
  unfold cutV
  rw [HT.sIx_nat, HT.sIx_none, List.length_map, ← List.map_drop, ← List.map_take]
  congr 1
  by_cases ha : a ≤ zs.length
  · rw [Nat.min_eq_left ha, List.take_of_length_le (by rw [List.length_drop]; omega)]
  · rw [Nat.min_eq_right (by omega), List.drop_eq_nil_of_le (by omega), List.drop_eq_nil_of_le (by omega), List.take_nil]
end Lp

namespace Lp
open PySem PySem.Spec PyProof.Rows L2

/-! ### == of a text and a dict -/
section
variable {prog : Program} {w : World} {A : Around} {s : Shared}
open PySem.SeqAt AutoSeq1
theorem dict_declines_str {l : Addr} {o : Obj} (ho : s.heap.get? l = some o) (hc : o.cls = .type "dict") (b : Str) (u : Tok) {E Q : Value → Shared → Prop} (hq : Q .notImplemented s) : wpAny (model prog w) A (call (.builtin "dict.__eq__") [.ref l, .str b u]) Q E s := by
  have ty : s.TypeIs (.ref l) "dict" := ⟨o, ho, hc⟩
  refine wpAny_call_entry PySem.F.slot_dict_eq ty PySem.F.entry_dict_eq ?_ (PySem.F.args_dict_eq_2 _ _)
  show wpAny _ _ (Builtin.Dict.dictSlotArgs "__eq__" ⟨[.ref l, .str b u], []⟩ >>= _) _ _ s
  refine wpAny_bind ?_
  unfold Builtin.Dict.dictSlotArgs
  refine wpAny_bind (wpAny_notOrdered_dict ty ?_)
  show wpAny _ _ (pure (Value.ref l, Value.str b u)) _ _ s
  refine wpAny_pure ?_
  refine wpAny_bind (wpAny_isInstance (T := "str") (typeIs_str s b u) PySem.F.sub_str_dict ?_)
  simp only [Bool.not_false, if_true]
  refine wpAny_bind (wpAny_rule (wpAny_bind (wpAny_pure (wpAny_pure ⟨_, rfl, ?_⟩))))
  exact hq
theorem str_declines_dict (b : Str) (u : Tok) (l : Addr) (c : Value) (es : Array DictEntry) (ep : Nat) (dd : Option Addr) (sl : Array (Option Value)) :
    Meets (Builtin.«str.__eq__» ⟨[.str b u, .ref l], []⟩) (fun _ R s => s.heap.get? l = some { cls := c, dict := dd, data := .dict es ep, slots := sl } ∧ R (.ok (.ret .notImplemented)) s) :=
  .of_wp fun prog w A R s h => by obtain ⟨hp, g, d, tk, os⟩ := s; obtain ⟨hl, h⟩ := h; wp_walk using wpAny_loadPart' hl, wpAny_load hl; exact ⟨_, rfl, h⟩
/-- an object that is a dict -/
def IsDct (h : Heap) (l : Addr) : Prop := ∃ (dd : Option Addr) (sl : Array (Option Value)) (es : Array DictEntry) (ep : Nat), h.get? l = some { cls := .type "dict", dict := dd, data := .dict es ep, slots := sl }
theorem rc_dict_str {l : Addr} (b : Str) (u : Tok) (hl : IsDct s.heap l) (hu : A.units < cLine) : RcAt A s (.ref l) (.str b u) false := fun prog w E Q h => by
  obtain ⟨dd, sl, es, ep, ho⟩ := hl
  exact rc_eq_decline_or (k := false) ⟨_, ho, rfl⟩ (typeIs_str s b u) (by decide) PySem.F.sub_str_dict PySem.F.slot_dict_eq PySem.F.slot_str_eq_refl
    (fun _ hq => dict_declines_str ho rfl b u hq)
    (fun _ hq => call_meets PySem.F.slot_str_eq_refl (typeIs_str s b u) PySem.F.entry_str_eq (PySem.F.args_str_eq_2 _ _) (str_declines_dict b u l (.type "dict") es ep dd sl) ⟨ho, hq⟩)
    (fun _ hq => wpAny_of_eq (rfl : isSame (.ref l) (.str b u) = pure false) hq) (.inr hu) h
theorem eq_dict_str {l : Addr} (b : Str) (u : Tok) (hl : IsDct s.heap l) (hu : A.units < cLine) : EqAt A s (.ref l) (.str b u) false := fun prog w E Q h => by
  unfold eqBool
  refine wpAny_holding ?_
  refine wpAny_ite_split (fun hab => absurd (eq_of_beq hab) nofun) (fun _ => ?_)
  exact wpAny_bind (rc_dict_str b u hl hu prog w E _ (wpAny_truthy_bool h))
theorem rc_str_dict {l : Addr} (b : Str) (u : Tok) (hl : IsDct s.heap l) (hu : A.units < cLine) : RcAt A s (.str b u) (.ref l) false := fun prog w E Q h => by
  obtain ⟨dd, sl, es, ep, ho⟩ := hl
  exact rc_eq_decline_or (k := false) (typeIs_str s b u) ⟨_, ho, rfl⟩ (by decide) PySem.F.sub_dict_str PySem.F.slot_str_eq PySem.F.slot_dict_eq_refl
    (fun _ hq => call_meets PySem.F.slot_str_eq (typeIs_str s b u) PySem.F.entry_str_eq (PySem.F.args_str_eq_2 _ _) (str_declines_dict b u l (.type "dict") es ep dd sl) ⟨ho, hq⟩)
    (fun _ hq => dict_declines_str ho rfl b u hq)
    (fun _ hq => wpAny_of_eq (rfl : isSame (.str b u) (.ref l) = pure false) hq) (.inr hu) h
theorem eq_str_dict {l : Addr} (b : Str) (u : Tok) (hl : IsDct s.heap l) (hu : A.units < cLine) : EqAt A s (.str b u) (.ref l) false := fun prog w E Q h => by
  unfold eqBool
  refine wpAny_holding ?_
  refine wpAny_ite_split (fun hab => absurd (eq_of_beq hab) nofun) (fun _ => ?_)
  exact wpAny_bind (rc_str_dict b u hl hu prog w E _ (wpAny_truthy_bool h))
end

/-! ### == and in of any data and texts -/
/-- a value of some kind that == knows -/
def DatX (K : PySem.W.Frag) (H : Hp) : V → Prop
  | .non => True
  | .bl _ => True
  | .int _ => True
  | .str _ => True
  | .ref a => (∃ xs, SqL K H a xs) ∨ (∃ xs, SqT K H a xs) ∨ ∃ kvs, H a = some (.dK kvs)
  | _ => False
section
variable {X : Cx} {pins : List (Addr × Obj)} {σ : L2.St} {H : Hp} {s : Shared}
theorem dct_of (I : Inv X pins σ H s) {a : Addr} {kvs : List (Key × V)} (e : H a = some (.dK kvs)) : IsDct s.heap a := by
  obtain ⟨_, _, vs, _, o, es, ep, ho, ⟨h1, h2, h3⟩, hd, _⟩ := (show ObjOk X.prog X.w H s.heap a (.dK kvs) from I.hok a _ e)
  obtain ⟨cls, dd, data, sl⟩ := o
  simp only at h1 h2 h3 hd
  subst h1 h2 h3 hd
  exact ⟨_, _, es, ep, ho⟩
open PySem.SeqAt in
theorem datX_eqs (I : Inv X pins σ H s) {A : Around} {x : V} {v : Value} (d : DatX X.K H x) (r : RelV x v) (b : Str) (u : Tok) (hu : A.units < cLine) :
    RcAt A s v (.str b u) (decide (x = .str b)) ∧ EqAt A s (.str b u) v (decide (x = .str b)) := by
  cases x with
  | non =>
    cases r
    exact ⟨.none_str b u, .str_none b u⟩
  | bl c =>
    cases r
    exact ⟨.bool_str c b u, .str_bool b u c⟩
  | int i =>
    obtain ⟨t, rfl⟩ := r
    exact ⟨.int_str i t b u, .str_int b u i t⟩
  | str z =>
    obtain ⟨t, rfl⟩ := r
    have e1 : decide (V.str z = V.str b) = (z == b) := dec_str
    have e2 : decide (V.str z = V.str b) = (b == z) := by rw [e1, Bool.eq_iff_iff, beq_iff_eq, beq_iff_eq, eq_comm]
    exact ⟨by rw [e1]; exact .str_str z t b u, by rw [e2]; exact .str_str b u z t⟩
  | ref a =>
    cases r
    rcases d with ⟨xs, h⟩ | ⟨xs, h⟩ | ⟨kvs, h⟩
    · obtain ⟨its, _, p, _⟩ := I.list h
      exact ⟨.list_str b u p.isList hu, .str_list b u p.isList hu⟩
    · obtain ⟨its, _, p, _⟩ := I.tuple h
      exact ⟨.tuple_str b u p hu, .str_tuple b u p hu⟩
    · exact ⟨rc_dict_str b u (dct_of I h) hu, eq_str_dict b u (dct_of I h) hu⟩
  | byt b => exact False.elim d
  | flt b => exact False.elim d
  | ty n => exact False.elim d
def rEqS (K : PySem.W.Frag) : R2 := fun x y H Q => ∃ b : Str, y = .str b ∧ DatX K H x ∧ Q (.bl (decide (x = .str b))) H
theorem op_eqS (hu : X.A.units < cLine) : OpR X (compareOp .Eq) (rEqS X.K) := by
  intro pins s σ H x y v u Q I rx ry h
  obtain ⟨b, rfl, d, q⟩ := h
  obtain ⟨t, rfl⟩ := ry
  exact (datX_eqs I d rx b t hu).1 _ _ _ _ ⟨.bl _, H, I, rfl, q⟩
def inTxt (x : V) (zs : List Str) : Bool := zs.any fun z => decide (x = .str z)
theorem inTxt_str (z : Str) (zs : List Str) : inTxt (.str z) zs = decide (z ∈ zs) := by
  unfold inTxt
  induction zs with
  | nil => rfl
  | cons y r ih =>
    rw [List.any_cons, ih]
    by_cases e : z = y
    · subst e
      simp
    · rw [decide_eq_false (fun h => e (V.str.inj h)), Bool.false_or]
      exact decide_eq_decide.mpr ⟨fun h => List.mem_cons_of_mem _ h, fun h => (List.mem_cons.mp h).resolve_left e⟩
theorem inTxt_other {x : V} (h : ∀ z, x ≠ .str z) (zs : List Str) : inTxt x zs = false := by
  unfold inTxt
  rw [List.any_eq_false]
  intro z _ e
  exact h z (of_decide_eq_true e)
def txtE (x : V) : Value → Bool
  | .str b _ => decide (x = .str b)
  | _ => false
theorem vals_txt : ∀ {zs : List Str} {its : List Value}, Vals (zs.map V.str) its → (∀ y ∈ its, ∃ z t, y = .str z t) ∧ ∀ x, its.any (txtE x) = inTxt x zs
  | [], its, h => by
    cases h
    exact ⟨fun _ h => (nomatch h), fun _ => rfl⟩
  | z :: r, its, h => by
    rw [List.map_cons] at h
    cases h with
    | cons h1 h2 =>
      obtain ⟨t, rfl⟩ := h1
      obtain ⟨k1, k2⟩ := vals_txt h2
      refine ⟨fun y hy => ?_, fun x => ?_⟩
      · rcases List.mem_cons.mp hy with rfl | hy
        · exact ⟨z, t, rfl⟩
        · exact k1 y hy
      · rw [List.any_cons, k2 x]
        rfl
def rInS (K : PySem.W.Frag) : R2 := fun x y H Q => ∃ (a : Addr) (zs : List Str), y = .ref a ∧ SqT K H a (zs.map V.str) ∧ DatX K H x ∧ Q (.bl (inTxt x zs)) H
theorem op_inS (hu : X.A.units + 1 < cLine) : OpR X (compareOp .In) (rInS X.K) := by
  intro pins s σ H x y v u Q I rx ry h
  obtain ⟨a, zs, rfl, ht, d, q⟩ := h
  obtain rfl : u = Value.ref a := ry
  obtain ⟨its, r, p, _⟩ := I.tuple ht
  obtain ⟨k1, k2⟩ := vals_txt r
  refine SeqAt.in_tupleAt (txtE x) p (fun y hy => ?_) ⟨.bl (inTxt x zs), H, I, ?_, q⟩
  · obtain ⟨z, t, rfl⟩ := k1 y (by simpa using hy)
    exact (datX_eqs I (A := X.A.in1) d rx z t hu).2
  · show Value.bool (its.toArray.any (txtE x)) = Value.bool _
    rw [List.any_toArray, k2]
theorem eqS_K {K : PySem.W.Frag} (h : X.K = K) (hu : X.A.units < cLine) : OpR X (compareOp .Eq) (rEqS K) := h ▸ op_eqS hu
theorem inS_K {K : PySem.W.Frag} (h : X.K = K) (hu : X.A.units + 1 < cLine) : OpR X (compareOp .In) (rInS K) := h ▸ op_inS hu
end
end Lp

namespace Lp
open PySem PySem.Spec PyProof.Rows L2
open AutoSeq1 (wpAny_loadPart')
set_option maxHeartbeats 1000000 in
theorem meets_enum_newT (l : Addr) (items : Array Value) (n : Nat) (dct : Option Addr) (sl : Array (Option Value)) :
    Meets (Builtin.«enumerate.__new__» ⟨[.type "enumerate", .ref l], []⟩) (fun _ R s => s.heap.get? l = some { cls := .type "tuple", dict := dct, data := .seq items n, slots := sl } ∧
      R (.ok (.ret (.ref (s.heap.push { cls := .type "tuple_iterator", data := .fields #[.ref l, .int 0 0] }).objs.size)))
        { s with heap := (s.heap.push { cls := .type "tuple_iterator", data := .fields #[.ref l, .int 0 0] }).push { cls := .type "enumerate", data := .fields #[.none, .bool false, .ref s.heap.objs.size, rawInt 0, .none, .none] } }) :=
  .of_wp fun prog w A R s h => by
    obtain ⟨hp, g, d, tk, os⟩ := s; obtain ⟨hl, h⟩ := h
    have hsub := sub_enumerate
    have hL : Heap.IsTuple (Shared.heap ⟨hp, g, d, tk, os⟩) l items := ⟨_, hl, rfl, n, rfl⟩
    wp_walk using wpAny_loadPart' hl
    refine wpAny_stack_any fun st => wpAny_pure ?_
    split
    · rename_i c _ _ _ _ _
      cases (c == Value.type "enumerate")
      · wp_walk using wpAny_loadPart' hl, wpAny_pyIter_tuple hL
        exact ⟨_, rfl, h⟩
      · wp_walk using wpAny_loadPart' hl, wpAny_pyIter_tuple hL
        exact ⟨_, rfl, h⟩
    · wp_walk using wpAny_loadPart' hl, wpAny_pyIter_tuple hL
      exact ⟨_, rfl, h⟩
section
variable {prog : Program} {w : World} {A : Around} {E : Value → Shared → Prop} {s : Shared}
theorem call_enum_tuple {l : Addr} {items : Array Value} {Q : Value → Shared → Prop} (hL : s.heap.IsTuple l items)
    (h : ∀ h', IsEnum h' (s.heap.objs.size + 1) s.heap.objs.size 0 .none → h'.IsTupleIter s.heap.objs.size l 0 → h'.objs.size = s.heap.objs.size + 2 →
      (∀ b o, s.heap.get? b = some o → h'.get? b = some o) → Q (.ref (s.heap.objs.size + 1)) { s with heap := h' }) :
    wpAny (model prog w) A (call (.type "enumerate") [.ref l]) Q E s := by
  obtain ⟨⟨c, dct, dt, sl⟩, hl, hc, n, hd⟩ := hL
  replace hc : c = .type "tuple" := hc
  replace hd : dt = .seq items n := hd
  subst hc hd
  refine callType_new F.called_enumerate (by decide) (F.typeCall_enumerate_1 _) (F.newCall_enumerate_1 _) (fun obj => F.args_object_init_2 obj _) F.entry_enumerate_new
    (meets_enum_newT l items n dct sl) ⟨hl, ?_⟩
  have hz : (s.heap.push { cls := .type "tuple_iterator", data := .fields #[.ref l, .int 0 0] }).objs.size = s.heap.objs.size + 1 := Heap.size_push ..
  show _ ∧ _
  rw [hz]
  have he : IsEnum ((s.heap.push { cls := .type "tuple_iterator", data := .fields #[.ref l, .int 0 0] }).push
      { cls := .type "enumerate", data := .fields #[.none, .bool false, .ref s.heap.objs.size, rawInt 0, .none, .none] }) (s.heap.objs.size + 1) s.heap.objs.size 0 .none := by
    have := Heap.get?_push_size (s.heap.push { cls := .type "tuple_iterator", data := .fields #[.ref l, .int 0 0] })
      (o := { cls := .type "enumerate", data := .fields #[.none, .bool false, .ref s.heap.objs.size, rawInt 0, .none, .none] }) rfl
    rw [hz] at this; exact this
  refine ⟨⟨_, he, rfl⟩, h _ he ⟨_, Heap.get?_push_of_some _ (Heap.get?_push_size _ rfl), rfl, rfl⟩ (by rw [Heap.size_push, hz]) fun b o x => Heap.get?_push_of_some _ (Heap.get?_push_of_some _ x)⟩
end
section
variable {prog : Program} {w : World} {A : Around} {E : Value → Shared → Prop} {s : Shared}
theorem next_enum_tupEnd {e it l : Addr} {i : Nat} {items : Array Value} {old : Value} {Q : Option Value → Shared → Prop} (hh : A.handled = none)
    (he : IsEnum s.heap e it i old) (hit : s.heap.IsTupleIter it l i) (hl : s.heap.IsTuple l items) (hx : items[i]? = none)
    (hQ : ∀ h', Heap.ExtBut it s.heap h' → Q none { s with heap := h' }) : wpAny (model prog w) A (pyNext (.ref e)) Q E s := by
  have hT : s.TypeIs (.ref e) "enumerate" := ⟨_, he, rfl⟩
  unfold pyNext
  refine wpAny_bind (wpAny_attempt (wpAny_callSpecial?_slot (name := Str.ofString "__next__") hT F.slot_enumerate_next
    (wpAny_call_entry F.slot_enumerate_next hT F.entry_enumerate_next ?_ (F.args_enumerate_next_1 _))))
  show wpAny _ _ (field (.ref e) 2 >>= _) _ _ _
  refine wpAny_bind (wpAny_field he rfl (x := .ref it) rfl ?_)
  refine wpAny_bind (wpAny_nextOf_tuple_end hh hit hl hx fun h' x he' hx' => ?_)
  obtain ⟨o, ho, hc⟩ := hx'
  refine wpAny_bind (wpAny_isInstance (T := "StopIteration") (b := true) ⟨o, ho, hc⟩ isSubtype_stop ?_)
  exact wpAny_pure (hQ _ he')
end
/-- the tuple at a, each item in a new pair with its number -/
def Itu (K : PySem.W.Frag) (a : Addr) : It :=
  ⟨fun i H => ∃ (xs : List V) (x : V), SqT K H a xs ∧ xs[i]? = some x, fun i H v H' => ∃ T x, v = .ref T ∧ H T = none ∧ H' = upd H T (.tup [.int (i : Nat), x]) ∧ ∀ xs, SqT K H a xs → xs[i]? = some x, fun i H => ∃ xs : List V, SqT K H a xs ∧ xs.length ≤ i⟩
theorem turn_enumT {P : Program} {w : World} {K : PySem.W.Frag} {elts : List Expr} {kk : Nat} {tpos : Pos} (a e it : Addr) :
    Turn P w K (.Tuple elts kk tpos) (Itu K a) [e, it] e (fun i h => (∃ old, IsEnum h e it ((i : Nat) : Int) old) ∧ h.IsTupleIter it a i ∧ e ≠ it ∧ a ≠ it ∧ e ≠ a) where
  mem := by simp
  obj := fun i h st b hb => by
    obtain ⟨⟨old, he⟩, ⟨o, ho, hc, hd⟩, _⟩ := st
    have e' : b = e ∨ b = it := by simpa using hb
    rcases e' with z | z
    · rw [z]; exact ⟨_, he, fun v q => nomatch q⟩
    · rw [z]; exact ⟨o, ho, fun v q => by rw [hd] at q; cases q⟩
  keep := fun i h h' st k => let ⟨⟨old, he⟩, hi, hne⟩ := st; ⟨⟨old, k e (by simp) _ he⟩, hi.at fun o q => k it (by simp) o q, hne⟩
  item := by
    intro X hP hw hK hc i pins s σ H E I hf st hg
    subst hP hw hK
    obtain ⟨⟨old, he⟩, hit, hne, hat, hea⟩ := st
    obtain ⟨xs, x, hq, hx⟩ := hg
    obtain ⟨its, rv, p, hz⟩ := I.tuple hq
    obtain ⟨u, hu, ru⟩ := rv.get hx
    have hel : e < s.heap.objs.size := Heap.lt_size he
    have hil : it < s.heap.objs.size := by obtain ⟨_, q, _⟩ := hit; exact Heap.lt_size q
    have hu' : its.toArray[i]? = some u := by simpa using hu
    have D := PySem.Draws.tuple (prog := X.prog) (w := X.w) (A := X.A.in1) (I.ok.hd hc) it a hat its.toArray
    refine wpAny_pyNext_enum_itemD D he ⟨hit, p⟩ (Array.getElem?_eq_some_iff.mp hu').1 hne (by simp [hne, hea]) fun x' h' tk px ho hit' hT hsz hk => ?_
    have ex : x' = u := by
      rw [hu'] at px
      exact (Option.some.inj px).symm
    subst ex
    refine ⟨_, rfl, wpAny_letOwnedTupleGo_enum (s := { s with heap := h', toks := tk + 1 }) ho fun h'' he' sb => ?_⟩
    have hT2 : h''.get? s.heap.objs.size = some { cls := .type "tuple", data := .seq #[.int i tk, x'] } := (sb.2 _ (Nat.ne_of_gt hel)).trans hT
    have new : ObjOk X.prog X.w (upd H s.heap.objs.size (.tup [.int (i : Nat), x])) h'' s.heap.objs.size (.tup [.int (i : Nat), x]) :=
      ⟨by show 2 ≤ sizeLine; decide, [.int i tk, x'], .cons ⟨_, rfl⟩ (.cons ru .nil), ⟨_, hT2, rfl, _, rfl⟩⟩
    have I1 : Inv X pins σ (upd H s.heap.objs.size (.tup [.int (i : Nat), x])) { s with heap := h'', toks := tk + 1 } :=
      I.turnedNew (ch := [e, it]) (fun b ob hb q => (sb.2 b (fun z => hb (by simp [z]))).trans (hk b ob (fun z => hb (by simp [z])) (fun z => hb (by simp [z])) q)) hf (Nat.le_refl _) new
    refine ⟨.ref s.heap.objs.size, _, I1, rfl, ⟨_, x, rfl, I.hok.fresh (Nat.le_refl _), rfl, fun ys hy => by rw [I.tuple_inj hy hq]; exact hx⟩, ⟨⟨x', ?_⟩, hit'.1.at fun o q => (sb.2 it (Ne.symm hne)).trans q, hne, hat, hea⟩, fun b hb => ?_⟩
    · have e1 : ((i + 1 : Nat) : Int) = (i : Int) + 1 := by omega
      rw [e1]; exact he'
    · have hb' : b < s.heap.objs.size := by
        have e' : b = e ∨ b = it := by simpa using hb
        rcases e' with z | z
        · rw [z]; exact hel
        · rw [z]; exact hil
      rw [upd_ne (Nat.ne_of_lt hb')]
      exact (hf b hb).1
  done := by
    intro X hP hw hK hc i pins s σ H E I hf st hg
    subst hP hw hK
    obtain ⟨⟨old, he⟩, hit, hne, hat, hea⟩ := st
    obtain ⟨xs, hq, hx⟩ := hg
    obtain ⟨its, rv, p, hz⟩ := I.tuple hq
    obtain ⟨f0, f1, f2, f3, f4, f5⟩ := hf it (by simp)
    have hl := rv.length
    exact next_enum_tupEnd (I.ok.hd hc) he hit (show s.heap.IsTuple a its.toArray from p) (by simp; omega) fun h' eb => ⟨rfl, I.turned (t' := s.toks) (fun b o hb q => eb b o hb q) f0 f1 f3 f4 f5⟩
  self := fun A i s Q E st h => let ⟨⟨_, he⟩, _⟩ := st; wpAny_pyIter_enum he h
def iEnumT (K : PySem.W.Frag) (ta : TA) : TI := fun σ H R => ta σ H fun vs H1 => ∃ a xs, vs = [.ref a] ∧ SqT K H1 a xs ∧ R (Itu K a) H1
theorem pi_enumT {X : Cx} {e : Expr} {ta : TA} {p pos tpos : Pos} {elts : List Expr} {kk : Nat} (hg : Gl X "enumerate") (hm : X.mg "enumerate" = none) (ha : PA X [e] ta) (hs : starEach [e] X.env = [(false, eval e X.env)] := by rfl) :
    PI X (.Tuple elts kk tpos) (.Call (.Name "enumerate" p) [e] [] pos) (iEnumT X.K ta) := by
  refine ⟨fun pins s σ H R I h => ?_⟩
  refine Call_ (ld_blt I hg hm boot_enumerate (PyProof.Rows.callWith_type1 (thn (ha.run pos pins s σ H _ I h) fun us s1 ⟨vs, H1, I1, r1, q1⟩ => ?_) hs rfl))
  obtain ⟨a, xs, ex, hq, q⟩ := q1
  subst ex
  cases r1 with
  | cons r rr =>
    cases rr
    cases r
    obtain ⟨its, rv, p', hz⟩ := I1.tuple hq
    refine call_enum_tuple (show s1.heap.IsTuple a its.toArray from p') fun h' he hit hsz hk => wpAny_pyIter_enum he ?_
    have I2 : Inv X pins σ H1 { s1 with heap := h' } := I1.kept (t' := s1.toks) hk
    have ha : a < s1.heap.objs.size := by
      obtain ⟨o, ho, _⟩ := id p'
      exact Heap.lt_size ho
    refine ⟨s1.heap.objs.size + 1, [s1.heap.objs.size + 1, s1.heap.objs.size], _, _, H1, rfl, I2, turn_enumT a (s1.heap.objs.size + 1) s1.heap.objs.size, ⟨⟨.none, he⟩, hit, Nat.succ_ne_self _, Nat.ne_of_lt ha, Nat.ne_of_gt (Nat.lt_succ_of_lt ha)⟩, fun b hb => ?_, q⟩
    have e' : b = s1.heap.objs.size + 1 ∨ b = s1.heap.objs.size := by simpa using hb
    have hle : s1.heap.objs.size ≤ b := by
      rcases e' with z | z
      · rw [z]; exact Nat.le_add_right _ _
      · rw [z]; exact Nat.le_refl _
    exact I1.fpOk hle (I1.hok.fresh hle)
/-- a walk over a tuple's items with their numbers -/
theorem walk_enumT {K : PySem.W.Frag} {a : Addr} {xs : List V} : Walk (Itu K a) xs.length (fun H => SqT K H a xs) (fun i H v H' => ∃ T x, v = .ref T ∧ H T = none ∧ H' = upd H T (.tup [.int (i : Nat), x]) ∧ xs[i]? = some x) :=
  ⟨fun i _ hi q => ⟨xs, xs[i], q, by simp [hi]⟩, fun _ q => ⟨xs, q, Nat.le_refl _⟩, fun i H x H' _ q y => by obtain ⟨T, v, e1, e2, e3, e4⟩ := y; exact ⟨T, v, e1, e2, e3, e4 xs q⟩⟩
end Lp

namespace Lp
open PySem PySem.Spec PyProof.Rows L2
/-! ### == of anything and what is empty -/
section
variable {X : Cx}
def isNil (xs : List V) : Bool := xs.isEmpty
def rEqNilL (K : PySem.W.Frag) : R2 := fun x y H Q => ∃ (a b : Addr) (xs : List V), x = .ref a ∧ y = .ref b ∧ SqL K H a xs ∧ SqL K H b [] ∧ Q (.bl xs.isEmpty) H
def rNeNilL (K : PySem.W.Frag) : R2 := fun x y H Q => ∃ (a b : Addr) (xs : List V), x = .ref a ∧ y = .ref b ∧ SqL K H a xs ∧ SqL K H b [] ∧ Q (.bl (!xs.isEmpty)) H
def rEqNilT (K : PySem.W.Frag) : R2 := fun x y H Q => ∃ (a b : Addr) (xs : List V), x = .ref a ∧ y = .ref b ∧ SqT K H a xs ∧ SqT K H b [] ∧ Q (.bl xs.isEmpty) H
theorem op_eqNilL (hu : X.A.units < cLine) : OpR X (compareOp .Eq) (rEqNilL X.K) := by
  intro pins s σ H x y v u Q I rx ry h
  obtain ⟨a, b, xs, rfl, rfl, ha, hb, q⟩ := h
  obtain rfl : v = Value.ref a := rx
  obtain rfl : u = Value.ref b := ry
  obtain ⟨us, r1, p1, _⟩ := I.list ha
  obtain ⟨ws, r2, p2, _⟩ := I.list hb
  cases r2
  cases r1 with
  | nil => exact SeqAt.RcAt.lists (e := fun _ => true) p1.isList p2.isList rfl hu (fun j h1 _ => absurd h1 (Nat.not_lt_zero j)) _ _ _ _ ⟨.bl _, H, I, rfl, q⟩
  | cons h1 h2 => exact SeqAt.RcAt.lists_lengths p1.isList p2.isList (by simp) hu _ _ _ _ ⟨.bl _, H, I, rfl, q⟩
theorem op_neNilL (hu : X.A.units < cLine) : OpR X (compareOp .NotEq) (rNeNilL X.K) := by
  intro pins s σ H x y v u Q I rx ry h
  obtain ⟨a, b, xs, rfl, rfl, ha, hb, q⟩ := h
  obtain rfl : v = Value.ref a := rx
  obtain rfl : u = Value.ref b := ry
  obtain ⟨us, r1, p1, _⟩ := I.list ha
  obtain ⟨ws, r2, p2, _⟩ := I.list hb
  cases r2
  cases r1 with
  | nil => exact SeqAt.RcNeAt.lists (e := fun _ => true) p1.isList p2.isList rfl hu (fun j h1 _ => absurd h1 (Nat.not_lt_zero j)) _ _ _ _ ⟨.bl _, H, I, rfl, q⟩
  | cons h1 h2 => exact SeqAt.RcNeAt.lists_lengths p1.isList p2.isList (by simp) hu _ _ _ _ ⟨.bl _, H, I, rfl, q⟩
theorem op_eqNilT (hu : X.A.units < cLine) : OpR X (compareOp .Eq) (rEqNilT X.K) := by
  intro pins s σ H x y v u Q I rx ry h
  obtain ⟨a, b, xs, rfl, rfl, ha, hb, q⟩ := h
  obtain rfl : v = Value.ref a := rx
  obtain rfl : u = Value.ref b := ry
  obtain ⟨us, r1, p1, _⟩ := I.tuple ha
  obtain ⟨ws, r2, p2, _⟩ := I.tuple hb
  cases r2
  refine SeqAt.RcAt.tuples (e := fun _ => true) (show s.heap.IsTuple a us.toArray from p1) (show s.heap.IsTuple b ([] : List Value).toArray from p2) hu (fun j _ h2 => absurd h2 (Nat.not_lt_zero j)) _ _ _ _ ⟨.bl xs.isEmpty, H, I, ?_, q⟩
  cases r1 with
  | nil => rfl
  | cons h1 h2 =>
    show Value.bool _ = Value.bool false
    simp
end
end Lp

namespace Lp
open PySem PySem.Spec PyProof.Rows L2
/-! ### d.get(e), d a written dict with text keys -/
def tGetK (K : PySem.W.Frag) (d : Addr) (te : TE) : TE := fun σ H Q => te σ H fun y H1 => ∃ (z : Str) (r : Option Value) (v0 : V), y = .str z ∧ PySem.W.nsIn K d z = some r ∧ RelV v0 (r.getD .none) ∧ Q v0 H1
theorem pe_getK {X : Cx} {d : Addr} {es : Array DictEntry} {n : Nat} {o e : Expr} {te : TE} {apos cpos : Pos} (D : KDict X.K X.w d es n) (ho : PE X o (tC (.ref d))) (he : PE X e te)
    (hbase : attributeBase o "get" X.env (eval o X.env) = eval o X.env := by rfl)
    (hfew : ((backTo cpos (starEach [e] X.env)).all (fun x => !x.1) && (backToKw cpos (keywordEach [] X.env)).all (fun x => x.1.isSome)
      && decide (([e] : List Expr).length + ([] : List Keyword).length + (if ([] : List Keyword).isEmpty then 0 else 1) < 30)) = true := by rfl)
    (hline : (apos.endLine == cpos.line) = true := by rfl) (hs : starEach [e] X.env = (false, eval e X.env) :: starEach [] X.env := by rfl) (hplain : (backTo cpos (starEach [] X.env)).any (·.1) = false := by rfl) :
    PE X (.Call (.Attribute o "get" apos) [e] [] cpos) (tGetK X.K d te) := by
  refine ⟨fun pins s σ H Q I h => ?_⟩
  refine wpAny_Call_method_late hbase hfew hline rfl (thn (ho.run pins s σ H (fun x H1 => x = .ref d ∧ H1 = H) I ⟨rfl, rfl⟩) fun v s1 ⟨x, H1, I1, r1, ex, eH⟩ => ?_)
  subst ex eH
  obtain rfl : v = Value.ref d := r1
  have m := PySem.W.mapOf_K (prog := X.prog) (w := X.w) I1.kIn D.at_ D.lit
  refine ⟨"dict", "dict.get", PySem.F.plainAttrs_dict, PySem.F.slot_dict_get, PySem.F.type_dict_get, m.typeIs, fun a ea => ?_, ?_⟩
  · cases ea
    exact ⟨_, I1.kIn d _ D.at_, rfl⟩
  have hA := (pa_cons (hs := hs) he pa_nil).run cpos pins s1 σ H1 (fun xs H2 => match xs with | [y] => ∃ (z : Str) (r : Option Value) (v0 : V), y = .str z ∧ PySem.W.nsIn X.K d z = some r ∧ RelV v0 (r.getD .none) ∧ Q v0 H2 | _ => False) I1 h
  · rw [hs] at hA ⊢
    refine Calls.callWith_builtin (by show (false || (backTo cpos (starEach [] X.env)).any (·.1)) = false; rw [hplain] <;> rfl) (Calls.evalArgs_plain ?_)
    refine thn hA fun us s2 ⟨vs, H2, I2, r2, hm⟩ => ?_
    obtain ⟨y, rfl⟩ : ∃ y, vs = [y] := by
      match vs, hm with
      | [y], _ => exact ⟨y, rfl⟩
    obtain ⟨z, r, v0, rfl, hn, rv, q⟩ := hm
    cases r2 with
    | cons h1 h2 =>
      cases h2
      obtain ⟨t, rfl⟩ := h1
      have m2 := PySem.W.mapOf_K (prog := X.prog) (w := X.w) I2.kIn D.at_ D.lit
      refine call_meetsIn PySem.F.slot_dict_get m2.typeIs PySem.F.entry_dict_get (PySem.F.args_dict_get_2 _ _) (meets_dict_get (strKind X.prog X.w) d (strKind_is X.prog X.w z t) D.low) ⟨_, m2, ?_⟩
      rw [PySem.W.find_K D.at_ hn]
      exact ⟨v0, H2, I2.tok _, rv, q⟩
end Lp

namespace Lp
open PySem PySem.Spec PyProof.Rows L2
/-! ### values of texts and tuples; all else -/
inductive Dt where
  | txt (z : Str)
  | tup (ds : List Dt)
  | oth
mutual
/-- what a value stands for -/
inductive Rep (H : Hp) : V → Dt → Prop
  | txt {z : Str} : z.length ≤ 100000 → Rep H (.str z) (.txt z)
  | tup {a : Addr} {xs : List V} {ds : List Dt} : H a = some (.tup xs) → xs.length ≤ 1000 → RepAll H xs ds → Rep H (.ref a) (.tup ds)
  | non : Rep H .non .oth
  | bl {b : Bool} : Rep H (.bl b) .oth
  | int {i : Int} : Rep H (.int i) .oth
  | lst {a : Addr} {xs : List V} : H a = some (.lst xs) → Rep H (.ref a) .oth
  | dct {a : Addr} {xs : List (Key × V)} : H a = some (.dK xs) → Rep H (.ref a) .oth
inductive RepAll (H : Hp) : List V → List Dt → Prop
  | nil : RepAll H [] []
  | cons {v : V} {vs : List V} {d : Dt} {ds : List Dt} : Rep H v d → RepAll H vs ds → RepAll H (v :: vs) (d :: ds)
end
mutual
theorem Rep.same {H H' : Hp} (k : Same H H') : ∀ (d : Dt) (v : V), Rep H v d → Rep H' v d
  | .txt z, v, h => by
    cases h with
    | txt l => exact .txt l
  | .tup ds, v, h => by
    cases h with
    | tup e l r => exact .tup (k _ _ e) l (RepAll.same k ds _ r)
  | .oth, v, h => by
    cases h with
    | non => exact .non
    | bl => exact .bl
    | int => exact .int
    | lst e => exact .lst (k _ _ e)
    | dct e => exact .dct (k _ _ e)
theorem RepAll.same {H H' : Hp} (k : Same H H') : ∀ (ds : List Dt) (vs : List V), RepAll H vs ds → RepAll H' vs ds
  | [], vs, h => by
    cases h
    exact .nil
  | d :: ds, vs, h => by
    cases h with
    | cons h1 h2 => exact .cons (Rep.same k d _ h1) (RepAll.same k ds _ h2)
end
theorem Rep.dat {H : Hp} {v : V} {d : Dt} (h : Rep H v d) : Dat H v := by
  cases h with
  | txt l => exact l
  | tup e _ _ => exact .inr (.inl ⟨_, e⟩)
  | non => exact True.intro
  | bl => exact True.intro
  | int => exact True.intro
  | lst e => exact .inl ⟨_, e⟩
  | dct e => exact .inr (.inr ⟨_, e⟩)
theorem RepAll.length {H : Hp} : ∀ {xs : List V} {ds : List Dt}, RepAll H xs ds → xs.length = ds.length
  | [], [], _ => rfl
  | _ :: _, _ :: _, .cons _ t => by rw [List.length_cons, List.length_cons, RepAll.length t]
theorem RepAll.at {H : Hp} : ∀ {xs : List V} {ds : List Dt} {i : Nat} {x : V}, RepAll H xs ds → xs[i]? = some x → ∃ d, ds[i]? = some d ∧ Rep H x d
  | _ :: _, _ :: _, 0, _, .cons h _, e => by
    cases e
    exact ⟨_, rfl, h⟩
  | _ :: _, _ :: _, i + 1, _, .cons _ t, e => RepAll.at (i := i) t e
theorem RepAll.drop {H : Hp} : ∀ {xs : List V} {ds : List Dt} (n : Nat), RepAll H xs ds → RepAll H (xs.drop n) (ds.drop n)
  | _, _, 0, h => h
  | [], [], _ + 1, _ => .nil
  | _ :: _, _ :: _, n + 1, .cons _ t => RepAll.drop n t
theorem RepAll.take {H : Hp} : ∀ {xs : List V} {ds : List Dt} (n : Nat), RepAll H xs ds → RepAll H (xs.take n) (ds.take n)
  | _, _, 0, _ => .nil
  | [], [], _ + 1, _ => .nil
  | _ :: _, _ :: _, n + 1, .cons h t => .cons h (RepAll.take n t)
theorem RepAll.app {H : Hp} : ∀ {xs ys : List V} {ds es : List Dt}, RepAll H xs ds → RepAll H ys es → RepAll H (xs ++ ys) (ds ++ es)
  | [], _, [], _, _, k => k
  | _ :: _, _, _ :: _, _, .cons h t, k => .cons h (RepAll.app t k)
theorem RepAll.mem {H : Hp} {x : V} : ∀ {xs : List V} {ds : List Dt}, RepAll H xs ds → x ∈ xs → ∃ d ∈ ds, Rep H x d
  | _ :: _, _ :: _, .cons h t, e => by
    rcases List.mem_cons.mp e with rfl | e
    · exact ⟨_, List.mem_cons_self, h⟩
    · obtain ⟨d, hd, r⟩ := RepAll.mem t e
      exact ⟨d, List.mem_cons_of_mem _ hd, r⟩
/-! ### the form of a step -/
def nameD : Dt → Bool | .txt z => isName z | _ => false
def openD : Dt → Bool | .txt z => decide (z = Str.ofString "") || isName z | _ => false
def wayD : Dt → Bool | .txt z => decide (z = Str.ofString "full" ∨ z = Str.ofString "look") | _ => false
def stepRoles : List (Str × List Str) :=
  [("new", ["variable"]), ("copy", ["variable", "variable", "part"]), ("take", ["variable", "variable", "part"]), ("put", ["variable", "part", "variable"]), ("lend", ["variable", "variable", "part"]), ("move", ["variable", "variable"]),
    ("touch", ["variable", "part", "way"]), ("drop", ["variable"]), ("call", ["target", "function", "arguments"]), ("skip", []), ("return", ["target"])]
def argRoles : List (Str × List Str) := [("lend", ["variable", "part"]), ("move", ["variable"])]
/-- a role that is no list of arguments -/
def flatRole (role : Str) (d : Dt) : Bool :=
  if role = Str.ofString "way" then wayD d else if role = Str.ofString "part" ∨ role = Str.ofString "target" then openD d else nameD d
def allRoles (f : Str → Dt → Bool) (roles : Option (List Str)) (ds : List Dt) : Bool := match roles with
  | none => false
  | some rs => decide (ds.length = rs.length + 1) && ((ds.drop 1).zip rs).all fun p => f p.2 p.1
/-- the word that a tuple begins with -/
def wordD : Dt → Option (Str × List Dt)
  | .tup (.txt z :: r) => some (z, .txt z :: r)
  | _ => none
def argD (d : Dt) : Bool := match wordD d with
  | none => false
  | some (z, ds) => allRoles flatRole (argRoles.lookup z) ds
def argsD : Dt → Bool
  | .tup ds => decide (ds.length ≤ 3) && ds.all argD
  | _ => false
def fullRole (role : Str) (d : Dt) : Bool := if role = Str.ofString "arguments" then argsD d else flatRole role d
/-- whether it has the roles of a step -/
def rolesD (d : Dt) : Bool := match wordD d with
  | none => false
  | some (z, ds) => allRoles fullRole (stepRoles.lookup z) ds
end Lp

namespace Lp
open PySem PySem.Spec PyProof.Rows L2
/-! ### a written dict from words to tuples of words -/
def WrTup (K : PySem.W.Frag) (a : Addr) (xs : List V) : Prop := ∃ (o : Obj) (its : Array Value) (n : Nat), K.lookup a = some o ∧ o.cls = .type "tuple" ∧ o.data = .seq its n ∧ its.size ≤ sizeLine ∧ Vals xs its.toList
/-- the entries of the table, in its order -/
inductive Entries (K : PySem.W.Frag) : List (Str × List Str) → List DictEntry → Prop
  | nil : Entries K [] []
  | cons {p : Str × List Str} {r : List (Str × List Str)} {e : DictEntry} {es : List DictEntry} : (∃ t, e.key = .str p.1 t) → (∃ a, e.val = .ref a ∧ WrTup K a (p.2.map V.str)) → Entries K r es → Entries K (p :: r) (e :: es)
structure RolesAt (K : PySem.W.Frag) (w : World) (d : Addr) (table : List (Str × List Str)) : Prop where
  ex : ∃ es n, KDict K w d es n ∧ Entries K table es.toList
theorem Entries.keys {K : PySem.W.Frag} : ∀ {table : List (Str × List Str)} {es : List DictEntry}, Entries K table es → es.any (·.refKey) = false
  | _, _, .nil => rfl
  | _, _, .cons (e := e) ⟨t, h⟩ _ k => by
    rw [List.any_cons, k.keys, Bool.or_false]
    unfold DictEntry.refKey
    rw [h]
theorem Entries.find {K : PySem.W.Frag} (z : Str) : ∀ {table : List (Str × List Str)} {es : List DictEntry}, Entries K table es →
    (∀ rs, table.lookup z = some rs → ∃ e a, es.find? (·.key.isStr z) = some e ∧ e.val = .ref a ∧ WrTup K a (rs.map V.str)) ∧ (table.lookup z = none → es.find? (·.key.isStr z) = none)
  | _, _, .nil => ⟨fun _ h => (nomatch h), fun _ => rfl⟩
  | _, _, .cons (p := p) (e := e) ⟨t, h⟩ ⟨a, hv, wr⟩ k => by
    obtain ⟨f1, f2⟩ := k.find z
    have hk : e.key.isStr z = (p.1 == z) := by rw [h]; rfl
    obtain ⟨x, rs0⟩ := p
    rw [List.lookup_cons, List.find?_cons, hk]
    by_cases q : x = z
    · subst q
      rw [beq_self_eq_true]
      refine ⟨fun rs hr => ?_, fun hn => nomatch hn⟩
      cases hr
      exact ⟨e, a, rfl, hv, wr⟩
    · have q1 : (x == z) = false := beq_eq_false_iff_ne.mpr q
      have q2 : (z == x) = false := beq_eq_false_iff_ne.mpr fun h => q h.symm
      rw [show ((x, rs0).1 == z) = false from q1, q2]
      exact ⟨f1, f2⟩
theorem RolesAt.get {K : PySem.W.Frag} {w : World} {d : Addr} {table : List (Str × List Str)} (T : RolesAt K w d table) (z : Str) :
    (∀ rs, table.lookup z = some rs → ∃ a, PySem.W.nsIn K d z = some (some (.ref a)) ∧ WrTup K a (rs.map V.str)) ∧ (table.lookup z = none → PySem.W.nsIn K d z = some none) := by
  obtain ⟨es, n, D, en⟩ := T.ex
  obtain ⟨f1, f2⟩ := en.find z
  have ns : PySem.W.nsIn K d z = (match es.toList.find? (·.key.isStr z) with
      | some e => some (some e.val)
      | none => if es.toList.any (·.refKey) then none else some none) := by
    unfold PySem.W.nsIn
    rw [D.at_]
    rfl
  constructor
  · intro rs h
    obtain ⟨e, a, h1, h2, h3⟩ := f1 rs h
    exact ⟨a, by rw [ns, h1]; show some (some e.val) = _; rw [h2], h3⟩
  · intro h
    rw [ns, f2 h]
    show (if es.toList.any (·.refKey) = true then none else some none) = _
    rw [en.keys]
    rfl
end Lp

namespace Lp
open PySem PySem.Spec PyProof.Rows L2
/-! ### the forms of steps -/
inductive ArgF where
  | lend (a p : Str)
  | move (a : Str)
inductive StepF where
  | new (x : Str)
  | copy (x a p : Str)
  | take (x a p : Str)
  | put (a p y : Str)
  | lend (r a p : Str)
  | move (x y : Str)
  | touch (a p way : Str)
  | drop (x : Str)
  | call (r g : Str) (args : List ArgF)
  | skip
  | ret (y : Str)
def txs (zs : List Str) : Dt := .tup (zs.map .txt)
def ArgF.dt : ArgF → Dt
  | .lend a p => txs ["lend", a, p]
  | .move a => txs ["move", a]
def StepF.dt : StepF → Dt
  | .new x => txs ["new", x]
  | .copy x a p => txs ["copy", x, a, p]
  | .take x a p => txs ["take", x, a, p]
  | .put a p y => txs ["put", a, p, y]
  | .lend r a p => txs ["lend", r, a, p]
  | .move x y => txs ["move", x, y]
  | .touch a p way => txs ["touch", a, p, way]
  | .drop x => txs ["drop", x]
  | .call r g args => .tup [.txt "call", .txt r, .txt g, .tup (args.map ArgF.dt)]
  | .skip => txs ["skip"]
  | .ret y => txs ["return", y]
/-- empty or a name -/
def openS (z : Str) : Bool := decide (z = Str.ofString "") || isName z
def wayS (z : Str) : Bool := decide (z = Str.ofString "full" ∨ z = Str.ofString "look")
def ArgF.ok : ArgF → Bool
  | .lend a p => isName a && openS p
  | .move a => isName a
def StepF.ok : StepF → Bool
  | .new x => isName x
  | .copy x a p => isName x && isName a && openS p
  | .take x a p => isName x && isName a && openS p
  | .put a p y => isName a && openS p && isName y
  | .lend r a p => isName r && isName a && openS p
  | .move x y => isName x && isName y
  | .touch a p way => isName a && openS p && wayS way
  | .drop x => isName x
  | .call r g args => openS r && isName g && decide (args.length ≤ 3) && args.all ArgF.ok
  | .skip => true
  | .ret y => openS y
theorem nameD_inv {d : Dt} (h : nameD d = true) : ∃ z, d = .txt z ∧ isName z = true := by
  cases d with
  | txt z => exact ⟨z, rfl, h⟩
  | _ => exact absurd h Bool.false_ne_true
theorem openD_inv {d : Dt} (h : openD d = true) : ∃ z, d = .txt z ∧ openS z = true := by
  cases d with
  | txt z => exact ⟨z, rfl, h⟩
  | _ => exact absurd h Bool.false_ne_true
theorem wayD_inv {d : Dt} (h : wayD d = true) : ∃ z, d = .txt z ∧ wayS z = true := by
  cases d with
  | txt z => exact ⟨z, rfl, h⟩
  | _ => exact absurd h Bool.false_ne_true
theorem word_inv {d : Dt} {z : Str} {ds : List Dt} (h : wordD d = some (z, ds)) : d = .tup ds ∧ ∃ r, ds = .txt z :: r := by
  unfold wordD at h
  split at h
  · cases h
    exact ⟨rfl, _, rfl⟩
  · cases h
theorem flat_var (d : Dt) : flatRole (Str.ofString "variable") d = nameD d := by
  unfold flatRole
  rw [if_neg (by decide), if_neg (by decide)]
theorem flat_fun (d : Dt) : flatRole (Str.ofString "function") d = nameD d := by
  unfold flatRole
  rw [if_neg (by decide), if_neg (by decide)]
theorem flat_part (d : Dt) : flatRole (Str.ofString "part") d = openD d := by
  unfold flatRole
  rw [if_neg (by decide), if_pos (.inl rfl)]
theorem flat_target (d : Dt) : flatRole (Str.ofString "target") d = openD d := by
  unfold flatRole
  rw [if_neg (by decide), if_pos (.inr rfl)]
theorem flat_way (d : Dt) : flatRole (Str.ofString "way") d = wayD d := by
  unfold flatRole
  rw [if_pos rfl]
theorem full_of {role : Str} (h : role ≠ Str.ofString "arguments") (d : Dt) : fullRole role d = flatRole role d := if_neg h
theorem full_args (d : Dt) : fullRole (Str.ofString "arguments") d = argsD d := if_pos rfl
theorem len1 {α : Type} {l : List α} (h : l.length = 1) : ∃ x, l = [x] := by
  match l, h with
  | [x], _ => exact ⟨x, rfl⟩
theorem len2 {α : Type} {l : List α} (h : l.length = 2) : ∃ x y, l = [x, y] := by
  match l, h with
  | [x, y], _ => exact ⟨x, y, rfl⟩
theorem len3 {α : Type} {l : List α} (h : l.length = 3) : ∃ x y z, l = [x, y, z] := by
  match l, h with
  | [x, y, z], _ => exact ⟨x, y, z, rfl⟩
theorem look_of {t : List (Str × List Str)} {z : Str} {rs : List Str} (h : t.lookup z = some rs) : (z, rs) ∈ t := by
  induction t with
  | nil => cases h
  | cons p t ih =>
    obtain ⟨x, r⟩ := p
    rw [List.lookup_cons] at h
    by_cases e : z = x
    · subst e
      rw [beq_self_eq_true] at h
      cases h
      exact List.mem_cons_self
    · rw [beq_eq_false_iff_ne.mpr e] at h
      exact List.mem_cons_of_mem _ (ih h)
theorem arg_inv {d : Dt} (h : argD d = true) : ∃ f : ArgF, d = f.dt ∧ f.ok = true := by
  unfold argD at h
  cases e : wordD d with
  | none => rw [e] at h; cases h
  | some p =>
    obtain ⟨z, ds⟩ := p
    rw [e] at h
    obtain ⟨rfl, r, rfl⟩ := word_inv e
    have h : allRoles flatRole (argRoles.lookup z) (.txt z :: r) = true := h
    cases el : argRoles.lookup z with
    | none => rw [el] at h; cases h
    | some rs =>
      rw [el] at h
      have hm := look_of el
      have h : (decide ((Dt.txt z :: r).length = rs.length + 1) && (r.zip rs).all fun p => flatRole p.2 p.1) = true := h
      rw [Bool.and_eq_true, decide_eq_true_eq, List.length_cons] at h
      obtain ⟨hl, ha⟩ := h
      simp only [argRoles, List.mem_cons, List.not_mem_nil, or_false, Prod.mk.injEq] at hm
      rcases hm with ⟨rfl, rfl⟩ | ⟨rfl, rfl⟩
      · obtain ⟨d1, d2, rfl⟩ := len2 (show r.length = 2 from Nat.succ.inj hl)
        simp only [List.zip_cons_cons, List.zip_nil_right, List.all_cons, List.all_nil, Bool.and_true, Bool.and_eq_true] at ha
        obtain ⟨a, rfl, h1⟩ := nameD_inv ((flat_var d1).symm.trans ha.1)
        obtain ⟨p, rfl, h2⟩ := openD_inv ((flat_part d2).symm.trans ha.2)
        exact ⟨.lend a p, rfl, by show (isName a && openS p) = true; rw [h1, h2]; rfl⟩
      · obtain ⟨d1, rfl⟩ := len1 (show r.length = 1 from Nat.succ.inj hl)
        simp only [List.zip_cons_cons, List.zip_nil_right, List.all_cons, List.all_nil, Bool.and_true] at ha
        obtain ⟨a, rfl, h1⟩ := nameD_inv ((flat_var d1).symm.trans ha)
        exact ⟨.move a, rfl, h1⟩
theorem args_inv : ∀ {ds : List Dt}, ds.all argD = true → ∃ fs : List ArgF, ds = fs.map ArgF.dt ∧ fs.all ArgF.ok = true
  | [], _ => ⟨[], rfl, rfl⟩
  | d :: r, h => by
    rw [List.all_cons, Bool.and_eq_true] at h
    obtain ⟨f, rfl, hf⟩ := arg_inv h.1
    obtain ⟨fs, rfl, hfs⟩ := args_inv h.2
    exact ⟨f :: fs, rfl, by rw [List.all_cons, hf, hfs]; rfl⟩
theorem roles_inv {d : Dt} (h : rolesD d = true) : ∃ f : StepF, d = f.dt ∧ f.ok = true := by
  unfold rolesD at h
  cases e : wordD d with
  | none => rw [e] at h; cases h
  | some p =>
    obtain ⟨z, ds⟩ := p
    rw [e] at h
    obtain ⟨rfl, r, rfl⟩ := word_inv e
    have h : allRoles fullRole (stepRoles.lookup z) (.txt z :: r) = true := h
    cases el : stepRoles.lookup z with
    | none => rw [el] at h; cases h
    | some rs =>
      rw [el] at h
      have hm := look_of el
      have h : (decide ((Dt.txt z :: r).length = rs.length + 1) && (r.zip rs).all fun p => fullRole p.2 p.1) = true := h
      rw [Bool.and_eq_true, decide_eq_true_eq, List.length_cons] at h
      obtain ⟨hl, ha⟩ := h
      have fv : ∀ d, fullRole (Str.ofString "variable") d = nameD d := fun d => (full_of (by decide) d).trans (flat_var d)
      have fg : ∀ d, fullRole (Str.ofString "function") d = nameD d := fun d => (full_of (by decide) d).trans (flat_fun d)
      have fp : ∀ d, fullRole (Str.ofString "part") d = openD d := fun d => (full_of (by decide) d).trans (flat_part d)
      have ft : ∀ d, fullRole (Str.ofString "target") d = openD d := fun d => (full_of (by decide) d).trans (flat_target d)
      have fw : ∀ d, fullRole (Str.ofString "way") d = wayD d := fun d => (full_of (by decide) d).trans (flat_way d)
      simp only [stepRoles, List.mem_cons, List.not_mem_nil, or_false, Prod.mk.injEq] at hm
      rcases hm with ⟨rfl, rfl⟩ | ⟨rfl, rfl⟩ | ⟨rfl, rfl⟩ | ⟨rfl, rfl⟩ | ⟨rfl, rfl⟩ | ⟨rfl, rfl⟩ | ⟨rfl, rfl⟩ | ⟨rfl, rfl⟩ | ⟨rfl, rfl⟩ | ⟨rfl, rfl⟩ | ⟨rfl, rfl⟩
      · obtain ⟨d1, rfl⟩ := len1 (show r.length = 1 from Nat.succ.inj hl)
        simp only [List.zip_cons_cons, List.zip_nil_right, List.all_cons, List.all_nil, Bool.and_true] at ha
        obtain ⟨x, rfl, h1⟩ := nameD_inv ((fv d1).symm.trans ha)
        exact ⟨.new x, rfl, h1⟩
      · obtain ⟨d1, d2, d3, rfl⟩ := len3 (show r.length = 3 from Nat.succ.inj hl)
        simp only [List.zip_cons_cons, List.zip_nil_right, List.all_cons, List.all_nil, Bool.and_true, Bool.and_eq_true] at ha
        obtain ⟨x, rfl, h1⟩ := nameD_inv ((fv d1).symm.trans ha.1)
        obtain ⟨y, rfl, h2⟩ := nameD_inv ((fv d2).symm.trans ha.2.1)
        obtain ⟨q, rfl, h3⟩ := openD_inv ((fp d3).symm.trans ha.2.2)
        exact ⟨.copy x y q, rfl, by show (isName x && isName y && openS q) = true; rw [h1, h2, h3]; rfl⟩
      · obtain ⟨d1, d2, d3, rfl⟩ := len3 (show r.length = 3 from Nat.succ.inj hl)
        simp only [List.zip_cons_cons, List.zip_nil_right, List.all_cons, List.all_nil, Bool.and_true, Bool.and_eq_true] at ha
        obtain ⟨x, rfl, h1⟩ := nameD_inv ((fv d1).symm.trans ha.1)
        obtain ⟨y, rfl, h2⟩ := nameD_inv ((fv d2).symm.trans ha.2.1)
        obtain ⟨q, rfl, h3⟩ := openD_inv ((fp d3).symm.trans ha.2.2)
        exact ⟨.take x y q, rfl, by show (isName x && isName y && openS q) = true; rw [h1, h2, h3]; rfl⟩
      · obtain ⟨d1, d2, d3, rfl⟩ := len3 (show r.length = 3 from Nat.succ.inj hl)
        simp only [List.zip_cons_cons, List.zip_nil_right, List.all_cons, List.all_nil, Bool.and_true, Bool.and_eq_true] at ha
        obtain ⟨x, rfl, h1⟩ := nameD_inv ((fv d1).symm.trans ha.1)
        obtain ⟨q, rfl, h2⟩ := openD_inv ((fp d2).symm.trans ha.2.1)
        obtain ⟨y, rfl, h3⟩ := nameD_inv ((fv d3).symm.trans ha.2.2)
        exact ⟨.put x q y, rfl, by show (isName x && openS q && isName y) = true; rw [h1, h2, h3]; rfl⟩
      · obtain ⟨d1, d2, d3, rfl⟩ := len3 (show r.length = 3 from Nat.succ.inj hl)
        simp only [List.zip_cons_cons, List.zip_nil_right, List.all_cons, List.all_nil, Bool.and_true, Bool.and_eq_true] at ha
        obtain ⟨x, rfl, h1⟩ := nameD_inv ((fv d1).symm.trans ha.1)
        obtain ⟨y, rfl, h2⟩ := nameD_inv ((fv d2).symm.trans ha.2.1)
        obtain ⟨q, rfl, h3⟩ := openD_inv ((fp d3).symm.trans ha.2.2)
        exact ⟨.lend x y q, rfl, by show (isName x && isName y && openS q) = true; rw [h1, h2, h3]; rfl⟩
      · obtain ⟨d1, d2, rfl⟩ := len2 (show r.length = 2 from Nat.succ.inj hl)
        simp only [List.zip_cons_cons, List.zip_nil_right, List.all_cons, List.all_nil, Bool.and_true, Bool.and_eq_true] at ha
        obtain ⟨x, rfl, h1⟩ := nameD_inv ((fv d1).symm.trans ha.1)
        obtain ⟨y, rfl, h2⟩ := nameD_inv ((fv d2).symm.trans ha.2)
        exact ⟨.move x y, rfl, by show (isName x && isName y) = true; rw [h1, h2]; rfl⟩
      · obtain ⟨d1, d2, d3, rfl⟩ := len3 (show r.length = 3 from Nat.succ.inj hl)
        simp only [List.zip_cons_cons, List.zip_nil_right, List.all_cons, List.all_nil, Bool.and_true, Bool.and_eq_true] at ha
        obtain ⟨x, rfl, h1⟩ := nameD_inv ((fv d1).symm.trans ha.1)
        obtain ⟨q, rfl, h2⟩ := openD_inv ((fp d2).symm.trans ha.2.1)
        obtain ⟨y, rfl, h3⟩ := wayD_inv ((fw d3).symm.trans ha.2.2)
        exact ⟨.touch x q y, rfl, by show (isName x && openS q && wayS y) = true; rw [h1, h2, h3]; rfl⟩
      · obtain ⟨d1, rfl⟩ := len1 (show r.length = 1 from Nat.succ.inj hl)
        simp only [List.zip_cons_cons, List.zip_nil_right, List.all_cons, List.all_nil, Bool.and_true] at ha
        obtain ⟨x, rfl, h1⟩ := nameD_inv ((fv d1).symm.trans ha)
        exact ⟨.drop x, rfl, h1⟩
      · obtain ⟨d1, d2, d3, rfl⟩ := len3 (show r.length = 3 from Nat.succ.inj hl)
        simp only [List.zip_cons_cons, List.zip_nil_right, List.all_cons, List.all_nil, Bool.and_true, Bool.and_eq_true] at ha
        obtain ⟨x, rfl, h1⟩ := openD_inv ((ft d1).symm.trans ha.1)
        obtain ⟨g, rfl, h2⟩ := nameD_inv ((fg d2).symm.trans ha.2.1)
        have h3 := (full_args d3).symm.trans ha.2.2
        cases d3 with
        | tup ds =>
          have h3 : (decide (ds.length ≤ 3) && ds.all argD) = true := h3
          rw [Bool.and_eq_true, decide_eq_true_eq] at h3
          obtain ⟨fs, rfl, hfs⟩ := args_inv h3.2
          rw [List.length_map] at h3
          exact ⟨.call x g fs, rfl, by show (openS x && isName g && decide (fs.length ≤ 3) && fs.all ArgF.ok) = true; rw [h1, h2, hfs, decide_eq_true h3.1]; rfl⟩
        | _ => cases h3
      · obtain rfl : r = [] := List.length_eq_zero_iff.mp (Nat.succ.inj hl)
        exact ⟨.skip, rfl, rfl⟩
      · obtain ⟨d1, rfl⟩ := len1 (show r.length = 1 from Nat.succ.inj hl)
        simp only [List.zip_cons_cons, List.zip_nil_right, List.all_cons, List.all_nil, Bool.and_true] at ha
        obtain ⟨x, rfl, h1⟩ := openD_inv ((ft d1).symm.trans ha)
        exact ⟨.ret x, rfl, h1⟩
theorem full_var (d : Dt) : fullRole (Str.ofString "variable") d = nameD d := (full_of (by decide) d).trans (flat_var d)
theorem full_fun (d : Dt) : fullRole (Str.ofString "function") d = nameD d := (full_of (by decide) d).trans (flat_fun d)
theorem full_part (d : Dt) : fullRole (Str.ofString "part") d = openD d := (full_of (by decide) d).trans (flat_part d)
theorem full_target (d : Dt) : fullRole (Str.ofString "target") d = openD d := (full_of (by decide) d).trans (flat_target d)
theorem full_way (d : Dt) : fullRole (Str.ofString "way") d = wayD d := (full_of (by decide) d).trans (flat_way d)
theorem arg_of {f : ArgF} (ok : f.ok = true) : argD f.dt = true := by
  cases f with
  | lend a p =>
    have e : argD (ArgF.lend a p).dt = (flatRole (Str.ofString "variable") (.txt a) && (flatRole (Str.ofString "part") (.txt p) && true)) := rfl
    have ok : (isName a && openS p) = true := ok
    rw [e, flat_var, flat_part, Bool.and_true]
    exact ok
  | move a =>
    have e : argD (ArgF.move a).dt = (flatRole (Str.ofString "variable") (.txt a) && true) := rfl
    rw [e, flat_var, Bool.and_true]
    exact ok
theorem roles_of {f : StepF} (ok : f.ok = true) : rolesD f.dt = true := by
  cases f with
  | new x =>
    have e : rolesD (StepF.new x).dt = (fullRole (Str.ofString "variable") (.txt x) && true) := rfl
    rw [e, full_var, Bool.and_true]
    exact ok
  | copy x a p =>
    have e : rolesD (StepF.copy x a p).dt = (fullRole (Str.ofString "variable") (.txt x) && (fullRole (Str.ofString "variable") (.txt a) && (fullRole (Str.ofString "part") (.txt p) && true))) := rfl
    have ok : (isName x && isName a && openS p) = true := ok
    rw [e, full_var, full_var, full_part, Bool.and_true, ← Bool.and_assoc]
    exact ok
  | take x a p =>
    have e : rolesD (StepF.take x a p).dt = (fullRole (Str.ofString "variable") (.txt x) && (fullRole (Str.ofString "variable") (.txt a) && (fullRole (Str.ofString "part") (.txt p) && true))) := rfl
    have ok : (isName x && isName a && openS p) = true := ok
    rw [e, full_var, full_var, full_part, Bool.and_true, ← Bool.and_assoc]
    exact ok
  | put a p y =>
    have e : rolesD (StepF.put a p y).dt = (fullRole (Str.ofString "variable") (.txt a) && (fullRole (Str.ofString "part") (.txt p) && (fullRole (Str.ofString "variable") (.txt y) && true))) := rfl
    have ok : (isName a && openS p && isName y) = true := ok
    rw [e, full_var, full_var, full_part, Bool.and_true, ← Bool.and_assoc]
    exact ok
  | lend r a p =>
    have e : rolesD (StepF.lend r a p).dt = (fullRole (Str.ofString "variable") (.txt r) && (fullRole (Str.ofString "variable") (.txt a) && (fullRole (Str.ofString "part") (.txt p) && true))) := rfl
    have ok : (isName r && isName a && openS p) = true := ok
    rw [e, full_var, full_var, full_part, Bool.and_true, ← Bool.and_assoc]
    exact ok
  | move x y =>
    have e : rolesD (StepF.move x y).dt = (fullRole (Str.ofString "variable") (.txt x) && (fullRole (Str.ofString "variable") (.txt y) && true)) := rfl
    rw [e, full_var, full_var, Bool.and_true]
    exact ok
  | touch a p way =>
    have e : rolesD (StepF.touch a p way).dt = (fullRole (Str.ofString "variable") (.txt a) && (fullRole (Str.ofString "part") (.txt p) && (fullRole (Str.ofString "way") (.txt way) && true))) := rfl
    have ok : (isName a && openS p && wayS way) = true := ok
    rw [e, full_var, full_part, full_way, Bool.and_true, ← Bool.and_assoc]
    exact ok
  | drop x =>
    have e : rolesD (StepF.drop x).dt = (fullRole (Str.ofString "variable") (.txt x) && true) := rfl
    rw [e, full_var, Bool.and_true]
    exact ok
  | call r g args =>
    have e : rolesD (StepF.call r g args).dt = (fullRole (Str.ofString "target") (.txt r) && (fullRole (Str.ofString "function") (.txt g) && (fullRole (Str.ofString "arguments") (.tup (args.map ArgF.dt)) && true))) := rfl
    have ok : (openS r && isName g && decide (args.length ≤ 3) && args.all ArgF.ok) = true := ok
    have e2 : argsD (.tup (args.map ArgF.dt)) = (decide ((args.map ArgF.dt).length ≤ 3) && (args.map ArgF.dt).all argD) := rfl
    simp only [Bool.and_eq_true] at ok
    have e3 : (args.map ArgF.dt).all argD = true := by
      rw [List.all_map, List.all_eq_true]
      exact fun x hx => arg_of (List.all_eq_true.mp ok.2 x hx)
    rw [e, full_target, full_fun, full_args, e2, e3, List.length_map, ok.1.2, Bool.and_true, Bool.and_true, Bool.and_true]
    show (openS r && isName g) = true
    rw [ok.1.1.1, ok.1.1.2]
    rfl
  | skip => rfl
  | ret y =>
    have e : rolesD (StepF.ret y).dt = (fullRole (Str.ofString "target") (.txt y) && true) := rfl
    rw [e, full_target, Bool.and_true]
    exact ok
/-! ### a value is of one form alone -/
def ofArg : Dt → Option ArgF
  | .tup [.txt w, .txt a, .txt p] => if w = Str.ofString "lend" then some (.lend a p) else none
  | .tup [.txt w, .txt a] => if w = Str.ofString "move" then some (.move a) else none
  | _ => none
theorem ofArg_dt (f : ArgF) : ofArg f.dt = some f := by
  cases f <;> rfl
def ofArgs : List Dt → Option (List ArgF)
  | [] => some []
  | d :: r => match ofArg d, ofArgs r with
    | some f, some fs => some (f :: fs)
    | _, _ => none
theorem ofArgs_dt : ∀ fs : List ArgF, ofArgs (fs.map ArgF.dt) = some fs
  | [] => rfl
  | f :: r => by
    rw [List.map_cons]
    show (match ofArg f.dt, ofArgs (r.map ArgF.dt) with | some f, some fs => some (f :: fs) | _, _ => none) = _
    rw [ofArg_dt, ofArgs_dt r]
def ofDt : Dt → Option StepF
  | .tup [.txt w, .txt x, .txt y, .txt z] => if w = Str.ofString "copy" then some (.copy x y z) else if w = Str.ofString "take" then some (.take x y z) else if w = Str.ofString "put" then some (.put x y z) else
      if w = Str.ofString "lend" then some (.lend x y z) else if w = Str.ofString "touch" then some (.touch x y z) else none
  | .tup [.txt _, .txt r, .txt g, .tup ds] => (ofArgs ds).map (.call r g)
  | .tup [.txt _, .txt x, .txt y] => some (.move x y)
  | .tup [.txt w, .txt x] => if w = Str.ofString "new" then some (.new x) else if w = Str.ofString "drop" then some (.drop x) else some (.ret x)
  | .tup [.txt _] => some .skip
  | _ => none
theorem ofDt_dt (f : StepF) : ofDt f.dt = some f := by
  cases f with
  | call r g args =>
    show (ofArgs (args.map ArgF.dt)).map (StepF.call r g) = _
    rw [ofArgs_dt]
    rfl
  | _ => rfl
theorem dt_inj {f g : StepF} (h : f.dt = g.dt) : f = g := by
  have e := ofDt_dt f
  rw [h, ofDt_dt g] at e
  exact (Option.some.inj e).symm
/-! ### variables, texts -/
def ArgF.var : ArgF → Str | .lend a _ => a | .move a => a
/-- the variables of a step, in order, without those that lack -/
def StepF.vars : StepF → List Str
  | .new x => [x]
  | .copy x a _ => [x, a]
  | .take x a _ => [x, a]
  | .put a _ y => [a, y]
  | .lend r a _ => [r, a]
  | .move x y => [x, y]
  | .touch a _ _ => [a]
  | .drop x => [x]
  | .call r _ args => (r :: args.map ArgF.var).filter fun z => !decide (z = Str.ofString "")
  | .skip => []
  | .ret y => [y].filter fun z => !decide (z = Str.ofString "")
/-- whether variables may be told twice -/
def StepF.free : StepF → Bool
  | .lend _ _ _ => true
  | .call _ _ _ => true
  | _ => false
def StepF.good (f : StepF) : Bool := f.ok && (f.free || decide f.vars.Nodup)
def placeS (name part : Str) : Str := if part = Str.ofString "" then name else name ++ Str.ofString "." ++ part
def ArgF.text : ArgF → Str
  | .lend a p => Str.ofString "lend " ++ placeS a p
  | .move a => Str.ofString "move " ++ a
def StepF.text : StepF → Str
  | .new x => Str.ofString "new " ++ x
  | .copy x a p => Str.ofString "copy " ++ x ++ Str.ofString " = " ++ placeS a p
  | .take x a p => Str.ofString "take " ++ x ++ Str.ofString " = " ++ placeS a p
  | .put a p y => Str.ofString "put " ++ placeS a p ++ Str.ofString " = " ++ y
  | .lend r a p => Str.ofString "lend " ++ r ++ Str.ofString " = " ++ placeS a p
  | .move x y => Str.ofString "move " ++ x ++ Str.ofString " = " ++ y
  | .touch a p way => Str.ofString "touch " ++ placeS a p ++ Str.ofString " " ++ way
  | .drop x => Str.ofString "drop " ++ x
  | .call r g args => Str.ofString "call " ++ (if r = Str.ofString "" then Str.ofString "" else r ++ Str.ofString " = ") ++ g ++ Str.ofString "(" ++ Txt.join (Str.ofString ", ") (args.map ArgF.text) ++ Str.ofString ")"
  | .skip => Str.ofString "skip"
  | .ret y => if y = Str.ofString "" then Str.ofString "return" else Str.ofString "return " ++ y
end Lp

namespace Lp
open PySem PySem.Spec PyProof.Rows L2
theorem len_cat (x y : Str) : (x ++ y).length = x.length + y.length := by rw [cs_len, cs_app, List.length_append, ← cs_len, ← cs_len]
theorem empty_cat (x : Str) : Str.empty ++ x = x := cs_ext (by rw [cs_app]; rfl)
theorem cat_assoc (x y z : Str) : (x ++ y) ++ z = x ++ (y ++ z) := cs_ext (by rw [cs_app, cs_app, cs_app, cs_app, List.append_assoc])
theorem openS_len {z : Str} (h : openS z = true) : z.length ≤ 8 := by
  unfold openS at h
  rw [Bool.or_eq_true, decide_eq_true_eq] at h
  rcases h with rfl | h
  · exact Nat.zero_le _
  · exact (name_size h).2
theorem place_len {a p : Str} (ha : a.length ≤ 8) (hp : p.length ≤ 8) : (placeS a p).length ≤ 17 := by
  unfold placeS
  split
  · omega
  · rw [len_cat, len_cat, show (Str.ofString ".").length = 1 from rfl]
    omega
end Lp

namespace Lp
open PySem PySem.Spec PyProof.Rows L2
/-! ### rpartition -/
section
variable {X : Cx}
theorem mt_rpartition : MtR X "str.rpartition" (fun x xs H Q => ∃ a b, x = .str a ∧ xs = [.str b] ∧ (b.length == 0) = false ∧ a.length ≤ sizeLine ∧
    ∀ p, H p = none → Q (.ref p) (upd H p (.tup [.str (Txt.rpartition a b).1, .str (Txt.rpartition a b).2.1, .str (Txt.rpartition a b).2.2]))) := by
  intro pins s σ H x xs v us Q I rx rs h
  obtain ⟨a, b, rfl, rfl, hb, hz, h⟩ := h
  obtain ⟨t, rfl⟩ := rx
  cases rs with
  | cons r1 rs =>
    cases rs
    obtain ⟨u, rfl⟩ := r1
    refine call_meets F.slot_str_rpartition (typeIs_str _ _ _) F.entry_str_rpartition (F.args_str_rpartition_2 _ _) (meets_str_rpartition a b t u hb hz) ?_
    unfold Txt.rpartition at h
    revert h
    cases Builtin.Str.lastOccurrence a b 0 a.length with
    | none => intro h; exact laid_parts I h
    | some i => intro h; exact laid_parts I h
variable {o e : Expr} {to te : TE}
theorem pe_rpartition {apos pos : Pos} (ho : PE X o to) (he : PE X e te) (hs : starEach [e] X.env = [(false, eval e X.env)] := by rfl) (hbase : attributeBase o "rpartition" X.env (eval o X.env) = eval o X.env := by rfl) (hline : (apos.endLine == pos.line) = true := by rfl) :
    PE X (.Call (.Attribute o "rpartition" apos) [e] [] pos) (tM1 (fun x xs H Q => ∃ a b, x = .str a ∧ xs = [.str b] ∧ (b.length == 0) = false ∧ a.length ≤ sizeLine ∧
      ∀ p, H p = none → Q (.ref p) (upd H p (.tup [.str (Txt.rpartition a b).1, .str (Txt.rpartition a b).2.1, .str (Txt.rpartition a b).2.2]))) to te) :=
  pe_m1 F.slot_str_rpartition F.type_str_rpartition mt_rpartition ho he hs hbase hline
theorem pe_removesuffix {apos pos : Pos} (ho : PE X o to) (he : PE X e te) (hs : starEach [e] X.env = [(false, eval e X.env)] := by rfl) (hbase : attributeBase o "removesuffix" X.env (eval o X.env) = eval o X.env := by rfl) (hline : (apos.endLine == pos.line) = true := by rfl) :
    PE X (.Call (.Attribute o "removesuffix" apos) [e] [] pos) (tM1 (fun x xs H Q => ∃ a b, x = .str a ∧ xs = [.str b] ∧ a.length ≤ sizeLine ∧ Q (.str (Txt.removesuffix a b)) H) to te) :=
  pe_m1 F.slot_str_removesuffix F.type_str_removesuffix mt_removesuffix ho he hs hbase hline
end
/-! ### the guess at a text -/
def gPlace (z : Str) : List Str := [(Txt.partition z (Str.ofString ".")).1, (Txt.partition z (Str.ofString ".")).2.2]
def gArgW (w r : Str) : List Str := if w = Str.ofString "move" then [w, r] else w :: gPlace r
def gArg (z : Str) : List Str := gArgW (Txt.partition z (Str.ofString " ")).1 (Txt.partition z (Str.ofString " ")).2.2
def gTold (b : Str) : List Str := if b = Str.ofString ")" then [] else Txt.split (Txt.removesuffix b (Str.ofString ")")) (Str.ofString ", ")
def gCallW (fr bk : Str) : Dt := .tup [.txt (Str.ofString "call"), .txt (Txt.rpartition fr (Str.ofString " = ")).1, .txt (Txt.rpartition fr (Str.ofString " = ")).2.2, .tup ((gTold bk).map fun z => txs (gArg z))]
def gCall (z : Str) : Dt := gCallW (Txt.partition z (Str.ofString "(")).1 (Txt.partition z (Str.ofString "(")).2.2
def gEq (w r : Str) : List Str := w :: (Txt.partition r (Str.ofString " = ")).1 :: gPlace (Txt.partition r (Str.ofString " = ")).2.2
def gPut (w r : Str) : List Str := w :: gPlace (Txt.partition r (Str.ofString " = ")).1 ++ [(Txt.partition r (Str.ofString " = ")).2.2]
def gMove (w r : Str) : List Str := [w, (Txt.partition r (Str.ofString " = ")).1, (Txt.partition r (Str.ofString " = ")).2.2]
def gTouch (w r : Str) : List Str := w :: gPlace (Txt.partition r (Str.ofString " ")).1 ++ [(Txt.partition r (Str.ofString " ")).2.2]
def gWord (w r : Str) : Dt :=
  if w = Str.ofString "skip" then txs ["skip"]
  else if w ∈ [Str.ofString "copy", Str.ofString "lend", Str.ofString "take"] then txs (gEq w r)
  else if w = Str.ofString "put" then txs (gPut w r)
  else if w = Str.ofString "move" then txs (gMove w r)
  else if w = Str.ofString "touch" then txs (gTouch w r)
  else if w = Str.ofString "call" then gCall r
  else txs [w, r]
def gStep (z : Str) : Dt := gWord (Txt.partition z (Str.ofString " ")).1 (Txt.partition z (Str.ofString " ")).2.2
/-! ### signs that are not in a text -/
theorem name_signs {z : Str} (h : isName z = true) : ∀ c ∈ cs z, c ∈ lettersL := by
  unfold isName at h
  rw [Bool.and_eq_true, List.all_eq_true] at h
  exact fun c hc => of_decide_eq_true (h.2 c hc)
theorem open_signs {z : Str} (h : openS z = true) : ∀ c ∈ cs z, c ∈ lettersL := by
  unfold openS at h
  rw [Bool.or_eq_true, decide_eq_true_eq] at h
  rcases h with rfl | h
  · exact fun c hc => nomatch hc
  · exact name_signs h
theorem way_signs {z : Str} (h : wayS z = true) : ∀ c ∈ cs z, c ∈ lettersL := by
  unfold wayS at h
  rw [decide_eq_true_eq] at h
  rcases h with rfl | rfl <;> decide +kernel
theorem free_app {a b : Str} {c : Nat} (ha : c ∉ cs a) (hb : c ∉ cs b) : c ∉ cs (a ++ b) := by
  rw [cs_app, List.mem_append]
  exact fun h => h.elim ha hb
theorem place_free {a p : Str} {c : Nat} (ha : isName a = true) (hp : openS p = true) (hc : c ∉ lettersL) (h46 : c ∉ cs (Str.ofString ".")) : c ∉ cs (placeS a p) := by
  have h1 : c ∉ cs a := fun h => hc (name_signs ha c h)
  have h2 : c ∉ cs p := fun h => hc (open_signs hp c h)
  unfold placeS
  split
  · exact h1
  · exact free_app (free_app h1 h46) h2
theorem l32 : 32 ∉ lettersL := by decide +kernel
theorem l46 : 46 ∉ lettersL := by decide +kernel
theorem l40 : 40 ∉ lettersL := by decide +kernel
theorem l44 : 44 ∉ lettersL := by decide +kernel
theorem l61 : 61 ∉ lettersL := by decide +kernel
theorem gPlace_eq {a p : Str} (ha : isName a = true) : gPlace (placeS a p) = [a, p] := by
  have h1 : 46 ∉ cs a := fun h => l46 (name_signs ha _ h)
  unfold gPlace placeS
  split
  · rename_i h
    rw [TL.partition_none (y := Str.ofString ".") (s := 46) (S := []) rfl h1, h]
    rfl
  · rw [TL.partition_app (y := Str.ofString ".") (s := 46) (S := []) rfl h1]
theorem blank_app {w r : Str} (h : 32 ∉ cs w) : Txt.partition (w ++ Str.ofString " " ++ r) (Str.ofString " ") = (w, Str.ofString " ", r) := TL.partition_app (s := 32) (S := []) rfl h
theorem eq_app {w r : Str} (h : 32 ∉ cs w) : Txt.partition (w ++ Str.ofString " = " ++ r) (Str.ofString " = ") = (w, Str.ofString " = ", r) := TL.partition_app (s := 32) (S := [61, 32]) rfl h
theorem gArg_eq {f : ArgF} (ok : f.ok = true) : txs (gArg f.text) = f.dt := by
  cases f with
  | lend a p =>
    have ok : (isName a && openS p) = true := ok
    rw [Bool.and_eq_true] at ok
    have e : (ArgF.lend a p).text = Str.ofString "lend" ++ Str.ofString " " ++ placeS a p := rfl
    unfold gArg
    rw [e, blank_app (by decide +kernel)]
    show txs (gArgW (Str.ofString "lend") (placeS a p)) = _
    unfold gArgW
    rw [if_neg (by decide), gPlace_eq ok.1]
    rfl
  | move a =>
    have e : (ArgF.move a).text = Str.ofString "move" ++ Str.ofString " " ++ a := rfl
    unfold gArg
    rw [e, blank_app (by decide +kernel)]
    rfl
theorem arg_free {f : ArgF} (ok : f.ok = true) : 44 ∉ cs f.text := by
  cases f with
  | lend a p =>
    have ok : (isName a && openS p) = true := ok
    rw [Bool.and_eq_true] at ok
    exact free_app (by decide +kernel) (place_free ok.1 ok.2 l44 (by decide +kernel))
  | move a => exact free_app (by decide +kernel) fun h => l44 (name_signs ok _ h)
theorem suffix_eq (u v : Str) (hv : 1 ≤ v.length) : Txt.removesuffix (u ++ v) v = u := by
  rw [StrLaws.removesuffix_eq]
  have l : (u ++ v).length - v.length = u.length := by rw [len_cat]; omega
  rw [if_pos]
  · refine cs_ext ?_
    rw [l]
    show List.take (u.length - 0) (List.drop 0 (cs (u ++ v))) = cs u
    rw [List.drop_zero, Nat.sub_zero, cs_app, cs_len, List.take_left]
  · rw [l, Bool.and_eq_true, decide_eq_true_eq]
    refine ⟨by rw [len_cat]; omega, ?_⟩
    rw [StrLaws.subAt_eq]
    show ((cs (u ++ v)).drop u.length).take v.length == cs v
    rw [cs_app, cs_len u, List.drop_left, cs_len v, List.take_length]
    exact beq_self_eq_true _
theorem gTold_eq {fs : List ArgF} (ok : fs.all ArgF.ok = true) : (gTold (Txt.join (Str.ofString ", ") (fs.map ArgF.text) ++ Str.ofString ")")).map (fun z => txs (gArg z)) = fs.map ArgF.dt := by
  have hd : ∀ fs : List ArgF, fs.all ArgF.ok = true → (fs.map ArgF.text).map (fun z => txs (gArg z)) = fs.map ArgF.dt := by
    intro fs h
    rw [List.map_map]
    exact List.map_congr_left fun f hf => gArg_eq (List.all_eq_true.mp h f hf)
  cases fs with
  | nil => rfl
  | cons f r =>
    unfold gTold
    rw [if_neg, suffix_eq _ _ (by decide), TL.split_join (s := 44) (S := [32]) rfl (by decide +kernel) (by rw [List.map_cons]; exact List.cons_ne_nil _ _)]
    · exact hd _ ok
    · intro p hp
      obtain ⟨g, hg, rfl⟩ := List.mem_map.mp hp
      exact arg_free (List.all_eq_true.mp ok g hg)
    · intro h
      have e := congrArg Str.length h
      rw [len_cat] at e
      have e2 : (Txt.join (Str.ofString ", ") ((f :: r).map ArgF.text)).length = 0 := by
        have : (Str.ofString ")").length = 1 := rfl
        omega
      have e3 : 1 ≤ (Txt.join (Str.ofString ", ") ((f :: r).map ArgF.text)).length := by
        rw [TL.join_eq, cs_len, show cs (Str.join (Str.ofString ", ") ((f :: r).map ArgF.text)) = _ from TL.tl_join _ _]
        have h1 : 1 ≤ (cs f.text).length := by
          cases f with
          | lend a p =>
            show 1 ≤ (cs (Str.ofString "lend " ++ placeS a p)).length
            rw [cs_app, List.length_append]
            have : (cs (Str.ofString "lend ")).length = 5 := rfl
            omega
          | move a =>
            show 1 ≤ (cs (Str.ofString "move " ++ a)).length
            rw [cs_app, List.length_append]
            have : (cs (Str.ofString "move ")).length = 5 := rfl
            omega
        cases r with
        | nil => exact h1
        | cons g r =>
          show 1 ≤ (cs f.text ++ _).length
          rw [List.length_append]
          omega
      omega
theorem rpart_none {g : Str} (hg : 32 ∉ cs g) : (Txt.rpartition g (Str.ofString " = ")).1 = Str.ofString "" ∧ (Txt.rpartition g (Str.ofString " = ")).2.2 = g := by
  unfold Txt.rpartition
  rcases StrLaws.last_spec g (Str.ofString " = ") with ⟨e, _⟩ | ⟨i, e, hi, _⟩
  · rw [e]
    exact ⟨rfl, rfl⟩
  · exfalso
    have h := (TL.at_iff (y := Str.ofString " = ") (by decide) i).mp hi
    have h : (((cs g).drop i).take 3 == [32, 61, 32]) = true := h
    have h := eq_of_beq h
    have : 32 ∈ ((cs g).drop i).take 3 := by rw [h]; exact List.mem_cons_self
    exact hg (List.mem_of_mem_drop (List.mem_of_mem_take this))
theorem rpart_some {r g : Str} (hg : ∀ c ∈ cs g, c ∈ lettersL) : (Txt.rpartition (r ++ Str.ofString " = " ++ g) (Str.ofString " = ")).1 = r ∧ (Txt.rpartition (r ++ Str.ofString " = " ++ g) (Str.ofString " = ")).2.2 = g := by
  have hz : cs (r ++ Str.ofString " = " ++ g) = cs r ++ (32 :: 61 :: 32 :: cs g) := by
    rw [cs_app, cs_app, List.append_assoc]
    rfl
  have key : ∀ i, r.length < i → ¬ StrLaws.At (r ++ Str.ofString " = " ++ g) (Str.ofString " = ") (r ++ Str.ofString " = " ++ g).length i := by
    intro i hi h
    have h := (TL.at_iff (y := Str.ofString " = ") (by decide) i).mp h
    have h : (((cs (r ++ Str.ofString " = " ++ g)).drop i).take 3 == [32, 61, 32]) = true := h
    have h := eq_of_beq h
    rw [hz] at h
    obtain ⟨k, rfl⟩ : ∃ k, i = (cs r).length + (k + 1) := ⟨i - r.length - 1, by rw [← cs_len]; omega⟩
    rw [← List.drop_drop, List.drop_left] at h
    match k, h with
    | 0, h => exact absurd (List.cons.inj (show 61 :: (List.take 2 (32 :: cs g)) = 32 :: _ from h)).1 (by decide)
    | 1, h =>
      have h : 32 :: List.take 2 (cs g) = 32 :: [61, 32] := h
      have h := (List.cons.inj h).2
      have : 61 ∈ List.take 2 (cs g) := by rw [h]; exact List.mem_cons_self
      exact l61 (hg _ (List.mem_of_mem_take this))
    | k + 2, h =>
      have h : List.take 3 (List.drop k (cs g)) = [32, 61, 32] := h
      have : 32 ∈ List.take 3 (List.drop k (cs g)) := by rw [h]; exact List.mem_cons_self
      exact l32 (hg _ (List.mem_of_mem_drop (List.mem_of_mem_take this)))
  have here : StrLaws.At (r ++ Str.ofString " = " ++ g) (Str.ofString " = ") (r ++ Str.ofString " = " ++ g).length r.length := by
    refine (TL.at_iff (y := Str.ofString " = ") (by decide) _).mpr ?_
    show (((cs (r ++ Str.ofString " = " ++ g)).drop r.length).take 3 == [32, 61, 32]) = true
    rw [hz, cs_len, List.drop_left]
    rfl
  unfold Txt.rpartition
  rcases StrLaws.last_spec (r ++ Str.ofString " = " ++ g) (Str.ofString " = ") with ⟨e, hn⟩ | ⟨i, e, hi, hn⟩
  · exact absurd here (hn _)
  · rw [e]
    have e1 : i = r.length := by
      rcases Nat.lt_trichotomy i r.length with h | h | h
      · exact absurd here (hn _ h)
      · exact h
      · exact absurd hi (key _ h)
    subst e1
    constructor
    · refine cs_ext ?_
      show cs (Builtin.Str.strSub _ 0 r.length) = _
      rw [show cs (Builtin.Str.strSub (r ++ Str.ofString " = " ++ g) 0 r.length) = _ from TL.tl_strSub _ _ _]
      show List.take (r.length - 0) (List.drop 0 (cs (r ++ Str.ofString " = " ++ g))) = _
      rw [List.drop_zero, Nat.sub_zero, hz, cs_len, List.take_left]
    · refine cs_ext ?_
      show cs (Builtin.Str.strSub _ (r.length + 3) _) = _
      rw [show cs (Builtin.Str.strSub (r ++ Str.ofString " = " ++ g) (r.length + 3) (r ++ Str.ofString " = " ++ g).length) = _ from TL.tl_strSub_end _ _]
      show List.drop (r.length + 3) (cs (r ++ Str.ofString " = " ++ g)) = _
      rw [hz, ← List.drop_drop, cs_len, List.drop_left]
      rfl
theorem gCall_eq {r g : Str} {fs : List ArgF} (hr : openS r = true) (hg : isName g = true) (ok : fs.all ArgF.ok = true) :
    gCall ((if r = Str.ofString "" then Str.ofString "" else r ++ Str.ofString " = ") ++ g ++ Str.ofString "(" ++ (Txt.join (Str.ofString ", ") (fs.map ArgF.text) ++ Str.ofString ")")) = (StepF.call r g fs).dt := by
  have hg1 := name_signs hg
  have hr1 := open_signs hr
  have f1 : 40 ∉ cs ((if r = Str.ofString "" then Str.ofString "" else r ++ Str.ofString " = ") ++ g) := by
    refine free_app ?_ fun h => l40 (hg1 _ h)
    split
    · decide +kernel
    · exact free_app (fun h => l40 (hr1 _ h)) (by decide +kernel)
  unfold gCall
  rw [TL.partition_app (y := Str.ofString "(") (s := 40) (S := []) rfl f1]
  show gCallW ((if r = Str.ofString "" then Str.ofString "" else r ++ Str.ofString " = ") ++ g) (Txt.join (Str.ofString ", ") (fs.map ArgF.text) ++ Str.ofString ")") = _
  unfold gCallW
  rw [gTold_eq ok]
  by_cases h : r = Str.ofString ""
  · rw [if_pos h, show Str.ofString "" ++ g = g from empty_cat g]
    obtain ⟨e1, e2⟩ := rpart_none (g := g) fun h => l32 (hg1 _ h)
    rw [e1, e2, h]
    rfl
  · rw [if_neg h]
    obtain ⟨e1, e2⟩ := rpart_some (r := r) hg1
    rw [e1, e2]
    rfl
theorem gStep_eq {f : StepF} (ok : f.ok = true) : gStep f.text = f.dt := by
  cases f with
  | new x =>
    have e : (StepF.new x).text = Str.ofString "new" ++ Str.ofString " " ++ x := rfl
    unfold gStep
    rw [e, blank_app (by decide +kernel)]
    rfl
  | drop x =>
    have e : (StepF.drop x).text = Str.ofString "drop" ++ Str.ofString " " ++ x := rfl
    unfold gStep
    rw [e, blank_app (by decide +kernel)]
    rfl
  | skip =>
    unfold gStep
    rw [show StepF.skip.text = Str.ofString "skip" from rfl, TL.partition_none (y := Str.ofString " ") (s := 32) (S := []) rfl (by decide +kernel)]
    rfl
  | ret y =>
    unfold gStep
    by_cases h : y = Str.ofString ""
    · rw [show (StepF.ret y).text = Str.ofString "return" from if_pos h, TL.partition_none (y := Str.ofString " ") (s := 32) (S := []) rfl (by decide +kernel), h]
      rfl
    · rw [show (StepF.ret y).text = Str.ofString "return" ++ Str.ofString " " ++ y from if_neg h, blank_app (by decide +kernel)]
      rfl
  | move x y =>
    have ok : (isName x && isName y) = true := ok
    rw [Bool.and_eq_true] at ok
    have e : (StepF.move x y).text = Str.ofString "move" ++ Str.ofString " " ++ (x ++ Str.ofString " = " ++ y) := cs_ext (by simp only [StepF.text, cs_app, List.append_assoc]; rfl)
    unfold gStep
    rw [e, blank_app (by decide +kernel)]
    show txs (gMove (Str.ofString "move") (x ++ Str.ofString " = " ++ y)) = _
    unfold gMove
    rw [eq_app fun h => l32 (name_signs ok.1 _ h)]
    rfl
  | copy x a p =>
    have ok : (isName x && isName a && openS p) = true := ok
    rw [Bool.and_eq_true, Bool.and_eq_true] at ok
    have e : (StepF.copy x a p).text = Str.ofString "copy" ++ Str.ofString " " ++ (x ++ Str.ofString " = " ++ placeS a p) := cs_ext (by simp only [StepF.text, cs_app, List.append_assoc]; rfl)
    unfold gStep
    rw [e, blank_app (by decide +kernel)]
    show txs (gEq (Str.ofString "copy") (x ++ Str.ofString " = " ++ placeS a p)) = _
    unfold gEq
    rw [eq_app fun h => l32 (name_signs ok.1.1 _ h), gPlace_eq ok.1.2]
    rfl
  | take x a p =>
    have ok : (isName x && isName a && openS p) = true := ok
    rw [Bool.and_eq_true, Bool.and_eq_true] at ok
    have e : (StepF.take x a p).text = Str.ofString "take" ++ Str.ofString " " ++ (x ++ Str.ofString " = " ++ placeS a p) := cs_ext (by simp only [StepF.text, cs_app, List.append_assoc]; rfl)
    unfold gStep
    rw [e, blank_app (by decide +kernel)]
    show txs (gEq (Str.ofString "take") (x ++ Str.ofString " = " ++ placeS a p)) = _
    unfold gEq
    rw [eq_app fun h => l32 (name_signs ok.1.1 _ h), gPlace_eq ok.1.2]
    rfl
  | lend x a p =>
    have ok : (isName x && isName a && openS p) = true := ok
    rw [Bool.and_eq_true, Bool.and_eq_true] at ok
    have e : (StepF.lend x a p).text = Str.ofString "lend" ++ Str.ofString " " ++ (x ++ Str.ofString " = " ++ placeS a p) := cs_ext (by simp only [StepF.text, cs_app, List.append_assoc]; rfl)
    unfold gStep
    rw [e, blank_app (by decide +kernel)]
    show txs (gEq (Str.ofString "lend") (x ++ Str.ofString " = " ++ placeS a p)) = _
    unfold gEq
    rw [eq_app fun h => l32 (name_signs ok.1.1 _ h), gPlace_eq ok.1.2]
    rfl
  | put a p y =>
    have ok : (isName a && openS p && isName y) = true := ok
    rw [Bool.and_eq_true, Bool.and_eq_true] at ok
    have e : (StepF.put a p y).text = Str.ofString "put" ++ Str.ofString " " ++ (placeS a p ++ Str.ofString " = " ++ y) := cs_ext (by simp only [StepF.text, cs_app, List.append_assoc]; rfl)
    unfold gStep
    rw [e, blank_app (by decide +kernel)]
    show txs (gPut (Str.ofString "put") (placeS a p ++ Str.ofString " = " ++ y)) = _
    unfold gPut
    rw [eq_app (place_free ok.1.1 ok.1.2 l32 (by decide +kernel)), gPlace_eq ok.1.1]
    rfl
  | touch a p way =>
    have ok : (isName a && openS p && wayS way) = true := ok
    rw [Bool.and_eq_true, Bool.and_eq_true] at ok
    have e : (StepF.touch a p way).text = Str.ofString "touch" ++ Str.ofString " " ++ (placeS a p ++ Str.ofString " " ++ way) := cs_ext (by simp only [StepF.text, cs_app, List.append_assoc]; rfl)
    unfold gStep
    rw [e, blank_app (by decide +kernel)]
    show txs (gTouch (Str.ofString "touch") (placeS a p ++ Str.ofString " " ++ way)) = _
    unfold gTouch
    rw [blank_app (place_free ok.1.1 ok.1.2 l32 (by decide +kernel)), gPlace_eq ok.1.1]
    rfl
  | call r g fs =>
    have ok : (openS r && isName g && decide (fs.length ≤ 3) && fs.all ArgF.ok) = true := ok
    simp only [Bool.and_eq_true] at ok
    have e : (StepF.call r g fs).text = Str.ofString "call" ++ Str.ofString " " ++ ((if r = Str.ofString "" then Str.ofString "" else r ++ Str.ofString " = ") ++ g ++ Str.ofString "(" ++ (Txt.join (Str.ofString ", ") (fs.map ArgF.text) ++ Str.ofString ")")) := cs_ext (by simp only [StepF.text, cs_app, List.append_assoc]; rfl)
    unfold gStep
    rw [e, blank_app (by decide +kernel)]
    exact gCall_eq ok.1.1.1 ok.1.1.2 ok.2

/-! ### what a guess is made of -/
theorem part_len (x y : Str) : (Txt.partition x y).1.length ≤ x.length ∧ (Txt.partition x y).2.2.length ≤ x.length := ⟨(fact_partition x y).1, (fact_partition x y).2.2⟩
theorem rpart_len (x y : Str) : (Txt.rpartition x y).1.length ≤ x.length ∧ (Txt.rpartition x y).2.2.length ≤ x.length := ⟨(fact_rpartition x y).1, (fact_rpartition x y).2.2⟩
theorem spl_le (S : List Nat) : ∀ (l : List Nat) (k : Nat) (acc p : List Nat), p ∈ TL.spl S k acc l → p.length ≤ acc.length + l.length
  | [], k, acc, p, h => by
    rw [TL.spl_nil, List.mem_singleton] at h
    subst h
    exact Nat.le_add_right _ _
  | c :: r, 0, acc, p, h => by
    unfold TL.spl at h
    split at h
    · rcases List.mem_cons.mp h with rfl | h
      · exact Nat.le_add_right _ _
      · have := spl_le S r _ [] p h
        simp only [List.length_nil, List.length_cons] at this ⊢
        omega
    · have := spl_le S r 0 (acc ++ [c]) p h
      simp only [List.length_append, List.length_cons, List.length_nil] at this ⊢
      omega
  | c :: r, k + 1, acc, p, h => by
    unfold TL.spl at h
    have := spl_le S r k acc p h
    simp only [List.length_cons] at this ⊢
    omega
theorem suffix_len (x y : Str) : (Txt.removesuffix x y).length ≤ x.length := by
  rw [StrLaws.removesuffix_eq]
  split
  · rw [cs_len, cs_len x]
    show (List.take _ (List.drop 0 (cs x))).length ≤ _
    rw [List.length_take, List.drop_zero]
    omega
  · exact Nat.le_refl _
theorem gTold_len (b : Str) : (gTold b).length ≤ b.length + 2 ∧ ∀ z ∈ gTold b, z.length ≤ b.length := by
  have h0 := suffix_len b (Str.ofString ")")
  unfold gTold
  split
  · exact ⟨Nat.zero_le _, fun z hz => nomatch hz⟩
  · refine ⟨Nat.le_trans (fact_split _ _).2 (by omega), fun z hz => ?_⟩
    have e := TL.split_spl (Txt.removesuffix b (Str.ofString ")")) (Str.ofString ", ") (by decide) (TL.kind_ok (by decide +kernel))
    have hm : TL.tl z ∈ (Txt.split (Txt.removesuffix b (Str.ofString ")")) (Str.ofString ", ")).map TL.tl := List.mem_map_of_mem hz
    rw [e] at hm
    have := spl_le _ _ _ _ _ hm
    have l1 : z.length = (TL.tl z).length := TL.len_tl z
    have l2 := TL.len_tl (Txt.removesuffix b (Str.ofString ")"))
    simp only [List.length_nil] at this
    omega
theorem gPlace_len (z : Str) : ∀ y ∈ gPlace z, y.length ≤ z.length := fun y hy => by
  unfold gPlace at hy
  simp only [List.mem_cons, List.not_mem_nil, or_false] at hy
  rcases hy with rfl | rfl
  · exact (part_len _ _).1
  · exact (part_len _ _).2
theorem gArg_len (z : Str) : (gArg z).length ≤ 3 ∧ ∀ y ∈ gArg z, y.length ≤ z.length := by
  have h := part_len z (Str.ofString " ")
  unfold gArg gArgW
  split
  · refine ⟨(show 2 ≤ 3 by decide), fun y hy => ?_⟩
    simp only [List.mem_cons, List.not_mem_nil, or_false] at hy
    rcases hy with rfl | rfl
    · exact h.1
    · exact h.2
  · refine ⟨(show 3 ≤ 3 by decide), fun y hy => ?_⟩
    rcases List.mem_cons.mp hy with rfl | hy
    · exact h.1
    · exact Nat.le_trans (gPlace_len _ y hy) h.2
theorem rep_strs {H : Hp} : ∀ zs : List Str, (∀ z ∈ zs, z.length ≤ 100000) → RepAll H (zs.map V.str) (zs.map Dt.txt)
  | [], _ => .nil
  | z :: zs, h => .cons (.txt (h z List.mem_cons_self)) (rep_strs zs fun y hy => h y (List.mem_cons_of_mem _ hy))
theorem rep_txs {H : Hp} {c : Addr} {zs : List Str} (h : H c = some (.tup (zs.map V.str))) (l : zs.length ≤ 1000) (m : ∀ z ∈ zs, z.length ≤ 100000) : Rep H (.ref c) (txs zs) :=
  .tup h (by rw [List.length_map]; exact l) (rep_strs zs m)
theorem repAll_of {H : Hp} {f : Str → List Str} : ∀ (zs : List Str) (acc : List V), acc.length = zs.length → (∀ (j : Nat) (z : Str), zs[j]? = some z → ∃ c, acc[j]? = some (V.ref c) ∧ H c = some (HO.tup ((f z).map V.str))) →
    (∀ z ∈ zs, (f z).length ≤ 1000 ∧ ∀ y ∈ f z, y.length ≤ 100000) → RepAll H acc (zs.map fun z => txs (f z))
  | [], [], _, _, _ => .nil
  | z :: zs, a :: acc, hl, hj, hm => by
    obtain ⟨c, e, hc⟩ := hj 0 z rfl
    obtain rfl : a = .ref c := Option.some.inj e
    have hz := hm z List.mem_cons_self
    exact .cons (rep_txs hc hz.1 hz.2) (repAll_of zs acc (Nat.succ.inj hl) (fun j y h => hj (j + 1) y h) fun y hy => hm y (List.mem_cons_of_mem _ hy))
section
variable {J : It} {n : Nat} {G : Hp → Prop} {Y : Nat → Hp → V → Hp → Prop} {g : TG} {tt : TT} {te : TE} {vs : List Nat} {σ : L2.St} {H1 : Hp} {D : Addr} {Qd : Hp → Prop}
/-- a list of new tuples -/
theorem lc_tups (w : Walk J n G Y) (f : Nat → List V) (few : n ≤ 100000) (nD : H1 D = none) (hG : ∀ H', Same H1 H' → G H')
    (hs : ∀ (i : Nat) (x : V) (H2 H3 : Hp) (Ky : V → Hp → Prop) (Kn : Hp → Prop), i < n → Same H1 H2 → Y i H2 x H3 → (∀ c H4, Same H2 H4 → H4 c = some (.tup (f i)) → Ky (.ref c) H4) →
      g x (wipe σ vs) H3 fun σ2 H4 => wipe σ2 vs = wipe σ vs ∧ tt σ2 H4 fun b H5 => if b = true then te σ2 H5 Ky else Kn H5)
    (hd : ∀ H' acc, Same H1 H' → H' D = some (.lst acc) → acc.length = n → (∀ j, j < n → ∃ c, acc[j]? = some (.ref c) ∧ H' c = some (.tup (f j))) → Qd H') :
    ∃ W : Nat → Nat → Hp → Prop, (∃ m, W 0 m (upd H1 D (.lst []))) ∧ ∀ i m H, W i m H →
      (J.stop i H ∧ Qd H) ∨ (J.go i H ∧ ∃ Nx : Hp → Prop, (∀ H', Nx H' → ∃ m', m' < m ∧ W (i + 1) m' H') ∧ ∀ x H', J.yld i H x H' → g x (wipe σ vs) H' fun σ2 H2 => wipe σ2 vs = wipe σ vs ∧ tt σ2 H2 fun b H3 =>
        if b = true then te σ2 H3 fun y H4 => ∃ acc, H4 D = some (.lst acc) ∧ acc.length < sizeLine ∧ Nx (upd H4 D (.lst (acc ++ [y]))) else Nx H3) := by
  refine lc_it w (fun i H' => Same H1 H' ∧ ∃ acc, H' D = some (.lst acc) ∧ acc.length = i ∧ ∀ j, j < i → ∃ c, acc[j]? = some (.ref c) ∧ H' c = some (.tup (f j))) ⟨same_upd nD, [], upd_same, rfl, fun j h => absurd h (Nat.not_lt_zero _)⟩ (fun i H' _ p => hG H' p.1) (fun i x H2 H3 hi p y => ?_) (fun H' p => ?_)
  · obtain ⟨sm, acc, hD, hl, hj⟩ := p
    refine hs i x H2 H3 _ _ hi sm y (fun c H4 s4 hc => ⟨acc, s4 D _ hD, Nat.lt_of_le_of_lt (show acc.length ≤ 100000 by omega) (by decide), same_put (sm.trans s4) nD, acc ++ [.ref c], upd_same, by rw [List.length_append, hl]; rfl, fun j hj' => ?_⟩)
    have nt : ∀ {b : Addr} {xs : List V}, H4 b = some (.tup xs) → b ≠ D := fun {b xs} e z => by
      rw [z, s4 D _ hD] at e
      cases e
    by_cases h : j < i
    · obtain ⟨d, h1, h2⟩ := hj j h
      have h2 := s4 _ _ h2
      exact ⟨d, by rw [List.getElem?_append_left (by omega)]; exact h1, by rw [upd_ne (nt h2)]; exact h2⟩
    · obtain rfl : j = i := by omega
      exact ⟨c, by rw [← hl, List.getElem?_append_right (Nat.le_refl _), Nat.sub_self]; rfl, by rw [upd_ne (nt hc)]; exact hc⟩
  · obtain ⟨sm, acc, hD, hl, hj⟩ := p
    exact hd H' acc sm hD hl hj
end
/-! ### texts of no steps -/
theorem arg_text_len {f : ArgF} (ok : f.ok = true) : f.text.length ≤ 22 := by
  cases f with
  | lend a p =>
    have ok : (isName a && openS p) = true := ok
    rw [Bool.and_eq_true] at ok
    have := place_len (name_size ok.1).2 (openS_len ok.2)
    show (Str.ofString "lend " ++ placeS a p).length ≤ 22
    rw [len_cat, show (Str.ofString "lend ").length = 5 from rfl]
    omega
  | move a =>
    have := (name_size (show isName a = true from ok)).2
    show (Str.ofString "move " ++ a).length ≤ 22
    rw [len_cat, show (Str.ofString "move ").length = 5 from rfl]
    omega
theorem args_sum : ∀ {fs : List ArgF}, fs.all ArgF.ok = true → ((fs.map ArgF.text).map (·.length)).sum ≤ 22 * fs.length
  | [], _ => Nat.le_refl _
  | f :: r, h => by
    rw [List.all_cons, Bool.and_eq_true] at h
    have h1 := arg_text_len h.1
    have h2 := args_sum h.2
    rw [List.map_cons, List.map_cons, List.sum_cons, List.length_cons]
    omega
theorem join_len (s : Str) : ∀ ys : List Str, (Txt.join s ys).length ≤ (ys.map (·.length)).sum + ys.length * s.length
  | [] => Nat.zero_le _
  | [x] => by
    rw [TL.join_eq]
    show x.length ≤ (x.length + 0) + 1 * s.length
    omega
  | x :: z :: r => by
    have ih := join_len s (z :: r)
    rw [TL.join_eq] at ih ⊢
    show (x ++ s ++ Str.join s (z :: r)).length ≤ _
    rw [len_cat, len_cat, List.map_cons, List.sum_cons, List.length_cons, Nat.succ_mul]
    omega
theorem args_len {fs : List ArgF} (ok : fs.all ArgF.ok = true) (l : fs.length ≤ 3) : (Txt.join (Str.ofString ", ") (fs.map ArgF.text)).length ≤ 72 := by
  have h1 := join_len (Str.ofString ", ") (fs.map ArgF.text)
  have h2 := args_sum ok
  rw [List.length_map, show (Str.ofString ", ").length = 2 from rfl] at h1
  omega
theorem text_len {f : StepF} (ok : f.ok = true) : f.text.length ≤ 200 := by
  have l3 : (Str.ofString " = ").length = 3 := rfl
  have l1 : (Str.ofString " ").length = 1 := rfl
  cases f with
  | new x =>
    have := (name_size (show isName x = true from ok)).2
    show (Str.ofString "new " ++ x).length ≤ 200
    rw [len_cat, show (Str.ofString "new ").length = 4 from rfl]
    omega
  | drop x =>
    have := (name_size (show isName x = true from ok)).2
    show (Str.ofString "drop " ++ x).length ≤ 200
    rw [len_cat, show (Str.ofString "drop ").length = 5 from rfl]
    omega
  | skip => exact (by decide : (Str.ofString "skip").length ≤ 200)
  | ret y =>
    have := openS_len (show openS y = true from ok)
    show (if y = Str.ofString "" then Str.ofString "return" else Str.ofString "return " ++ y).length ≤ 200
    split
    · decide
    · rw [len_cat, show (Str.ofString "return ").length = 7 from rfl]
      omega
  | move x y =>
    have ok : (isName x && isName y) = true := ok
    rw [Bool.and_eq_true] at ok
    have h1 := (name_size ok.1).2
    have h2 := (name_size ok.2).2
    show (Str.ofString "move " ++ x ++ Str.ofString " = " ++ y).length ≤ 200
    rw [len_cat, len_cat, len_cat, show (Str.ofString "move ").length = 5 from rfl, l3]
    omega
  | copy x a p =>
    have ok : (isName x && isName a && openS p) = true := ok
    rw [Bool.and_eq_true, Bool.and_eq_true] at ok
    have h1 := (name_size ok.1.1).2
    have h2 := place_len (name_size ok.1.2).2 (openS_len ok.2)
    show (Str.ofString "copy " ++ x ++ Str.ofString " = " ++ placeS a p).length ≤ 200
    rw [len_cat, len_cat, len_cat, show (Str.ofString "copy ").length = 5 from rfl, l3]
    omega
  | take x a p =>
    have ok : (isName x && isName a && openS p) = true := ok
    rw [Bool.and_eq_true, Bool.and_eq_true] at ok
    have h1 := (name_size ok.1.1).2
    have h2 := place_len (name_size ok.1.2).2 (openS_len ok.2)
    show (Str.ofString "take " ++ x ++ Str.ofString " = " ++ placeS a p).length ≤ 200
    rw [len_cat, len_cat, len_cat, show (Str.ofString "take ").length = 5 from rfl, l3]
    omega
  | lend x a p =>
    have ok : (isName x && isName a && openS p) = true := ok
    rw [Bool.and_eq_true, Bool.and_eq_true] at ok
    have h1 := (name_size ok.1.1).2
    have h2 := place_len (name_size ok.1.2).2 (openS_len ok.2)
    show (Str.ofString "lend " ++ x ++ Str.ofString " = " ++ placeS a p).length ≤ 200
    rw [len_cat, len_cat, len_cat, show (Str.ofString "lend ").length = 5 from rfl, l3]
    omega
  | put a p y =>
    have ok : (isName a && openS p && isName y) = true := ok
    rw [Bool.and_eq_true, Bool.and_eq_true] at ok
    have h1 := (name_size ok.2).2
    have h2 := place_len (name_size ok.1.1).2 (openS_len ok.1.2)
    show (Str.ofString "put " ++ placeS a p ++ Str.ofString " = " ++ y).length ≤ 200
    rw [len_cat, len_cat, len_cat, show (Str.ofString "put ").length = 4 from rfl, l3]
    omega
  | touch a p way =>
    have ok : (isName a && openS p && wayS way) = true := ok
    rw [Bool.and_eq_true, Bool.and_eq_true] at ok
    have h1 : way.length = 4 := by
      have h := ok.2
      unfold wayS at h
      rw [decide_eq_true_eq] at h
      rcases h with rfl | rfl <;> rfl
    have h2 := place_len (name_size ok.1.1).2 (openS_len ok.1.2)
    show (Str.ofString "touch " ++ placeS a p ++ Str.ofString " " ++ way).length ≤ 200
    rw [len_cat, len_cat, len_cat, show (Str.ofString "touch ").length = 6 from rfl, l1]
    omega
  | call r g fs =>
    have ok : (openS r && isName g && decide (fs.length ≤ 3) && fs.all ArgF.ok) = true := ok
    simp only [Bool.and_eq_true, decide_eq_true_eq] at ok
    have h1 := openS_len ok.1.1.1
    have h2 := (name_size ok.1.1.2).2
    have h3 := args_len ok.2 ok.1.2
    show (Str.ofString "call " ++ (if r = Str.ofString "" then Str.ofString "" else r ++ Str.ofString " = ") ++ g ++ Str.ofString "(" ++ Txt.join (Str.ofString ", ") (fs.map ArgF.text) ++ Str.ofString ")").length ≤ 200
    have h4 : (if r = Str.ofString "" then Str.ofString "" else r ++ Str.ofString " = ").length ≤ 11 := by
      split
      · decide
      · rw [len_cat, l3]
        omega
    rw [len_cat, len_cat, len_cat, len_cat, len_cat, show (Str.ofString "call ").length = 5 from rfl, show (Str.ofString "(").length = 1 from rfl, show (Str.ofString ")").length = 1 from rfl]
    omega
/-- it begins with a small letter -/
def Begins (z : Str) : Prop := ∃ c r, cs z = c :: r ∧ c ∈ lettersL
theorem begins_app {a b : Str} (h : Begins a) : Begins (a ++ b) := by
  obtain ⟨c, r, e, hc⟩ := h
  exact ⟨c, r ++ cs b, by rw [cs_app, e]; rfl, hc⟩
theorem text_begins (f : StepF) : Begins f.text := by
  have k : ∀ z : Str, (match cs z with | c :: _ => decide (c ∈ lettersL) | [] => false) = true → Begins z := fun z h => by
    cases e : cs z with
    | nil => rw [e] at h; cases h
    | cons c r => rw [e] at h; exact ⟨c, r, e, of_decide_eq_true h⟩
  cases f with
  | new x => exact begins_app (k _ (by decide +kernel))
  | drop x => exact begins_app (k _ (by decide +kernel))
  | skip => exact k _ (by decide +kernel)
  | ret y =>
    show Begins (if y = Str.ofString "" then Str.ofString "return" else Str.ofString "return " ++ y)
    split
    · exact k _ (by decide +kernel)
    · exact begins_app (k _ (by decide +kernel))
  | move x y => exact begins_app (begins_app (begins_app (k _ (by decide +kernel))))
  | copy x a p => exact begins_app (begins_app (begins_app (k _ (by decide +kernel))))
  | take x a p => exact begins_app (begins_app (begins_app (k _ (by decide +kernel))))
  | lend x a p => exact begins_app (begins_app (begins_app (k _ (by decide +kernel))))
  | put a p y => exact begins_app (begins_app (begins_app (k _ (by decide +kernel))))
  | touch a p way => exact begins_app (begins_app (begins_app (k _ (by decide +kernel))))
  | call r g fs => exact begins_app (begins_app (begins_app (begins_app (begins_app (k _ (by decide +kernel))))))
/-- it does not end with a blank -/
def Ends32 (z : Str) : Prop := ∃ r c, cs z = r ++ [c] ∧ c ≠ 32
theorem ends_app {a b : Str} (h : Ends32 b) : Ends32 (a ++ b) := by
  obtain ⟨r, c, e, hc⟩ := h
  exact ⟨cs a ++ r, c, by rw [cs_app, e, List.append_assoc], hc⟩
theorem ends_of {z : Str} (h1 : 1 ≤ z.length) (h : ∀ c ∈ cs z, c ∈ lettersL) : Ends32 z := by
  rw [cs_len] at h1
  have ne : cs z ≠ [] := fun e => by rw [e] at h1; exact absurd h1 (by decide)
  refine ⟨(cs z).dropLast, (cs z).getLast ne, (List.dropLast_concat_getLast ne).symm, fun e => l32 (h 32 ?_)⟩
  rw [← e]
  exact List.getLast_mem ne
theorem ends_name {z : Str} (h : isName z = true) : Ends32 z := ends_of (name_size h).1 (name_signs h)
theorem ends_place {a p : Str} (ha : isName a = true) (hp : openS p = true) : Ends32 (placeS a p) := by
  unfold placeS
  split
  · exact ends_name ha
  · rename_i hn
    unfold openS at hp
    rw [Bool.or_eq_true, decide_eq_true_eq] at hp
    exact ends_app (ends_name (hp.resolve_left hn))
theorem text_ends {f : StepF} (ok : f.ok = true) : Ends32 f.text := by
  cases f with
  | new x => exact ends_app (ends_name ok)
  | drop x => exact ends_app (ends_name ok)
  | skip => exact ends_of (by decide) (by decide +kernel)
  | ret y =>
    have ok : openS y = true := ok
    show Ends32 (if y = Str.ofString "" then Str.ofString "return" else Str.ofString "return " ++ y)
    split
    · exact ends_of (by decide) (by decide +kernel)
    · rename_i hn
      unfold openS at ok
      rw [Bool.or_eq_true, decide_eq_true_eq] at ok
      exact ends_app (ends_name (ok.resolve_left hn))
  | move x y =>
    have ok : (isName x && isName y) = true := ok
    rw [Bool.and_eq_true] at ok
    exact ends_app (ends_name ok.2)
  | copy x a p =>
    have ok : (isName x && isName a && openS p) = true := ok
    rw [Bool.and_eq_true, Bool.and_eq_true] at ok
    exact ends_app (ends_place ok.1.2 ok.2)
  | take x a p =>
    have ok : (isName x && isName a && openS p) = true := ok
    rw [Bool.and_eq_true, Bool.and_eq_true] at ok
    exact ends_app (ends_place ok.1.2 ok.2)
  | lend x a p =>
    have ok : (isName x && isName a && openS p) = true := ok
    rw [Bool.and_eq_true, Bool.and_eq_true] at ok
    exact ends_app (ends_place ok.1.2 ok.2)
  | put a p y =>
    have ok : (isName a && openS p && isName y) = true := ok
    rw [Bool.and_eq_true, Bool.and_eq_true] at ok
    exact ends_app (ends_name ok.2)
  | touch a p way =>
    have ok : (isName a && openS p && wayS way) = true := ok
    rw [Bool.and_eq_true, Bool.and_eq_true] at ok
    refine ends_app (ends_of ?_ (way_signs ok.2))
    have h := ok.2
    unfold wayS at h
    rw [decide_eq_true_eq] at h
    rcases h with rfl | rfl <;> decide
  | call r g fs => exact ends_app ⟨[], 41, rfl, by decide⟩
/-- no good step has this text -/
def NoText (z : Str) : Prop := ∀ f : StepF, f.good = true → f.text ≠ z
theorem good_ok {f : StepF} (h : f.good = true) : f.ok = true := by
  have h : (f.ok && (f.free || decide f.vars.Nodup)) = true := h
  rw [Bool.and_eq_true] at h
  exact h.1
theorem no_behind (z : Str) : NoText (z ++ Str.ofString " ") := fun f g e => by
  obtain ⟨r, c, h, hc⟩ := text_ends (good_ok g)
  rw [e, cs_app] at h
  have := congrArg List.getLast? h
  rw [List.getLast?_append, List.getLast?_append] at this
  exact hc (Option.some.inj this).symm
theorem no_ahead (z : Str) : NoText (Str.ofString " " ++ z) := fun f g e => by
  obtain ⟨c, r, h, hc⟩ := text_begins f
  rw [e, cs_app] at h
  have h : 32 :: cs z = c :: r := h
  rw [← (List.cons.inj h).1] at hc
  exact l32 hc
theorem up_letters : ∀ c ∈ lettersL, Unicode.upperOf c = [c - 32] := by decide +kernel
theorem up_none : ∀ c ∈ lettersL, c - 32 ∉ lettersL := by decide +kernel
theorem no_upper (f : StepF) : NoText (Txt.upper f.text) := fun f' g e => by
  obtain ⟨c, r, h, hc⟩ := text_begins f
  obtain ⟨c', r', h', hc'⟩ := text_begins f'
  have hu : cs (Txt.upper f.text) = (((cs f.text).mapIdx fun i c => (Unicode.upperOf c).toArray).map Array.toList).flatten := by
    show (placed f.text fun _ c => Unicode.upperOf c).toList = _
    unfold placed
    rw [Array.toList_flatten, Array.toList_mapIdx]
  rw [e, hu, h, List.mapIdx_cons, List.map_cons, List.flatten_cons, up_letters c hc] at h'
  have h' : (c - 32) :: _ = c' :: r' := h'
  rw [← (List.cons.inj h').1] at hc'
  exact up_none c hc hc'
def badD (z : Str) : Bool := match ofDt (gStep z) with | none => true | some f => !f.good
theorem no_of {z : Str} (h : badD z = true) : NoText z := fun f g e => by
  have e1 := gStep_eq (good_ok g)
  rw [e] at e1
  unfold badD at h
  rw [e1, ofDt_dt] at h
  have h : (!f.good) = true := h
  rw [g] at h
  cases h
end Lp

namespace Lp
open PySem PySem.Spec PyProof.Rows L2
/-! ### defs that may raise -/
section
variable {P : Program} {w : World} {K : PySem.W.Frag} {mg : Str → Option Value} {base : Heap} {k : Nat} {f : Addr} {fd : FuncData} {ps : List Str} {sp sp1 sp2 : Sp}
/-- what raises nothing, as what may raise -/
theorem FnOk.lift (F : FnOk P w K mg base CX0 k f fd ps sp) : FnOk P w K mg base (L2.CX P w) k f fd ps sp :=
  ⟨F.len, fun A outer s H args us vs Q E hr he hb hv h => codeAny_mono (F.run A outer s H args us vs Q E hr he hb hv h) fun r s' q => by
    cases r with
    | ok u => cases u <;> exact q
    | error e => exact False.elim q⟩
theorem FnOk.two {CX : CXT} (F1 : FnOk P w K mg base CX k f fd ps sp1) (F2 : FnOk P w K mg base CX k f fd ps sp2) (h : ∀ vs H Q E, sp vs H Q E → sp1 vs H Q E ∨ sp2 vs H Q E) : FnOk P w K mg base CX k f fd ps sp :=
  ⟨fun vs H Q E q => (h vs H Q E q).elim (F1.len _ _ _ _) (F2.len _ _ _ _), fun A outer s H args us vs Q E hr he hb hv q => (h vs H Q E q).elim (F1.run A outer s H args us vs Q E hr he hb hv) (F2.run A outer s H args us vs Q E hr he hb hv)⟩
/-- a def that may raise, by its name -/
structure CalX (P : Program) (w : World) (K : PySem.W.Frag) (mg : Str → Option Value) (base : Heap) (k : Nat) (x : Str) (sp : Sp) : Prop where
  ex : ∃ (f : Addr) (fd : FuncData) (ps : List Str), FnOk P w K mg base (L2.CX P w) k f fd ps sp ∧ mg x = some (.ref f) ∧ PySem.W.keepIn K (.ref f) = true ∧ Binds K fd ps []
theorem mkCalX {x : Str} {st : Stmt} (h : FnOk P w K mg base (L2.CX P w) k f fd ps sp) (F : Fun K x x st f fd) (b : Binds K fd ps []) (g : mg x = some (.ref f)) : CalX P w K mg base k x sp := ⟨f, fd, ps, h, g, F.kp, b⟩
end
section
variable {X : Cx} {k j : Nat} {x : Str} {sp : Sp} {p pos : Pos} {e : Expr} {es : List Expr} {t : TA} {E : L2.St → XK}
theorem pe_cX (c : CalX X.prog X.w X.K X.mg X.base k x sp) (hr : Room j X.A) (hk : k ≤ j) (hg : Gl X x) (hx : ∀ σ, PassesAt (L2.CX X.prog X.w) X σ (E σ)) (ha : PA X (e :: es) t)
    (hdb : (x == ("__debug__" : Str)) = false := by decide) (he : starEach (e :: es) X.env = (false, eval e X.env) :: starEach es X.env := by rfl) (hpl : (backTo pos (starEach es X.env)).any (·.1) = false := by rfl) :
    PE X (.Call (.Name x p) (e :: es) [] pos) (tCallS sp E t) := by
  obtain ⟨f, fd, ps, F, hm, kp, b⟩ := c.ex
  exact pe_callS F (hr.mono hk) hg hm kp b hx ha hdb he hpl
end
/-- an own class of errors over ValueError, with no __init__ of its own -/
structure XcP (K : PySem.W.Frag) (mg : Str → Option Value) (x : Str) (C : Addr) : Prop where
  g : mg x = some (.ref C)
  x : PySem.W.excIn K C [.type "ValueError", .type "Exception", .type "BaseException", .type "object"] "ValueError.__new__" = true
  k : PySem.W.keepIn K (.ref C) = true
  b : PySem.W.subIn K (.ref C) (.type "BaseException") = some true
  t : PySem.W.typeIn K (.ref C) = some (.type "type")
  i : PySem.W.isClsIn K C = true
  s : PySem.W.subIn K (.ref C) (.ref C) = some true
/-- an error of the class at S is what «except S» names -/
theorem exm_own {K : PySem.W.Frag} {S : Addr} (h1 : PySem.W.subIn K (.ref S) (.type "BaseException") = some true) (h2 : PySem.W.isClsIn K S = true) (h3 : PySem.W.typeIn K (.ref S) = some (.type "type")) (h4 : PySem.W.subIn K (.ref S) (.ref S) = some true) :
    PySem.W.exmOne K (.ref S) (.ref S) = some true := by
  have e1 : (PySem.W.subIn K (.ref S) (.type "BaseException") == some true) = true := by rw [h1] <;> rfl
  have e2 : ((PySem.W.clsIn K S).isSome && PySem.W.typeIn K (.ref S) == some (.type "type")) = true := by
    have h2' : (PySem.W.clsIn K S).isSome = true := h2
    rw [h2', h3] <;> rfl
  show (if (PySem.W.subIn K (.ref S) (.type "BaseException") == some true) = true then (if ((PySem.W.clsIn K S).isSome && PySem.W.typeIn K (.ref S) == some (.type "type")) = true then PySem.W.subIn K (.ref S) (.ref S) else none) else none) = some true
  rw [if_pos e1, if_pos e2]
  exact h4
theorem XcP.e {K : PySem.W.Frag} {mg : Str → Option Value} {x : Str} {C : Addr} (T : XcP K mg x C) : PySem.W.exmOne K (.ref C) (.ref C) = some true := exm_own T.b T.i T.t T.s
/-- an own class of errors whose __init__ keeps its argument as «line» -/
structure XcI (K : PySem.W.Frag) (mg : Str → Option Value) (x f : Str) (C fI : Addr) : Prop where
  g : mg x = some (.ref C)
  T : OexC K C
  iC : PySem.W.findIn K (.ref C) "__init__" = some (some (.ref fI))
  tI : PySem.W.typeIn K (.ref fI) = some (.type "function")
  no : PySem.W.findIn K (.ref C) f = some none
  F : XfC K C
  i : PySem.W.isClsIn K C = true
  s : PySem.W.subIn K (.ref C) (.ref C) = some true
theorem XcI.e {K : PySem.W.Frag} {mg : Str → Option Value} {x f : Str} {C fI : Addr} (T : XcI K mg x f C fI) : PySem.W.exmOne K (.ref C) (.ref C) = some true := exm_own T.T.exC T.i T.T.tyC T.s
/-- __init__(self, line): self.line = line -/
def spInit (C : Addr) (f : Str) : Sp := fun vs H Q _ => ∃ (a : Addr) (v : V), vs = [.ref a, v] ∧ H a = some (exo a C none) ∧ ∀ d, H d = none → d ≠ a → Q .non (upd (upd H d (exd d [(f, v)])) a (exo a C (some d)))
theorem same_del {H : Hp} {a d : Addr} {o : HO} {H2 : Hp} (ha : H a = none) (hd : H d = none) (k : ∀ b o, b ≠ a → b ≠ d → H b = some o → H2 b = some o) : Same H (upd (del H2 a) d o) := fun b o e => by
  have h1 : b ≠ a := ne_of_none e ha
  have h2 : b ≠ d := ne_of_none e hd
  rw [upd_ne h2, del_ne h1]
  exact k b o h1 h2 e
end Lp

namespace Lp
open PySem PySem.Spec PyProof.Rows L2
/-! ### enumerate(a text) -/
def Ies (x : Str) : It :=
  ⟨fun i _ => ∃ c, (cs x)[i]? = some c, fun i H v H' => ∃ T c, v = .ref T ∧ H T = none ∧ H' = upd H T (.tup [.int (i : Nat), .str ⟨#[c]⟩]) ∧ (cs x)[i]? = some c, fun i _ => (cs x).length ≤ i⟩
theorem turn_enumS {P : Program} {w : World} {K : PySem.W.Frag} {elts : List Expr} {kk : Nat} {tpos : Pos} (x : Str) (t : Tok) (e it : Addr) :
    Turn P w K (.Tuple elts kk tpos) (Ies x) [e, it] e (fun i h => (∃ old, IsEnum h e it ((i : Nat) : Int) old) ∧ h.IsStrIter it (strIterType x) x t i ∧ e ≠ it ∧ i ≤ (cs x).length) where
  mem := by simp
  obj := fun i h st b hb => by
    obtain ⟨⟨old, he⟩, ⟨o, ho, hc, hd⟩, _⟩ := st
    have e' : b = e ∨ b = it := by simpa using hb
    rcases e' with z | z
    · rw [z]; exact ⟨_, he, fun v q => nomatch q⟩
    · rw [z]; exact ⟨o, ho, fun v q => by rw [hd] at q; cases q⟩
  keep := fun i h h' st k => let ⟨⟨old, he⟩, ⟨o, ho, r⟩, hne⟩ := st; ⟨⟨old, k e (by simp) _ he⟩, ⟨o, k it (by simp) _ ho, r⟩, hne⟩
  item := by
    intro X hP hw hK hc i pins s σ H E I hf st hg
    subst hP hw hK
    obtain ⟨⟨old, he⟩, hit, hne, hle⟩ := st
    obtain ⟨c, hx⟩ := hg
    have hel : e < s.heap.objs.size := Heap.lt_size he
    have hil : it < s.heap.objs.size := by obtain ⟨_, q, _⟩ := hit; exact Heap.lt_size q
    have hlt : i < x.cps.size := by
      have := (List.getElem?_eq_some_iff.mp hx).1
      rw [← cs_len] at this
      exact this
    have D := PySem.Draws.text (prog := X.prog) (w := X.w) (A := X.A.in1) (I.ok.hd hc) it x t
    refine wpAny_pyNext_enum_itemD D he hit hlt hne (by simp [hne]) fun x' h' tk px ho hit' hT hsz hk => ?_
    obtain ⟨c', u, hc', ex⟩ := px
    have ec : c' = c := by
      have e1 : (cs x)[i]? = x.cps[i]? := by simp
      rw [e1, hc'] at hx
      exact Option.some.inj hx
    subst ex
    subst ec
    refine ⟨_, rfl, wpAny_letOwnedTupleGo_enum (s := { s with heap := h', toks := tk + 1 }) ho fun h'' he' sb => ?_⟩
    have hT2 : h''.get? s.heap.objs.size = some { cls := .type "tuple", data := .seq #[.int i tk, .str ⟨#[c']⟩ u] } := (sb.2 _ (Nat.ne_of_gt hel)).trans hT
    have new : ObjOk X.prog X.w (upd H s.heap.objs.size (.tup [.int (i : Nat), .str ⟨#[c']⟩])) h'' s.heap.objs.size (.tup [.int (i : Nat), .str ⟨#[c']⟩]) :=
      ⟨by show 2 ≤ sizeLine; decide, [.int i tk, .str ⟨#[c']⟩ u], .cons ⟨_, rfl⟩ (.cons ⟨_, rfl⟩ .nil), ⟨_, hT2, rfl, _, rfl⟩⟩
    have I1 : Inv X pins σ (upd H s.heap.objs.size (.tup [.int (i : Nat), .str ⟨#[c']⟩])) { s with heap := h'', toks := tk + 1 } :=
      I.turnedNew (ch := [e, it]) (fun b ob hb q => (sb.2 b (fun z => hb (by simp [z]))).trans (hk b ob (fun z => hb (by simp [z])) (fun z => hb (by simp [z])) q)) hf (Nat.le_refl _) new
    refine ⟨.ref s.heap.objs.size, _, I1, rfl, ⟨_, c', rfl, I.hok.fresh (Nat.le_refl _), rfl, hx⟩, ⟨⟨.str ⟨#[c']⟩ u, ?_⟩, ?_, hne, ?_⟩, fun b hb => ?_⟩
    · have e1 : ((i + 1 : Nat) : Int) = (i : Int) + 1 := by omega
      rw [e1]; exact he'
    · obtain ⟨o, q, r⟩ := hit'
      exact ⟨o, (sb.2 it (Ne.symm hne)).trans q, r⟩
    · rw [← cs_len]
      exact hlt
    · have hb' : b < s.heap.objs.size := by
        have e' : b = e ∨ b = it := by simpa using hb
        rcases e' with z | z
        · rw [z]; exact hel
        · rw [z]; exact hil
      rw [upd_ne (Nat.ne_of_lt hb')]
      exact (hf b hb).1
  done := by
    intro X hP hw hK hc i pins s σ H E I hf st hg
    subst hP hw hK
    obtain ⟨⟨old, he⟩, hit, hne, hle⟩ := st
    have hg : (cs x).length ≤ i := hg
    obtain ⟨f0, f1, f2, f3, f4, f5⟩ := hf it (by simp)
    have D := PySem.Draws.text (prog := X.prog) (w := X.w) (A := X.A.in1) (I.ok.hd hc) it x t
    have ei : i = x.cps.size := by
      rw [← cs_len] at hle hg
      exact Nat.le_antisymm hle hg
    rw [ei] at hit
    exact wpAny_pyNext_enum_endD D he hit fun h' eb => ⟨rfl, I.turned (t' := s.toks) (fun b o hb q => eb b o hb q) f0 f1 f3 f4 f5⟩
  self := fun A i s Q E st h => let ⟨⟨_, he⟩, _⟩ := st; wpAny_pyIter_enum he h
def iEnumS (ta : TA) : TI := fun σ H R => ta σ H fun vs H1 => ∃ x, vs = [.str x] ∧ R (Ies x) H1
theorem pi_enumS {X : Cx} {e : Expr} {ta : TA} {p pos tpos : Pos} {elts : List Expr} {kk : Nat} (hg : Gl X "enumerate") (hm : X.mg "enumerate" = none) (ha : PA X [e] ta) (hs : starEach [e] X.env = [(false, eval e X.env)] := by rfl) :
    PI X (.Tuple elts kk tpos) (.Call (.Name "enumerate" p) [e] [] pos) (iEnumS ta) := by
  refine ⟨fun pins s σ H R I h => ?_⟩
  refine Call_ (ld_blt I hg hm boot_enumerate (PyProof.Rows.callWith_type1 (thn (ha.run pos pins s σ H _ I h) fun us s1 ⟨vs, H1, I1, r1, q1⟩ => ?_) hs rfl))
  obtain ⟨x, ex, q⟩ := q1
  subst ex
  cases r1 with
  | cons r rr =>
    cases rr
    obtain ⟨t, rfl⟩ := r
    refine call_enumerate_str fun h' he hit hsz hk => wpAny_pyIter_enum he ?_
    have I2 : Inv X pins σ H1 { s1 with heap := h' } := I1.kept (t' := s1.toks) hk
    refine ⟨s1.heap.objs.size + 1, [s1.heap.objs.size + 1, s1.heap.objs.size], _, _, H1, rfl, I2, turn_enumS x t (s1.heap.objs.size + 1) s1.heap.objs.size, ⟨⟨.none, he⟩, hit, Nat.succ_ne_self _, Nat.zero_le _⟩, fun b hb => ?_, q⟩
    have e' : b = s1.heap.objs.size + 1 ∨ b = s1.heap.objs.size := by simpa using hb
    have hle : s1.heap.objs.size ≤ b := by
      rcases e' with z | z
      · rw [z]; exact Nat.le_add_right _ _
      · rw [z]; exact Nat.le_refl _
    exact I1.fpOk hle (I1.hok.fresh hle)
/-- a walk over a text's signs with their numbers -/
theorem walk_enumS {x : Str} : Walk (Ies x) (cs x).length (fun _ => True) (fun i H v H' => ∃ T c, v = .ref T ∧ H T = none ∧ H' = upd H T (.tup [.int (i : Nat), .str ⟨#[c]⟩]) ∧ (cs x)[i]? = some c) :=
  ⟨fun i _ hi _ => ⟨(cs x)[i], by simp [hi]⟩, fun _ _ => Nat.le_refl _, fun i H x H' _ _ y => y⟩
/-! ### not in a tuple of texts -/
section
variable {X : Cx}
def rNotInS (K : PySem.W.Frag) : R2 := fun x y H Q => ∃ (a : Addr) (zs : List Str), y = .ref a ∧ SqT K H a (zs.map V.str) ∧ DatX K H x ∧ Q (.bl (!inTxt x zs)) H
theorem op_notInS (hu : X.A.units + 1 < cLine) : OpR X (compareOp .NotIn) (rNotInS X.K) := by
  intro pins s σ H x y v u Q I rx ry h
  obtain ⟨a, zs, rfl, ht, d, q⟩ := h
  obtain rfl : u = Value.ref a := ry
  obtain ⟨its, r, p, _⟩ := I.tuple ht
  obtain ⟨k1, k2⟩ := vals_txt r
  refine SeqAt.notIn_tupleAt (txtE x) p (fun y hy => ?_) ⟨.bl (!inTxt x zs), H, I, ?_, q⟩
  · obtain ⟨z, t, rfl⟩ := k1 y (by simpa using hy)
    exact (datX_eqs I (A := X.A.in1) d rx z t hu).2
  · show Value.bool (!its.toArray.any (txtE x)) = Value.bool _
    rw [List.any_toArray, k2]
end
section
variable {X : Cx}
def rNeNilT (K : PySem.W.Frag) : R2 := fun x y H Q => ∃ (a b : Addr) (xs : List V), x = .ref a ∧ y = .ref b ∧ SqT K H a xs ∧ SqT K H b [] ∧ Q (.bl (!xs.isEmpty)) H
theorem op_neNilT (hu : X.A.units < cLine) : OpR X (compareOp .NotEq) (rNeNilT X.K) := by
  intro pins s σ H x y v u Q I rx ry h
  obtain ⟨a, b, xs, rfl, rfl, ha, hb, q⟩ := h
  obtain rfl : v = Value.ref a := rx
  obtain rfl : u = Value.ref b := ry
  obtain ⟨us, r1, p1, _⟩ := I.tuple ha
  obtain ⟨ws, r2, p2, _⟩ := I.tuple hb
  cases r2
  refine SeqAt.RcNeAt.tuples (e := fun _ => true) (show s.heap.IsTuple a us.toArray from p1) (show s.heap.IsTuple b ([] : List Value).toArray from p2) hu (fun j _ h2 => absurd h2 (Nat.not_lt_zero j)) _ _ _ _ ⟨.bl (!xs.isEmpty), H, I, ?_, q⟩
  cases r1 with
  | nil => rfl
  | cons h1 h2 =>
    show Value.bool _ = Value.bool true
    simp
end
end Lp

namespace Lp
open PySem PySem.Spec PyProof.Rows L2
/-! ### the law's own shapes of steps -/
def GoodD (d : Dt) : Prop := ∃ f : StepF, d = f.dt ∧ f.good = true
def shapesL : List (Str × Str) := [("new", "n"), ("drop", "n"), ("copy", "nmp"), ("take", "nmp"), ("put", "npm"), ("lend", "nnp"), ("move", "nm")]
def othersL : List (Str × Str) := [("touch", "npw"), ("call", "ona"), ("return", "o"), ("skip", "")]
def rowK (l : List (Str × Str)) : List (Key × V) := l.map fun p => (Sum.inr p.1, V.str p.2)
theorem merge_shapes : mergeK [] (rowK shapesL) = rowK shapesL := by rfl
theorem merge_others : mergeK [] (rowK othersL) = rowK othersL := by rfl
theorem valV_row (z : Str) : ∀ l : List (Str × Str), valV (rowK l) (Sum.inr z) = (l.lookup z).map V.str
  | [] => rfl
  | p :: r => by
    have ih := valV_row z r
    obtain ⟨x, s⟩ := p
    by_cases e : x = z
    · subst e
      rw [List.lookup_cons, beq_self_eq_true]
      exact valV_pos rfl
    · rw [List.lookup_cons, beq_eq_false_iff_ne.mpr (fun h => e h.symm)]
      exact (valV_neg (p := (Sum.inr x, V.str s)) (fun h => e (Sum.inr.inj h))).trans ih
def shapeOf (z : Str) : Option Str := (shapesL.lookup z).or (othersL.lookup z)
def sameT : Dt → Dt → Bool
  | .txt a, .txt b => decide (a = b)
  | _, _ => false
/-- whether an item suits a sign of a shape; d1: the first item -/
def signOk (c : Nat) (d d1 : Dt) : Bool :=
  if c = 110 then nameD d else if c = 109 then nameD d && !sameT d d1 else if c = 112 ∨ c = 111 then openD d else if c = 119 then wayD d else argsD d
def stepD : List Dt → Bool
  | .txt z :: r => match shapeOf z with
    | none => false
    | some sh => decide ((cs sh).length = r.length) && ((cs sh).zip r).all fun p => signOk p.1 p.2 (r.headD .oth)
  | _ => false
theorem mem_of_lookup {z s : Str} : ∀ {l : List (Str × Str)}, l.lookup z = some s → (z, s) ∈ l
  | (x, r) :: t, h => by
    rw [List.lookup_cons] at h
    by_cases e : z = x
    · subst e
      rw [beq_self_eq_true] at h
      cases h
      exact List.mem_cons_self
    · rw [beq_eq_false_iff_ne.mpr e] at h
      exact List.mem_cons_of_mem _ (mem_of_lookup h)
theorem shape_mem {z s : Str} (h : shapeOf z = some s) : (z, s) ∈ shapesL ++ othersL := by
  unfold shapeOf at h
  cases e : shapesL.lookup z with
  | some s' =>
    rw [e] at h
    cases h
    exact List.mem_append_left _ (mem_of_lookup e)
  | none =>
    rw [e] at h
    exact List.mem_append_right _ (mem_of_lookup h)
/-- of the shapes: their signs; what is another one stands behind a name -/
theorem shape_signs : ∀ p ∈ shapesL ++ othersL, (∀ c ∈ cs p.2, c ∈ [110, 109, 112, 111, 119, 97]) ∧ (cs p.2).length ≤ 3 ∧ ∀ i, i < (cs p.2).length → (cs p.2)[i]? = some 109 → 1 ≤ i ∧ (cs p.2)[0]? = some 110 := by
  have h : ∀ p ∈ shapesL ++ othersL, (∀ c ∈ cs p.2, c ∈ [110, 109, 112, 111, 119, 97]) ∧ (cs p.2).length ≤ 3 ∧ ∀ i, i < (cs p.2).length → (cs p.2)[i]? = some 109 → 1 ≤ i ∧ (cs p.2)[0]? = some 110 := by decide +kernel
  exact h
theorem args_of {d : Dt} (h : argsD d = true) : ∃ fs : List ArgF, d = .tup (fs.map ArgF.dt) ∧ fs.length ≤ 3 ∧ fs.all ArgF.ok = true := by
  cases d with
  | tup ds =>
    have h : (decide (ds.length ≤ 3) && ds.all argD) = true := h
    rw [Bool.and_eq_true, decide_eq_true_eq] at h
    obtain ⟨fs, rfl, hfs⟩ := args_inv h.2
    rw [List.length_map] at h
    exact ⟨fs, rfl, h.1, hfs⟩
  | _ => cases h
theorem args_ok {fs : List ArgF} (l : fs.length ≤ 3) (h : fs.all ArgF.ok = true) : argsD (.tup (fs.map ArgF.dt)) = true := by
  show (decide ((fs.map ArgF.dt).length ≤ 3) && (fs.map ArgF.dt).all argD) = true
  rw [List.length_map, decide_eq_true l, Bool.true_and, List.all_map, List.all_eq_true]
  exact fun x hx => arg_of (List.all_eq_true.mp h x hx)
theorem sameT_no {a b : Str} (h : (!sameT (.txt a) (.txt b)) = true) : a ≠ b := fun e => by
  subst e
  have : sameT (.txt a) (.txt a) = true := decide_eq_true rfl
  rw [this] at h
  cases h
theorem sameT_ne {a b : Str} (h : a ≠ b) : (!sameT (.txt a) (.txt b)) = true := by
  have : sameT (.txt a) (.txt b) = false := decide_eq_false h
  rw [this]
  rfl
theorem good_of {f : StepF} (ok : f.ok = true) (h : f.free = true ∨ f.vars.Nodup) : f.good = true := by
  show (f.ok && (f.free || decide f.vars.Nodup)) = true
  rw [ok, Bool.true_and]
  rcases h with h | h
  · rw [h]
    rfl
  · rw [decide_eq_true h, Bool.or_true]
theorem nodup2 {a b : Str} (h : a ≠ b) : [a, b].Nodup := by simp [h]
theorem nodup1 (a : Str) : [a].Nodup := by simp
theorem sgn_n (d d1 : Dt) : signOk 110 d d1 = nameD d := rfl
theorem sgn_m (d d1 : Dt) : signOk 109 d d1 = (nameD d && !sameT d d1) := rfl
theorem sgn_p (d d1 : Dt) : signOk 112 d d1 = openD d := rfl
theorem sgn_o (d d1 : Dt) : signOk 111 d d1 = openD d := rfl
theorem sgn_w (d d1 : Dt) : signOk 119 d d1 = wayD d := rfl
theorem sgn_a (d d1 : Dt) : signOk 97 d d1 = argsD d := rfl
theorem stepD_good {ds : List Dt} (h : stepD ds = true) : GoodD (.tup ds) := by
  match ds, h with
  | .txt z :: r, h =>
    have h : (match shapeOf z with | none => false | some sh => decide ((cs sh).length = r.length) && ((cs sh).zip r).all fun p => signOk p.1 p.2 (r.headD .oth)) = true := h
    cases e : shapeOf z with
    | none => rw [e] at h; cases h
    | some sh =>
      rw [e] at h
      have hm := shape_mem e
      have h : (decide ((cs sh).length = r.length) && ((cs sh).zip r).all fun p => signOk p.1 p.2 (r.headD .oth)) = true := h
      rw [Bool.and_eq_true, decide_eq_true_eq] at h
      obtain ⟨hl, ha⟩ := h
      simp only [shapesL, othersL, List.cons_append, List.nil_append, List.mem_cons, List.not_mem_nil, or_false, Prod.mk.injEq] at hm
      rcases hm with ⟨rfl, rfl⟩ | ⟨rfl, rfl⟩ | ⟨rfl, rfl⟩ | ⟨rfl, rfl⟩ | ⟨rfl, rfl⟩ | ⟨rfl, rfl⟩ | ⟨rfl, rfl⟩ | ⟨rfl, rfl⟩ | ⟨rfl, rfl⟩ | ⟨rfl, rfl⟩ | ⟨rfl, rfl⟩
      · obtain ⟨d1, rfl⟩ := len1 (show r.length = 1 from hl.symm)
        have ha : (nameD d1 && true) = true := ha
        rw [Bool.and_true] at ha
        obtain ⟨x, rfl, hx⟩ := nameD_inv ha
        exact ⟨.new x, rfl, good_of hx (.inr (nodup1 x))⟩
      · obtain ⟨d1, rfl⟩ := len1 (show r.length = 1 from hl.symm)
        have ha : (nameD d1 && true) = true := ha
        rw [Bool.and_true] at ha
        obtain ⟨x, rfl, hx⟩ := nameD_inv ha
        exact ⟨.drop x, rfl, good_of hx (.inr (nodup1 x))⟩
      · obtain ⟨d1, d2, d3, rfl⟩ := len3 (show r.length = 3 from hl.symm)
        have ha : (nameD d1 && ((nameD d2 && !sameT d2 d1) && (openD d3 && true))) = true := ha
        simp only [Bool.and_eq_true, Bool.and_true] at ha
        obtain ⟨x, rfl, hx⟩ := nameD_inv ha.1
        obtain ⟨y, rfl, hy⟩ := nameD_inv ha.2.1.1
        obtain ⟨p, rfl, hp⟩ := openD_inv ha.2.2
        exact ⟨.copy x y p, rfl, good_of (show (isName x && isName y && openS p) = true by rw [hx, hy, hp]; rfl) (.inr (nodup2 fun e => sameT_no ha.2.1.2 e.symm))⟩
      · obtain ⟨d1, d2, d3, rfl⟩ := len3 (show r.length = 3 from hl.symm)
        have ha : (nameD d1 && ((nameD d2 && !sameT d2 d1) && (openD d3 && true))) = true := ha
        simp only [Bool.and_eq_true, Bool.and_true] at ha
        obtain ⟨x, rfl, hx⟩ := nameD_inv ha.1
        obtain ⟨y, rfl, hy⟩ := nameD_inv ha.2.1.1
        obtain ⟨p, rfl, hp⟩ := openD_inv ha.2.2
        exact ⟨.take x y p, rfl, good_of (show (isName x && isName y && openS p) = true by rw [hx, hy, hp]; rfl) (.inr (nodup2 fun e => sameT_no ha.2.1.2 e.symm))⟩
      · obtain ⟨d1, d2, d3, rfl⟩ := len3 (show r.length = 3 from hl.symm)
        have ha : (nameD d1 && (openD d2 && ((nameD d3 && !sameT d3 d1) && true))) = true := ha
        simp only [Bool.and_eq_true, Bool.and_true] at ha
        obtain ⟨x, rfl, hx⟩ := nameD_inv ha.1
        obtain ⟨p, rfl, hp⟩ := openD_inv ha.2.1
        obtain ⟨y, rfl, hy⟩ := nameD_inv ha.2.2.1
        exact ⟨.put x p y, rfl, good_of (show (isName x && openS p && isName y) = true by rw [hx, hy, hp]; rfl) (.inr (nodup2 fun e => sameT_no ha.2.2.2 e.symm))⟩
      · obtain ⟨d1, d2, d3, rfl⟩ := len3 (show r.length = 3 from hl.symm)
        have ha : (nameD d1 && (nameD d2 && (openD d3 && true))) = true := ha
        simp only [Bool.and_eq_true, Bool.and_true] at ha
        obtain ⟨x, rfl, hx⟩ := nameD_inv ha.1
        obtain ⟨y, rfl, hy⟩ := nameD_inv ha.2.1
        obtain ⟨p, rfl, hp⟩ := openD_inv ha.2.2
        exact ⟨.lend x y p, rfl, good_of (show (isName x && isName y && openS p) = true by rw [hx, hy, hp]; rfl) (.inl rfl)⟩
      · obtain ⟨d1, d2, rfl⟩ := len2 (show r.length = 2 from hl.symm)
        have ha : (nameD d1 && ((nameD d2 && !sameT d2 d1) && true)) = true := ha
        simp only [Bool.and_eq_true, Bool.and_true] at ha
        obtain ⟨x, rfl, hx⟩ := nameD_inv ha.1
        obtain ⟨y, rfl, hy⟩ := nameD_inv ha.2.1
        exact ⟨.move x y, rfl, good_of (show (isName x && isName y) = true by rw [hx, hy]; rfl) (.inr (nodup2 fun e => sameT_no ha.2.2 e.symm))⟩
      · obtain ⟨d1, d2, d3, rfl⟩ := len3 (show r.length = 3 from hl.symm)
        have ha : (nameD d1 && (openD d2 && (wayD d3 && true))) = true := ha
        simp only [Bool.and_eq_true, Bool.and_true] at ha
        obtain ⟨x, rfl, hx⟩ := nameD_inv ha.1
        obtain ⟨p, rfl, hp⟩ := openD_inv ha.2.1
        obtain ⟨y, rfl, hy⟩ := wayD_inv ha.2.2
        exact ⟨.touch x p y, rfl, good_of (show (isName x && openS p && wayS y) = true by rw [hx, hy, hp]; rfl) (.inr (nodup1 x))⟩
      · obtain ⟨d1, d2, d3, rfl⟩ := len3 (show r.length = 3 from hl.symm)
        have ha : (openD d1 && (nameD d2 && (argsD d3 && true))) = true := ha
        simp only [Bool.and_eq_true, Bool.and_true] at ha
        obtain ⟨x, rfl, hx⟩ := openD_inv ha.1
        obtain ⟨g, rfl, hg⟩ := nameD_inv ha.2.1
        obtain ⟨fs, rfl, h3, hfs⟩ := args_of ha.2.2
        exact ⟨.call x g fs, rfl, good_of (show (openS x && isName g && decide (fs.length ≤ 3) && fs.all ArgF.ok) = true by rw [hx, hg, decide_eq_true h3, hfs]; rfl) (.inl rfl)⟩
      · obtain ⟨d1, rfl⟩ := len1 (show r.length = 1 from hl.symm)
        have ha : (openD d1 && true) = true := ha
        rw [Bool.and_true] at ha
        obtain ⟨x, rfl, hx⟩ := openD_inv ha
        exact ⟨.ret x, rfl, good_of hx (.inr (List.Nodup.sublist List.filter_sublist (nodup1 x)))⟩
      · obtain rfl : r = [] := List.length_eq_zero_iff.mp hl.symm
        exact ⟨.skip, rfl, rfl⟩
theorem good_nodup {f : StepF} (h : f.good = true) (nf : f.free = false) : f.vars.Nodup := by
  have h : (f.ok && (f.free || decide f.vars.Nodup)) = true := h
  rw [nf, Bool.false_or, Bool.and_eq_true, decide_eq_true_eq] at h
  exact h.2
theorem good_stepD {ds : List Dt} (h : GoodD (.tup ds)) : stepD ds = true := by
  obtain ⟨f, e, g⟩ := h
  have ok := good_ok g
  cases f with
  | new x =>
    cases e
    show (isName x && true) = true
    rw [Bool.and_true]
    exact ok
  | drop x =>
    cases e
    show (isName x && true) = true
    rw [Bool.and_true]
    exact ok
  | copy x a p =>
    cases e
    have ok : (isName x && isName a && openS p) = true := ok
    simp only [Bool.and_eq_true] at ok
    have n : [x, a].Nodup := good_nodup g rfl
    show (isName x && ((isName a && !sameT (.txt a) (.txt x)) && (openS p && true))) = true
    rw [ok.1.1, ok.1.2, ok.2, sameT_ne fun e => (List.nodup_cons.mp n).1 (by rw [e]; exact List.mem_cons_self)]
    rfl
  | take x a p =>
    cases e
    have ok : (isName x && isName a && openS p) = true := ok
    simp only [Bool.and_eq_true] at ok
    have n : [x, a].Nodup := good_nodup g rfl
    show (isName x && ((isName a && !sameT (.txt a) (.txt x)) && (openS p && true))) = true
    rw [ok.1.1, ok.1.2, ok.2, sameT_ne fun e => (List.nodup_cons.mp n).1 (by rw [e]; exact List.mem_cons_self)]
    rfl
  | put a p y =>
    cases e
    have ok : (isName a && openS p && isName y) = true := ok
    simp only [Bool.and_eq_true] at ok
    have n : [a, y].Nodup := good_nodup g rfl
    show (isName a && (openS p && ((isName y && !sameT (.txt y) (.txt a)) && true))) = true
    rw [ok.1.1, ok.1.2, ok.2, sameT_ne fun e => (List.nodup_cons.mp n).1 (by rw [e]; exact List.mem_cons_self)]
    rfl
  | lend x a p =>
    cases e
    have ok : (isName x && isName a && openS p) = true := ok
    simp only [Bool.and_eq_true] at ok
    show (isName x && (isName a && (openS p && true))) = true
    rw [ok.1.1, ok.1.2, ok.2]
    rfl
  | move x y =>
    cases e
    have ok : (isName x && isName y) = true := ok
    simp only [Bool.and_eq_true] at ok
    have n : [x, y].Nodup := good_nodup g rfl
    show (isName x && ((isName y && !sameT (.txt y) (.txt x)) && true)) = true
    rw [ok.1, ok.2, sameT_ne fun e => (List.nodup_cons.mp n).1 (by rw [e]; exact List.mem_cons_self)]
    rfl
  | touch a p way =>
    cases e
    have ok : (isName a && openS p && wayS way) = true := ok
    simp only [Bool.and_eq_true] at ok
    show (isName a && (openS p && (wayS way && true))) = true
    rw [ok.1.1, ok.1.2, ok.2]
    rfl
  | call r g0 fs =>
    cases e
    have ok : (openS r && isName g0 && decide (fs.length ≤ 3) && fs.all ArgF.ok) = true := ok
    simp only [Bool.and_eq_true, decide_eq_true_eq] at ok
    show (openS r && (isName g0 && (argsD (.tup (fs.map ArgF.dt)) && true))) = true
    rw [ok.1.1.1, ok.1.1.2, args_ok ok.1.2 ok.2]
    rfl
  | skip =>
    cases e
    rfl
  | ret y =>
    cases e
    show (openS y && true) = true
    rw [Bool.and_true]
    exact ok
theorem stepD_iff (ds : List Dt) : stepD ds = true ↔ GoodD (.tup ds) := ⟨stepD_good, good_stepD⟩
end Lp

namespace Lp
open PySem PySem.Spec PyProof.Rows L2
/-! ### == of steps -/
mutual
def pyD : Dt → PyData
  | .txt z => .str z
  | .tup ds => .tuple (pyAll ds)
  | .oth => .none
def pyAll : List Dt → List PyData
  | [] => []
  | d :: r => pyD d :: pyAll r
end
mutual
/-- texts of good signs, tuples -/
def okD : Dt → Bool
  | .txt z => PyData.strOk z
  | .tup ds => okAll ds
  | .oth => false
def okAll : List Dt → Bool
  | [] => true
  | d :: r => okD d && okAll r
end
mutual
def depD : Dt → Nat
  | .txt _ => 0
  | .tup ds => depAll ds + 1
  | .oth => 0
def depAll : List Dt → Nat
  | [] => 0
  | d :: r => max (depD d) (depAll r)
end
mutual
theorem rep_dp {K : PySem.W.Frag} {H : Hp} : ∀ (d : Dt) (v : V), okD d = true → Rep H v d → Dp K H v (pyD d)
  | .txt z, v, _, r => by
    cases r with
    | txt => exact .str z
  | .tup ds, v, h, r => by
    cases r with
    | tup e l ra => exact .tup (.inl (.inl e)) (rep_dpAll ds _ h ra)
  | .oth, v, h, _ => nomatch h
theorem rep_dpAll {K : PySem.W.Frag} {H : Hp} : ∀ (ds : List Dt) (vs : List V), okAll ds = true → RepAll H vs ds → DpAll K H vs (pyAll ds)
  | [], vs, _, r => by
    cases r
    exact .nil
  | d :: ds, vs, h, r => by
    have h : (okD d && okAll ds) = true := h
    rw [Bool.and_eq_true] at h
    cases r with
    | cons r1 r2 => exact .cons (rep_dp d _ h.1 r1) (rep_dpAll ds _ h.2 r2)
end
mutual
theorem lay_d : ∀ d : Dt, okD d = true → PyData.canLay0 (pyD d) = true
  | .txt z, h => h
  | .tup ds, h => by
    show PyData.canLayAll0 (pyAll ds) = true
    exact lay_all ds h
  | .oth, h => nomatch h
theorem lay_all : ∀ ds : List Dt, okAll ds = true → PyData.canLayAll0 (pyAll ds) = true
  | [], _ => rfl
  | d :: ds, h => by
    have h : (okD d && okAll ds) = true := h
    rw [Bool.and_eq_true] at h
    show (PyData.canLay0 (pyD d) && PyData.canLayAll0 (pyAll ds)) = true
    rw [lay_d d h.1, lay_all ds h.2]
    rfl
end
mutual
theorem dep_d : ∀ d : Dt, PyData.depth (pyD d) = depD d
  | .txt z => rfl
  | .tup ds => by
    show PyData.depthAll (pyAll ds) + 1 = depAll ds + 1
    rw [dep_all ds]
  | .oth => rfl
theorem dep_all : ∀ ds : List Dt, PyData.depthAll (pyAll ds) = depAll ds
  | [] => rfl
  | d :: ds => by
    show max (PyData.depth (pyD d)) (PyData.depthAll (pyAll ds)) = max (depD d) (depAll ds)
    rw [dep_d d, dep_all ds]
end
mutual
theorem eqv_d : ∀ d : Dt, PyData.eqv (pyD d) (pyD d) = true
  | .txt z => by
    show (z == z) = true
    exact beq_self_eq_true z
  | .tup ds => eqv_all ds
  | .oth => rfl
theorem eqv_all : ∀ ds : List Dt, PyData.eqvAll (pyAll ds) (pyAll ds) = true
  | [] => rfl
  | d :: ds => by
    show (PyData.eqv (pyD d) (pyD d) && PyData.eqvAll (pyAll ds) (pyAll ds)) = true
    rw [eqv_d d, eqv_all ds]
    rfl
end
theorem ok_txts : ∀ zs : List Str, (∀ z ∈ zs, PyData.strOk z = true) → okAll (zs.map Dt.txt) = true ∧ depAll (zs.map Dt.txt) = 0
  | [], _ => ⟨rfl, rfl⟩
  | z :: r, h => by
    obtain ⟨h1, h2⟩ := ok_txts r fun y hy => h y (List.mem_cons_of_mem _ hy)
    constructor
    · show (PyData.strOk z && okAll (r.map Dt.txt)) = true
      rw [h z List.mem_cons_self, h1]
      rfl
    · show max 0 (depAll (r.map Dt.txt)) = 0
      rw [h2]
      rfl
instance (z : Str) : Decidable (lowS z) := by
  unfold lowS
  infer_instance
theorem low_app {a b : Str} (ha : lowS a) (hb : lowS b) : lowS (a ++ b) := fun c hc => by
  rw [cs_app] at hc
  rcases List.mem_append.mp hc with h | h
  · exact ha c h
  · exact hb c h
theorem low_signs {z : Str} (h : ∀ c ∈ cs z, c ∈ lettersL) : lowS z := fun c hc => letters_low c (h c hc)
theorem low_open {z : Str} (h : openS z = true) : lowS z := low_signs (open_signs h)
theorem low_way {z : Str} (h : wayS z = true) : lowS z := low_signs (way_signs h)
theorem low_place {a p : Str} (ha : lowS a) (hp : lowS p) : lowS (placeS a p) := by
  unfold placeS
  split
  · exact ha
  · exact low_app (low_app ha (by decide +kernel)) hp
theorem low_join {s : Str} (hs : lowS s) : ∀ ys : List Str, (∀ y ∈ ys, lowS y) → lowS (Txt.join s ys)
  | [], _ => fun c hc => nomatch hc
  | [x], h => by
    rw [TL.join_eq]
    exact h x List.mem_cons_self
  | x :: z :: r, h => by
    have ih := low_join hs (z :: r) fun y hy => h y (List.mem_cons_of_mem _ hy)
    rw [TL.join_eq] at ih ⊢
    exact low_app (low_app (h x List.mem_cons_self) hs) ih
theorem low_arg {f : ArgF} (ok : f.ok = true) : lowS f.text ∧ okD f.dt = true ∧ depD f.dt = 1 := by
  cases f with
  | lend a p =>
    have ok : (isName a && openS p) = true := ok
    rw [Bool.and_eq_true] at ok
    have la := name_low ok.1
    have lp := low_open ok.2
    obtain ⟨h1, h2⟩ := ok_txts [Str.ofString "lend", a, p] (fun z hz => by
      simp only [List.mem_cons, List.not_mem_nil, or_false] at hz
      rcases hz with rfl | rfl | rfl
      · decide +kernel
      · exact la.ok
      · exact lp.ok)
    exact ⟨low_app (by decide +kernel) (low_place la lp), h1, by show depAll ([Str.ofString "lend", a, p].map Dt.txt) + 1 = 1; rw [h2]⟩
  | move a =>
    have la := name_low (show isName a = true from ok)
    obtain ⟨h1, h2⟩ := ok_txts [Str.ofString "move", a] (fun z hz => by
      simp only [List.mem_cons, List.not_mem_nil, or_false] at hz
      rcases hz with rfl | rfl
      · decide +kernel
      · exact la.ok)
    exact ⟨low_app (by decide +kernel) la, h1, by show depAll ([Str.ofString "move", a].map Dt.txt) + 1 = 1; rw [h2]⟩
theorem args_dat : ∀ {fs : List ArgF}, fs.all ArgF.ok = true → (∀ y ∈ fs.map ArgF.text, lowS y) ∧ okAll (fs.map ArgF.dt) = true ∧ depAll (fs.map ArgF.dt) ≤ 1
  | [], _ => ⟨fun _ h => (nomatch h), rfl, Nat.zero_le _⟩
  | f :: r, h => by
    rw [List.all_cons, Bool.and_eq_true] at h
    obtain ⟨a1, a2, a3⟩ := low_arg h.1
    obtain ⟨b1, b2, b3⟩ := args_dat h.2
    refine ⟨fun y hy => ?_, ?_, ?_⟩
    · rw [List.map_cons] at hy
      rcases List.mem_cons.mp hy with rfl | hy
      · exact a1
      · exact b1 y hy
    · show (okD f.dt && okAll (r.map ArgF.dt)) = true
      rw [a2, b2]
      rfl
    · show max (depD f.dt) (depAll (r.map ArgF.dt)) ≤ 1
      rw [a3]
      omega
theorem row_dat {zs : List Str} (h : ∀ z ∈ zs, lowS z) : okD (txs zs) = true ∧ depD (txs zs) ≤ 3 := by
  obtain ⟨h1, h2⟩ := ok_txts zs fun z hz => (h z hz).ok
  exact ⟨h1, by show depAll (zs.map Dt.txt) + 1 ≤ 3; rw [h2]; decide⟩
theorem low2 {a b : Str} (ha : lowS a) (hb : lowS b) : ∀ z ∈ [a, b], lowS z := fun z hz => by
  simp only [List.mem_cons, List.not_mem_nil, or_false] at hz
  rcases hz with rfl | rfl
  · exact ha
  · exact hb
theorem low3 {a b c : Str} (ha : lowS a) (hb : lowS b) (hc : lowS c) : ∀ z ∈ [a, b, c], lowS z := fun z hz => by
  rcases List.mem_cons.mp hz with rfl | hz
  · exact ha
  · exact low2 hb hc z hz
theorem low4 {a b c d : Str} (ha : lowS a) (hb : lowS b) (hc : lowS c) (hd : lowS d) : ∀ z ∈ [a, b, c, d], lowS z := fun z hz => by
  rcases List.mem_cons.mp hz with rfl | hz
  · exact ha
  · exact low3 hb hc hd z hz
/-- of a step: its text, its data -/
theorem step_dat {f : StepF} (ok : f.ok = true) : lowS f.text ∧ okD f.dt = true ∧ depD f.dt ≤ 3 := by
  have e3 : lowS (Str.ofString " = ") := by decide +kernel
  have e1 : lowS (Str.ofString " ") := by decide +kernel
  cases f with
  | new x =>
    have h := name_low (show isName x = true from ok)
    exact ⟨low_app (by decide +kernel) h, row_dat (low2 (by decide +kernel) h)⟩
  | drop x =>
    have h := name_low (show isName x = true from ok)
    exact ⟨low_app (by decide +kernel) h, row_dat (low2 (by decide +kernel) h)⟩
  | skip => exact ⟨by decide +kernel, row_dat (zs := [Str.ofString "skip"]) fun z hz => by rw [List.mem_singleton.mp hz]; decide +kernel⟩
  | ret y =>
    have h := low_open (show openS y = true from ok)
    refine ⟨?_, row_dat (low2 (by decide +kernel) h)⟩
    show lowS (if y = Str.ofString "" then Str.ofString "return" else Str.ofString "return " ++ y)
    split
    · decide +kernel
    · exact low_app (by decide +kernel) h
  | move x y =>
    have ok : (isName x && isName y) = true := ok
    rw [Bool.and_eq_true] at ok
    have h1 := name_low ok.1
    have h2 := name_low ok.2
    exact ⟨low_app (low_app (low_app (by decide +kernel) h1) e3) h2, row_dat (low3 (by decide +kernel) h1 h2)⟩
  | copy x a p =>
    have ok : (isName x && isName a && openS p) = true := ok
    rw [Bool.and_eq_true, Bool.and_eq_true] at ok
    have h1 := name_low ok.1.1
    have h2 := name_low ok.1.2
    have h3 := low_open ok.2
    exact ⟨low_app (low_app (low_app (by decide +kernel) h1) e3) (low_place h2 h3), row_dat (low4 (by decide +kernel) h1 h2 h3)⟩
  | take x a p =>
    have ok : (isName x && isName a && openS p) = true := ok
    rw [Bool.and_eq_true, Bool.and_eq_true] at ok
    have h1 := name_low ok.1.1
    have h2 := name_low ok.1.2
    have h3 := low_open ok.2
    exact ⟨low_app (low_app (low_app (by decide +kernel) h1) e3) (low_place h2 h3), row_dat (low4 (by decide +kernel) h1 h2 h3)⟩
  | lend x a p =>
    have ok : (isName x && isName a && openS p) = true := ok
    rw [Bool.and_eq_true, Bool.and_eq_true] at ok
    have h1 := name_low ok.1.1
    have h2 := name_low ok.1.2
    have h3 := low_open ok.2
    exact ⟨low_app (low_app (low_app (by decide +kernel) h1) e3) (low_place h2 h3), row_dat (low4 (by decide +kernel) h1 h2 h3)⟩
  | put a p y =>
    have ok : (isName a && openS p && isName y) = true := ok
    rw [Bool.and_eq_true, Bool.and_eq_true] at ok
    have h1 := name_low ok.1.1
    have h2 := low_open ok.1.2
    have h3 := name_low ok.2
    exact ⟨low_app (low_app (low_app (by decide +kernel) (low_place h1 h2)) e3) h3, row_dat (low4 (by decide +kernel) h1 h2 h3)⟩
  | touch a p way =>
    have ok : (isName a && openS p && wayS way) = true := ok
    rw [Bool.and_eq_true, Bool.and_eq_true] at ok
    have h1 := name_low ok.1.1
    have h2 := low_open ok.1.2
    have h3 := low_way ok.2
    exact ⟨low_app (low_app (low_app (by decide +kernel) (low_place h1 h2)) e1) h3, row_dat (low4 (by decide +kernel) h1 h2 h3)⟩
  | call r g fs =>
    have ok : (openS r && isName g && decide (fs.length ≤ 3) && fs.all ArgF.ok) = true := ok
    simp only [Bool.and_eq_true, decide_eq_true_eq] at ok
    have h1 := low_open ok.1.1.1
    have h2 := name_low ok.1.1.2
    obtain ⟨h3, h4, h5⟩ := args_dat ok.2
    refine ⟨low_app (low_app (low_app (low_app (low_app (by decide +kernel) ?_) h2) (by decide +kernel)) (low_join (by decide +kernel) _ h3)) (by decide +kernel), ?_, ?_⟩
    · split
      · decide +kernel
      · exact low_app h1 e3
    · show (PyData.strOk (Str.ofString "call") && (PyData.strOk r && (PyData.strOk g && (okAll (fs.map ArgF.dt) && true)))) = true
      rw [h1.ok, h2.ok, h4]
      decide +kernel
    · show max 0 (max 0 (max 0 (max (depAll (fs.map ArgF.dt) + 1) 0))) + 1 ≤ 3
      omega
/-- a pair of a word and data -/
def pairP (w : Str) (d : PyData) : PyData := .tuple [.str w, d]
theorem pair_shaped {w : Str} {d : PyData} (hw : lowS w) (h1 : PyData.canLay0 d = true) (h2 : d.depth ≤ 50) : SeqAt.shaped (pairP w d) = true := by
  show ((PyData.strOk w && (PyData.canLay0 d && true)) && decide (max 0 (max d.depth 0) + 1 ≤ 64)) = true
  rw [hw.ok, h1, decide_eq_true (by omega)]
  rfl
theorem pair_dp {K : PySem.W.Frag} {H : Hp} {p : Addr} {w : Str} {v : V} {d : PyData} (h : H p = some (.tup [.str w, v])) (hd : Dp K H v d) : Dp K H (.ref p) (pairP w d) := .tup (.inl (.inl h)) (.cons (.str w) (.cons hd .nil))
theorem pair_eqv {w : Str} {d : PyData} (h : PyData.eqv d d = true) : PyData.eqv (pairP w d) (pairP w d) = true := by
  show ((w == w) && (PyData.eqv d d && true)) = true
  rw [beq_self_eq_true, h]
  rfl
end Lp

namespace Lp
open PySem PySem.Spec PyProof.Rows L2
/-! ### texts that are those of no steps -/
def noD (z : Str) (d : Dt) : Bool := match ofDt d with
  | none => true
  | some f => !f.good || !decide (f.text = z)
theorem no_by {z : Str} {d : Dt} (h : gStep z = d) (hb : noD z d = true) : NoText z := fun f g e => by
  have e1 := gStep_eq (good_ok g)
  rw [e, h] at e1
  unfold noD at hb
  rw [e1, ofDt_dt] at hb
  have hb : (!f.good || !decide (f.text = z)) = true := hb
  rw [g, decide_eq_true e] at hb
  cases hb
def isStr (a : Str) (l : List Nat) : Bool := decide (cs a = l)
/-- a text cut, by its signs -/
theorem part_of {z y a b : Str} (hy : TL.tl y ≠ []) (h : TL.par (TL.tl y) [] (TL.tl z) = some (cs a, cs b)) : Txt.partition z y = (a, y, b) := by
  rw [TL.partition_par z y hy, h]
theorem part_no {z y : Str} (hy : TL.tl y ≠ []) (h : TL.par (TL.tl y) [] (TL.tl z) = none) : Txt.partition z y = (z, Str.empty, Str.empty) := by
  rw [TL.partition_par z y hy, h]
theorem split_of {z y : Str} {ps : List Str} (hy : TL.tl y ≠ []) (hk : y.cps.all (· < 256) = true) (h : TL.spl (TL.tl y) 0 [] (TL.tl z) = ps.map cs) : Txt.split z y = ps :=
  TL.map_tl_inj (by rw [TL.split_spl z y hy (TL.kind_ok hk)]; exact h)
theorem gStep_of {z w r : Str} (h : TL.par [32] [] (TL.tl z) = some (cs w, cs r)) : gStep z = gWord w r := by
  unfold gStep
  rw [part_of (y := Str.ofString " ") (a := w) (b := r) (by decide) h]
theorem gArg_of {z w r : Str} (h : TL.par [32] [] (TL.tl z) = some (cs w, cs r)) : gArg z = gArgW w r := by
  unfold gArg
  rw [part_of (y := Str.ofString " ") (a := w) (b := r) (by decide) h]
theorem gPlace_of {z w r : Str} (h : TL.par [46] [] (TL.tl z) = some (cs w, cs r)) : gPlace z = [w, r] := by
  unfold gPlace
  rw [part_of (y := Str.ofString ".") (a := w) (b := r) (by decide) h]
theorem gPlace_no {z : Str} (h : TL.par [46] [] (TL.tl z) = none) : gPlace z = [z, Str.ofString ""] := by
  unfold gPlace
  rw [part_no (y := Str.ofString ".") (by decide) h]
  rfl
theorem gArg_no {z : Str} (h : TL.par [32] [] (TL.tl z) = none) : gArg z = gArgW z (Str.ofString "") := by
  unfold gArg
  rw [part_no (y := Str.ofString " ") (by decide) h]
  rfl
theorem gCall_of {z w r : Str} (h : TL.par [40] [] (TL.tl z) = some (cs w, cs r)) : gCall z = gCallW w r := by
  unfold gCall
  rw [part_of (y := Str.ofString "(") (a := w) (b := r) (by decide) h]
theorem gTold_of {u : Str} {ps : List Str} (hn : u ++ Str.ofString ")" ≠ Str.ofString ")") (h : TL.spl [44, 32] 0 [] (TL.tl u) = ps.map cs) : gTold (u ++ Str.ofString ")") = ps := by
  unfold gTold
  rw [if_neg hn, suffix_eq _ _ (by decide)]
  exact split_of (y := Str.ofString ", ") (by decide) (by decide +kernel) h
theorem eq_of {z y a b : Str} (h : TL.par [32, 61, 32] [] (TL.tl z) = some (cs a, cs b)) : Txt.partition z (Str.ofString " = ") = (a, Str.ofString " = ", b) := part_of (y := Str.ofString " = ") (by decide) h
theorem no1 : NoText (Str.ofString "call g(move a, move b, move c, move d)") := by
  refine no_by (d := .tup [.txt (Str.ofString "call"), .txt (Str.ofString ""), .txt (Str.ofString "g"), .tup [txs ["move", "a"], txs ["move", "b"], txs ["move", "c"], txs ["move", "d"]]]) ?_ (by decide +kernel)
  rw [gStep_of (w := Str.ofString "call") (r := Str.ofString "g(move a, move b, move c, move d)") rfl]
  show gCall _ = _
  rw [gCall_of (w := Str.ofString "g") (r := Str.ofString "move a, move b, move c, move d" ++ Str.ofString ")") rfl]
  obtain ⟨e1, e2⟩ := rpart_none (g := Str.ofString "g") (by decide +kernel)
  unfold gCallW
  rw [e1, e2, gTold_of (ps := [Str.ofString "move a", Str.ofString "move b", Str.ofString "move c", Str.ofString "move d"]) (by decide) rfl]
  simp only [List.map_cons, List.map_nil]
  rw [gArg_of (z := Str.ofString "move a") (w := Str.ofString "move") (r := Str.ofString "a") rfl, gArg_of (z := Str.ofString "move b") (w := Str.ofString "move") (r := Str.ofString "b") rfl, gArg_of (z := Str.ofString "move c") (w := Str.ofString "move") (r := Str.ofString "c") rfl, gArg_of (z := Str.ofString "move d") (w := Str.ofString "move") (r := Str.ofString "d") rfl]
  rfl
theorem no2 : NoText (Str.ofString "call r = g(lend a, lend a, lend a, lend a)") := by
  refine no_by (d := .tup [.txt (Str.ofString "call"), .txt (Str.ofString "r"), .txt (Str.ofString "g"), .tup [txs ["lend", "a", ""], txs ["lend", "a", ""], txs ["lend", "a", ""], txs ["lend", "a", ""]]]) ?_ (by decide +kernel)
  rw [gStep_of (w := Str.ofString "call") (r := Str.ofString "r = g(lend a, lend a, lend a, lend a)") rfl]
  show gCall _ = _
  rw [gCall_of (w := Str.ofString "r" ++ Str.ofString " = " ++ Str.ofString "g") (r := Str.ofString "lend a, lend a, lend a, lend a" ++ Str.ofString ")") rfl]
  obtain ⟨e1, e2⟩ := rpart_some (r := Str.ofString "r") (g := Str.ofString "g") (by decide +kernel)
  unfold gCallW
  rw [e1, e2, gTold_of (ps := [Str.ofString "lend a", Str.ofString "lend a", Str.ofString "lend a", Str.ofString "lend a"]) (by decide) rfl]
  simp only [List.map_cons, List.map_nil]
  rw [gArg_of (z := Str.ofString "lend a") (w := Str.ofString "lend") (r := Str.ofString "a") rfl]
  rw [show gArgW (Str.ofString "lend") (Str.ofString "a") = Str.ofString "lend" :: gPlace (Str.ofString "a") from if_neg (by decide), gPlace_no rfl]
theorem no3 : NoText (Str.ofString "take p = p") := by
  refine no_by (d := txs ["take", "p", "p", ""]) ?_ (by decide +kernel)
  rw [gStep_of (w := Str.ofString "take") (r := Str.ofString "p = p") rfl]
  show txs (gEq _ _) = _
  unfold gEq
  rw [eq_of (y := Str.ofString " = ") (a := Str.ofString "p") (b := Str.ofString "p") rfl, gPlace_no (z := Str.ofString "p") rfl]
theorem no4 : NoText (Str.ofString "copy x = x.f") := by
  refine no_by (d := txs ["copy", "x", "x", "f"]) ?_ (by decide +kernel)
  rw [gStep_of (w := Str.ofString "copy") (r := Str.ofString "x = x.f") rfl]
  show txs (gEq _ _) = _
  unfold gEq
  rw [eq_of (y := Str.ofString " = ") (a := Str.ofString "x") (b := Str.ofString "x.f") rfl, gPlace_of (z := Str.ofString "x.f") (w := Str.ofString "x") (r := Str.ofString "f") rfl]
theorem no5 : NoText (Str.ofString "move x = x") := by
  refine no_by (d := txs ["move", "x", "x"]) ?_ (by decide +kernel)
  rw [gStep_of (w := Str.ofString "move") (r := Str.ofString "x = x") rfl]
  show txs (gMove _ _) = _
  unfold gMove
  rw [eq_of (y := Str.ofString " = ") (a := Str.ofString "x") (b := Str.ofString "x") rfl]
theorem no6 : NoText (Str.ofString "put x.f = x") := by
  refine no_by (d := txs ["put", "x", "f", "x"]) ?_ (by decide +kernel)
  rw [gStep_of (w := Str.ofString "put") (r := Str.ofString "x.f = x") rfl]
  show txs (gPut _ _) = _
  unfold gPut
  rw [eq_of (y := Str.ofString " = ") (a := Str.ofString "x.f") (b := Str.ofString "x") rfl, gPlace_of (z := Str.ofString "x.f") (w := Str.ofString "x") (r := Str.ofString "f") rfl]
  rfl
theorem no7 : NoText (Str.ofString "lend r = a.") := by
  refine no_by (d := txs ["lend", "r", "a", ""]) ?_ (by decide +kernel)
  rw [gStep_of (w := Str.ofString "lend") (r := Str.ofString "r = a.") rfl]
  show txs (gEq _ _) = _
  unfold gEq
  rw [eq_of (y := Str.ofString " = ") (a := Str.ofString "r") (b := Str.ofString "a.") rfl, gPlace_of (z := Str.ofString "a.") (w := Str.ofString "a") (r := Str.ofString "") rfl]
theorem no8 : NoText (Str.ofString "touch a own") := by
  refine no_by (d := txs ["touch", "a", "", "own"]) ?_ (by decide +kernel)
  rw [gStep_of (w := Str.ofString "touch") (r := Str.ofString "a own") rfl]
  show txs (gTouch _ _) = _
  unfold gTouch
  rw [part_of (z := Str.ofString "a own") (y := Str.ofString " ") (a := Str.ofString "a") (b := Str.ofString "own") (by decide) rfl, gPlace_no (z := Str.ofString "a") rfl]
  rfl
theorem no9 : NoText (Str.ofString "call g(lend)") := by
  refine no_by (d := .tup [.txt (Str.ofString "call"), .txt (Str.ofString ""), .txt (Str.ofString "g"), .tup [txs ["lend", "", ""]]]) ?_ (by decide +kernel)
  rw [gStep_of (w := Str.ofString "call") (r := Str.ofString "g(lend)") rfl]
  show gCall _ = _
  rw [gCall_of (w := Str.ofString "g") (r := Str.ofString "lend" ++ Str.ofString ")") rfl]
  obtain ⟨e1, e2⟩ := rpart_none (g := Str.ofString "g") (by decide +kernel)
  unfold gCallW
  rw [e1, e2, gTold_of (ps := [Str.ofString "lend"]) (by decide) rfl]
  simp only [List.map_cons, List.map_nil]
  rw [gArg_no (z := Str.ofString "lend") rfl, show gArgW (Str.ofString "lend") (Str.ofString "") = Str.ofString "lend" :: gPlace (Str.ofString "") from if_neg (by decide), gPlace_no rfl]
theorem no10 : NoText (Str.ofString "call g(,)") := by
  refine no_by (d := .tup [.txt (Str.ofString "call"), .txt (Str.ofString ""), .txt (Str.ofString "g"), .tup [txs [",", "", ""]]]) ?_ (by decide +kernel)
  rw [gStep_of (w := Str.ofString "call") (r := Str.ofString "g(,)") rfl]
  show gCall _ = _
  rw [gCall_of (w := Str.ofString "g") (r := Str.ofString "," ++ Str.ofString ")") rfl]
  obtain ⟨e1, e2⟩ := rpart_none (g := Str.ofString "g") (by decide +kernel)
  unfold gCallW
  rw [e1, e2, gTold_of (ps := [Str.ofString ","]) (by decide) rfl]
  simp only [List.map_cons, List.map_nil]
  rw [gArg_no (z := Str.ofString ",") rfl, show gArgW (Str.ofString ",") (Str.ofString "") = Str.ofString "," :: gPlace (Str.ofString "") from if_neg (by decide), gPlace_no rfl]
theorem no11 : NoText (Str.ofString "return a b") := by
  refine no_by (d := txs ["return", "a b"]) ?_ (by decide +kernel)
  rw [gStep_of (w := Str.ofString "return") (r := Str.ofString "a b") rfl]
  rfl
theorem no12 : NoText (Str.ofString "") := by
  refine no_by (d := txs ["", ""]) ?_ (by decide +kernel)
  unfold gStep
  rw [part_no (z := Str.ofString "") (y := Str.ofString " ") (by decide) rfl]
  rfl
def noL1 : List Str := ["call g(move a, move b, move c, move d)", "call r = g(lend a, lend a, lend a, lend a)", "take p = p"]
def noL2 : List Str := ["copy x = x.f", "move x = x", "put x.f = x", "lend r = a.", "touch a own", "call g(lend)"]
def noL3 : List Str := ["call g(,)", "return a b", ""]
def noL : List Str := noL1 ++ noL2 ++ noL3
theorem no_len : ∀ z ∈ noL, z.length ≤ 900 := by decide +kernel
theorem no_all : ∀ z ∈ noL, NoText z := by
  intro z hz
  simp only [noL, noL1, noL2, noL3, List.cons_append, List.nil_append, List.mem_cons, List.not_mem_nil, or_false] at hz
  rcases hz with rfl | rfl | rfl | rfl | rfl | rfl | rfl | rfl | rfl | rfl | rfl | rfl
  · exact no1
  · exact no2
  · exact no3
  · exact no4
  · exact no5
  · exact no6
  · exact no7
  · exact no8
  · exact no9
  · exact no10
  · exact no11
  · exact no12
end Lp

namespace Lp
open PySem PySem.Spec PyProof.Rows L2
def topS (i : Nat) : Stmt := PySem.Challenge.pw_loanpairs_k05_steps_and_texts.main.body.getD i (.Pass ⟨0, 0, 0, 0⟩)
abbrev s_LoanError : Stmt := topS 1
abbrev s_InvalidFunction : Stmt := topS 2
abbrev s_ParseError : Stmt := topS 3
abbrev s_is_name : Stmt := topS 8
abbrev s_is_any_part : Stmt := topS 9
abbrev s_has_step_roles : Stmt := topS 14
abbrev s__is_argument : Stmt := topS 15
abbrev s__begins_with_word : Stmt := topS 16
abbrev s__has_roles : Stmt := topS 17
abbrev s__has_role : Stmt := topS 18
abbrev s__is_variable_role : Stmt := topS 19
abbrev s_variables_of : Stmt := topS 20
abbrev s_is_step : Stmt := topS 23
abbrev s_write_step : Stmt := topS 24
abbrev s__write_place : Stmt := topS 25
abbrev s__write_argument : Stmt := topS 26
abbrev s_read_step : Stmt := topS 27
abbrev s__read_step : Stmt := topS 28
abbrev s__guess_step : Stmt := topS 29
abbrev s__guess_place : Stmt := topS 30
abbrev s__guess_call : Stmt := topS 31
abbrev s__guess_argument : Stmt := topS 32
abbrev s_L_bag : Stmt := topS 34
abbrev s_L_roll : Stmt := topS 35
abbrev s_L_is : Stmt := topS 36
abbrev s_L_one : Stmt := topS 37
abbrev s_L_word : Stmt := topS 38
abbrev s_L_names : Stmt := topS 39
abbrev s_L_is_name : Stmt := topS 40
abbrev s_L_is_open : Stmt := topS 41
abbrev s_L_is_arg : Stmt := topS 42
abbrev s_L_are_args : Stmt := topS 43
abbrev s_L_is_way : Stmt := topS 44
abbrev s_L_is_step : Stmt := topS 45
abbrev s_L_place : Stmt := topS 46
abbrev s_L_arg_text : Stmt := topS 47
abbrev s_L_text : Stmt := topS 48
abbrev s_L_form : Stmt := topS 49
abbrev s_L_odd : Stmt := topS 50
abbrev s_L_spoiled : Stmt := topS 51
abbrev s_L_written : Stmt := topS 52
abbrev s_L_read : Stmt := topS 53
abbrev s_L_right : Stmt := topS 54
abbrev s_L_no_steps : Stmt := topS 55
abbrev s_law : Stmt := topS 56
section
variable {P : Program} {w : World} {K : PySem.W.Frag} {mg : Str → Option Value} {base : Heap}
/-! ### _law_roll -/
theorem scRoll : FnScope ["bag", "total", "found", "one", "two", "three"] ["bag", "total"] (defScope s_L_roll) := ⟨rfl, rfl, rfl, by decide +kernel, rfl, by decide +kernel, by decide +kernel⟩
def spRoll : Sp := fun vs H Q _ => ∃ (b : Addr) (t : Int) (n : Nat), vs = [.ref b, .int t] ∧ 0 < t ∧ t < 2000000000 ∧ Bag H b n ∧ n ≤ bagMost ∧
  ∀ H' i, Keep b H H' → Bag H' b (n + 1) → 0 ≤ i → i < t → Q (.int i) H'
theorem ok_roll {f : Addr} {fd : FuncData} (F : Fun K "_law_roll" "_law_roll" s_L_roll f fd) (mi : mg "int" = none) :
    FnOk P w K mg base CX0 1 f fd ["bag", "total"] spRoll := by
  refine F.ok scRoll (fun vs H Q E h => ?_) (fun cdv A outer s H vs Q E hr h => ?_)
  · obtain ⟨b, t, n, rfl, _⟩ := h
    rfl
  · obtain ⟨b, t, n, rfl, t0, t1, ⟨x, y, z, hb, z0, z1⟩, nm, q⟩ := h
    have hn : n ≤ 1000000000 := nm
    refine ⟨_, pss_cons (ps_if (pt_cmpR op_gt (pe_ix ix_list (pv 0) pe_int (fun _ _ => rfl)) pe_int (nomark _))
        (pss_cons (ps_set (i := 2) scRoll.nd rfl (.inl rfl) (pe_op op_mod (pe_callTy call_int1 (by rfl) mi boot_int (pa_cons (pe_ix ix_list (pv 0) pe_int (fun _ _ => rfl)) pa_nil)) (pv 1)))
          (pss_cons (ps_asg (pe_op op_fdivW (pe_ix ix_list (pv 0) pe_int (fun _ _ => rfl)) (pv 1)) (pg_sub (pv 0) pe_int set_list))
          (pss_one (ps_ret (pv 2))))) pss_nil)
      (pss_cons (ps_asg (pe_op op_add (pe_ix ix_list (pv 0) pe_int (fun _ _ => rfl)) pe_int) (pg_sub (pv 0) pe_int set_list))
      (pss_cons (ps_set (i := 3) scRoll.nd rfl (.inl rfl) (pe_op op_mod (pe_callTy call_int1 (by rfl) mi boot_int (pa_cons (pe_op op_add (pe_op op_mul (pe_ix ix_list (pv 0) pe_int (fun _ _ => rfl)) pe_int)
          (pe_op op_mul pe_int (pe_ix ix_list (pv 0) pe_int (fun _ _ => rfl)))) pa_nil)) pe_int))
      (pss_cons (ps_set (i := 4) scRoll.nd rfl (.inl rfl) (pe_op op_add (pe_op op_mod (pe_callTy call_int1 (by rfl) mi boot_int (pa_cons (pe_op op_mul (pv 3) (pv 3)) pa_nil)) pe_int)
          (pe_op op_mul pe_int (pe_ix ix_list (pv 0) pe_int (fun _ _ => rfl)))))
      (pss_cons (ps_set (i := 5) scRoll.nd rfl (.inl rfl) (pe_op op_mul (pe_op op_mod (pe_callTy call_int1 (by rfl) mi boot_int (pa_cons (pe_op op_mul (pv 4) (pv 4)) pa_nil)) pe_int) (pv 3)))
      (pss_one (ps_ret (pe_op op_mod (pe_callTy call_int1 (by rfl) mi boot_int (pa_cons (pe_op op_fdiv (pe_op op_mod (pe_callTy call_int1 (by rfl) mi boot_int (pa_cons (pv 5) pa_nil)) pe_int) pe_int) pa_nil)) (pv 1)))))))), ?_⟩
    have hq : SqL K H b [.int x, .int y, .int z] := .inl (.inl hb)
    refine ⟨.ref b, rfl, b, _, 0, .int x, rfl, rfl, hq, atI_nat (j := 0) rfl, _, _, rfl, rfl, _, rfl, ite2 (fun e => ?_) (fun e => ?_)⟩
    · -- found = int(bag[0]) % total; bag[0] = bag[0] // total
      refine ⟨.ref b, rfl, b, _, 0, .int x, rfl, rfl, hq, atI_nat (j := 0) rfl, .inl ⟨_, rfl, .int t, rfl, _, _, rfl, rfl, t0, ?_⟩⟩
      refine ⟨.ref b, rfl, b, _, 0, .int x, rfl, rfl, hq, atI_nat (j := 0) rfl, .int t, rfl, _, _, rfl, rfl, wide_div (b := 40) t0 (by omega) (by decide) (by decide), ?_⟩
      refine ⟨.ref b, rfl, b, _, 0, 0, rfl, rfl, hb, rfl, _, rfl, ?_⟩
      exact q _ _ .upd ⟨_, _, _, upd_same, z0, by omega⟩ (Int.emod_nonneg _ (by omega)) (Int.emod_lt_of_pos _ t0)
    · -- bag[2] = bag[2] + 1
      refine ⟨.ref b, rfl, b, _, 2, .int z, rfl, rfl, hq, atI_nat (j := 2) rfl, _, _, rfl, rfl, .ref b, rfl, b, _, 2, 2, rfl, rfl, hb, rfl, ?_⟩
      have hu : SqL K (upd H b (.lst [.int x, .int y, .int (z + 1)])) b [.int x, .int y, .int (z + 1)] := .inl (.inl upd_same)
      -- one
      refine ⟨.ref b, rfl, b, _, 1, .int y, rfl, rfl, hu, atI_nat (j := 1) rfl, _, _, rfl, rfl, .inr ⟨by decide, by decide⟩, .ref b, rfl, b, _, 2, .int (z + 1), rfl, rfl, hu, atI_nat (j := 2) rfl, _, _, rfl, rfl, .inl ⟨by decide, by decide⟩,
        _, _, rfl, rfl, .inl ⟨_, rfl, _, _, rfl, rfl, (show (0 : Int) < 2305843009213693951 by decide), ?_⟩⟩
      generalize e1 : (y * 48271 + 900000011 * (z + 1)) % 2305843009213693951 = o
      have o0 : 0 ≤ o := e1 ▸ Int.emod_nonneg _ (by decide)
      have o1 : o < 2305843009213693951 := e1 ▸ Int.emod_lt_of_pos _ (by decide)
      -- two
      refine ⟨_, rfl, _, rfl, _, _, rfl, rfl, .inl ⟨by omega, by omega⟩, .inl ⟨_, rfl, _, _, rfl, rfl, (show (0 : Int) < 2305843009213693921 by decide), .ref b, rfl, b, _, 2, .int (z + 1), rfl, rfl, hu, atI_nat (j := 2) rfl, _, _, rfl, rfl, .inl ⟨by decide, by decide⟩, _, _, rfl, rfl, ?_⟩⟩
      have w0 : 0 ≤ o * o % 2305843009213693921 := Int.emod_nonneg _ (by decide)
      have w1 : o * o % 2305843009213693921 < 2305843009213693921 := Int.emod_lt_of_pos _ (by decide)
      generalize o * o % 2305843009213693921 = r at w0 w1
      -- three
      refine ⟨_, rfl, _, rfl, _, _, rfl, rfl, .inl ⟨by omega, by omega⟩, .inl ⟨_, rfl, _, _, rfl, rfl, (show (0 : Int) < 2305843009213693907 by decide), _, rfl, _, _, rfl, rfl, .inr ⟨by omega, by omega⟩, ?_⟩⟩
      -- the end
      refine ⟨_, rfl, .inl ⟨_, rfl, _, _, rfl, rfl, (show (0 : Int) < 2305843009213693889 by decide), _, _, rfl, rfl, ⟨by decide, by decide⟩, .inl ⟨_, rfl, _, rfl, _, _, rfl, rfl, t0, ?_⟩⟩⟩
      exact q _ _ .upd ⟨_, _, _, upd_same, by omega, by omega⟩ (Int.emod_nonneg _ (by omega)) (Int.emod_lt_of_pos _ t0)
/-! ### _law_is, _law_one -/
theorem scIs : FnScope ["thing", "due"] ["thing", "due"] (defScope s_L_is) := ⟨rfl, rfl, rfl, by decide +kernel, rfl, by decide +kernel, by decide +kernel⟩
def spIs : Sp := fun vs H Q _ => ∃ x y : Bool, vs = [.bl x, .bl y] ∧ Q (.bl (decide (x = y))) H
theorem ok_is {f : Addr} {fd : FuncData} (F : Fun K "_law_is" "_law_is" s_L_is f fd) (mb : mg "bool" = none) (ms : mg "isinstance" = none) :
    FnOk P w K mg base CX0 1 f fd ["thing", "due"] spIs := by
  refine F.ok scIs (fun vs H Q E h => ?_) (fun cdv A outer s H vs Q E hr h => ?_)
  · obtain ⟨x, y, rfl, _⟩ := h
    rfl
  · obtain ⟨x, y, rfl, q⟩ := h
    refine ⟨_, pss_one (ps_ret (pe_and (pe_callB call_isi (by rfl) ms (by decide +kernel) (pa_cons (pv 0) (pa_cons (pe_bltn (by rfl) mb (by decide +kernel) (v := .ty "bool") rfl) pa_nil)))
      (pe_one (pe_cmpR op_eq (pv 0) (pv 1) (nomark _))))), ?_⟩
    refine ⟨_, rfl, .bl x, .ty "bool", _, _, true, rfl, .ty _, .base (.bl x), kit_ty (by decide +kernel), true, rfl, _, rfl, _, rfl, rfl, ?_⟩
    have e : (decide (V.bl x = V.bl y)) = decide (x = y) := by
      cases x <;> cases y <;> rfl
    rw [e]
    exact q
/-- the items of what _law_one draws from -/
def Its (K : PySem.W.Frag) (b : Addr) (H : Hp) (v : V) (xs : List V) : Prop :=
  (∃ a, v = .ref a ∧ a ≠ b ∧ (SqL K H a xs ∨ SqT K H a xs)) ∨ ∃ z : Str, v = .str z ∧ z.length ≤ 100000 ∧ xs = z.cps.toList.map fun c => .str ⟨#[c]⟩
theorem scOne : FnScope ["bag", "items"] ["bag", "items"] (defScope s_L_one) := ⟨rfl, rfl, rfl, by decide +kernel, rfl, by decide +kernel, by decide +kernel⟩
def spOne (K : PySem.W.Frag) : Sp := fun vs H Q _ => ∃ (b : Addr) (v : V) (xs : List V) (n : Nat), vs = [.ref b, v] ∧ Its K b H v xs ∧ xs ≠ [] ∧ xs.length ≤ 100000 ∧ Bag H b n ∧ n ≤ bagMost ∧
  ∀ H' x, Keep b H H' → Bag H' b (n + 1) → x ∈ xs → Q x H'
theorem ok_one {f : Addr} {fd : FuncData} (F : Fun K "_law_one" "_law_one" s_L_one f fd) (ml : mg "len" = none) (cR : Cal P w K mg base 1 "_law_roll" spRoll) :
    FnOk P w K mg base CX0 2 f fd ["bag", "items"] (spOne K) := by
  refine F.ok scOne (fun vs H Q E h => ?_) (fun cdv A outer s H vs Q E hr h => ?_)
  · obtain ⟨b, v, xs, n, rfl, _⟩ := h
    rfl
  · obtain ⟨b, v, xs, n, rfl, it, ne, sz, g, nm, q⟩ := h
    have pos : 0 < xs.length := List.length_pos_iff.mpr ne
    refine ⟨_, pss_one (ps_ret (pe_ix ix_seq (pv 1) (C8.pe_c cR hr (by omega) (by rfl) (pa_cons (pv 0) (pa_cons (pe_callB call_len (by rfl) ml PySem.boot_len (pa_cons (pv 1) pa_nil)) pa_nil))) (fun _ _ => rfl))), ?_⟩
    refine ⟨v, rfl, .ref b, rfl, v, rfl, v, xs.length, rfl, ?_, b, _, n, rfl, by omega, by omega, g, nm, fun H' i kp g' i0 i1 => ?_⟩
    · rcases it with ⟨a, rfl, _, h1 | h1⟩ | ⟨z, rfl, hz, rfl⟩
      · exact .inl ⟨xs, h1, rfl⟩
      · exact .inr ⟨xs, h1, rfl⟩
      · refine ⟨Nat.le_trans hz (by decide), ?_⟩
        rw [List.length_map]
        rfl
    · obtain ⟨j, rfl⟩ : ∃ j : Nat, i = (j : Int) := ⟨i.toNat, by omega⟩
      have lj : j < xs.length := by omega
      have at_ : xs[j]? = some xs[j] := List.getElem?_eq_getElem lj
      have fin := q H' xs[j] kp g' (List.getElem_mem lj)
      rcases it with ⟨a, rfl, ab, h1 | h1⟩ | ⟨z, rfl, hz, rfl⟩
      · exact .inl ⟨a, xs, _, xs[j], rfl, rfl, sqL_keep kp ab h1, atI_nat at_, fin⟩
      · exact .inr (.inl ⟨a, xs, _, xs[j], rfl, rfl, sqT_keep kp ab h1, atI_nat at_, fin⟩)
      · have lz : j < z.cps.toList.length := by simpa using lj
        refine .inr (.inr ⟨z, _, z.cps.toList[j], rfl, rfl, Nat.le_trans hz (by decide), atI_nat (List.getElem?_eq_getElem lz), ?_⟩)
        simpa using fin
/-! ### _law_word, _law_names -/
theorem scWord : FnScope ["bag", "turn"] ["bag"] (defScope s_L_word) := ⟨rfl, rfl, rfl, by decide +kernel, rfl, by decide +kernel, by decide +kernel⟩
def spWord : Sp := fun vs H Q _ => ∃ (b : Addr) (n : Nat), vs = [.ref b] ∧ Bag H b n ∧ n + 10 ≤ bagMost ∧ ∀ H' z, Keep b H H' → Bag H' b (n + 8) → WordOk z → Q (.str z) H'
theorem ok_word {f : Addr} {fd : FuncData} (F : Fun K "_law_word" "_law_word" s_L_word f fd) (mr : mg "range" = none) (cR : Cal P w K mg base 1 "_law_roll" spRoll) (cO : Cal P w K mg base 2 "_law_one" (spOne K)) :
    FnOk P w K mg base CX0 3 f fd ["bag"] spWord := by
  refine F.ok scWord (fun vs H Q E h => ?_) (fun cdv A outer s H vs Q E hr h => ?_)
  · obtain ⟨b, n, rfl, _⟩ := h
    rfl
  · obtain ⟨b, n, rfl, g, nm, q⟩ := h
    refine ⟨_, pss_one (ps_ret (pe_join pe_str (pe_lc (own := [("turn", 1)]) (g := gName 1) (tt := tYes) rfl scWord.nd
      (pi_range1 (by rfl) mr (pa_cons (pe_op op_add pe_int (C8.pe_c cR hr (by omega) (by rfl) (pa_cons (pv 0) (pa_cons pe_int pa_nil)))) pa_nil))
      (blkOk_by (N := ["bag", "turn"]) (sc := defScope s_L_word) (by decide +kernel)) (fun _ _ _ _ _ => pg_name (i := 1) scWord.nd rfl (Or.inl rfl)) (fun _ _ _ _ _ => pts_nil)
      (fun _ _ _ _ _ => C8.pe_c cO hr (by omega) (by rfl) (pa_cons (pv 0) (pa_cons pe_str pa_nil)))))), ?_⟩
    refine ⟨⟨_, rfl⟩, _, rfl, b, 7, n, rfl, by decide, by decide, g, by omega, fun H1 m kp1 g1 m0 m1 => ?_⟩
    refine ⟨_, _, rfl, rfl, _, rfl, by omega, by omega, fun D nD => ?_⟩
    have Db : b ≠ D := g1.ne nD
    have nD0 : H D = none := by
      cases e : H D with
      | none => rfl
      | some o => rw [kp1 D o Db.symm e] at nD; cases nD
    refine lc_range (n := (1 + m).toNat) (fun i H' => ∃ ws : List Nat, ws.length = i ∧ (∀ c ∈ ws, c ∈ sixL) ∧ H' D = some (.lst ((ws.map fun c => (⟨#[c]⟩ : Str)).map V.str)) ∧ Keep b H H' ∧ Bag H' b (n + 1 + i))
      ⟨[], rfl, (fun c h => nomatch h), upd_same, keep_put kp1 nD0, g1.new nD⟩ (fun i H' hi hP => ?_) (fun H' hP => ?_)
    · obtain ⟨ws, el, hw, hD, kp, g'⟩ := hP
      refine ⟨rfl, _, rfl, b, _, _, n + 1 + i, rfl, .inr ⟨_, rfl, by decide +kernel, rfl⟩, by decide +kernel, by decide +kernel, g', by omega, fun H2 x kp2 g2 hx => ?_⟩
      obtain ⟨c, hc, rfl⟩ := List.mem_map.mp hx
      have hD2 := kp2 D _ Db.symm hD
      refine ⟨_, hD2, ?_, ws ++ [c], by rw [List.length_append, el] <;> rfl, fun d hd => ?_, ?_, keep_put (kp.trans kp2) nD0, (g2.put Db).mono (by omega)⟩
      · rw [List.length_map, List.length_map, el]
        exact small1000 (by omega)
      · rcases List.mem_append.mp hd with hd | hd
        · exact hw d hd
        · rw [List.mem_singleton] at hd
          exact hd ▸ hc
      · rw [upd_same, List.map_append, List.map_append]
        rfl
    · obtain ⟨ws, el, hw, hD, kp, g'⟩ := hP
      refine ⟨_, D, ws.map fun c => ⟨#[c]⟩, rfl, rfl, .inl (.inl (.inl hD)), ?_, q H' _ kp (g'.mono (by omega)) ?_⟩
      · rw [ones_sum, List.length_map]
        show ws.length + ws.length * 0 ≤ _
        omega
      · refine ⟨?_, ?_, ?_⟩
        · rw [cs_len, join_ones]
          omega
        · rw [cs_len, join_ones]
          omega
        · rw [join_ones]
          exact hw
theorem front_take {z : Str} (h : WordOk z) : ∃ front : List Nat, cs (cutS (txtRep z 2) none (some 7)) = front ∧ 2 ≤ front.length ∧ front.length ≤ 7 ∧ ∀ d ∈ front, d ∈ sixL := by
  obtain ⟨h1, h2, h3⟩ := h
  rw [cs_len] at h1 h2
  refine ⟨_, rfl, ?_⟩
  have e : cs (cutS (txtRep z 2) none (some 7)) = (cs z ++ cs z).take 7 := by
    have e1 : cs (txtRep z 2) = cs z ++ cs z := by
      rw [cs_rep]
      simp
    unfold cutS
    rw [cs_mk, HT.sIx_none, show HT.sIx (txtRep z 2).length (txtRep z 2).length (some 7) = min 7 (txtRep z 2).length from HT.sIx_nat _ _ 7, Nat.sub_zero, List.drop_zero]
    show List.take (min 7 (txtRep z 2).length) (cs (txtRep z 2)) = _
    rw [cs_len, ← List.take_take, List.take_length, e1]
  rw [e]
  refine ⟨by rw [List.length_take, List.length_append]; omega, by rw [List.length_take]; omega, fun d hd => ?_⟩
  rcases List.mem_append.mp (List.mem_of_mem_take hd) with q | q
  · exact h3 d q
  · exact h3 d q
theorem scNames : FnScope ["bag", "many", "turn"] ["bag", "many"] (defScope s_L_names) := ⟨rfl, rfl, rfl, by decide +kernel, rfl, by decide +kernel, by decide +kernel⟩
def spNames : Sp := fun vs H Q _ => ∃ (b : Addr) (m n : Nat), vs = [.ref b, .int (m : Int)] ∧ m ≤ 8 ∧ Bag H b n ∧ n + 100 ≤ bagMost ∧
  ∀ H' p zs, Keep b H H' → H p = none → Bag H' b (n + 8 * m) → H' p = some (.lst (zs.map V.str)) → zs.length = m → NamesOk zs → Q (.ref p) H'
theorem ok_names {f : Addr} {fd : FuncData} (F : Fun K "_law_names" "_law_names" s_L_names f fd) (mr : mg "range" = none) (cW : Cal P w K mg base 3 "_law_word" spWord) :
    FnOk P w K mg base CX0 4 f fd ["bag", "many"] spNames := by
  refine F.ok scNames (fun vs H Q E h => ?_) (fun cdv A outer s H vs Q E hr h => ?_)
  · obtain ⟨b, m, n, rfl, _⟩ := h
    rfl
  · obtain ⟨b, m, n, rfl, m8, g, nm, q⟩ := h
    refine ⟨_, pss_one (ps_ret (pe_lc (own := [("turn", 2)]) (g := gName 2) (tt := tYes) rfl scNames.nd (pi_range1 (by rfl) mr (pa_cons (pv 1) pa_nil))
      (blkOk_by (N := ["bag", "many", "turn"]) (sc := defScope s_L_names) (by decide +kernel)) (fun _ _ _ _ _ => pg_name (i := 2) scNames.nd rfl (Or.inl rfl)) (fun _ _ _ _ _ => pts_nil)
      (fun _ _ _ _ _ => pe_op op_add_str (pe_slice sl_str (pe_op op_repS (C8.pe_c cW hr (by omega) (by rfl) (pa_cons (pv 0) pa_nil)) pe_int) po_none (po_some pe_int)) (pe_ix ix_str pe_str (pv 2) (fun _ _ => rfl))))), ?_⟩
    refine ⟨_, rfl, _, rfl, by omega, by omega, fun D nD => ?_⟩
    have Db : b ≠ D := g.ne nD
    refine lc_range (n := ((m : Nat) : Int).toNat) (fun i H' => ∃ zs : List Str, zs.length = i ∧ NamesOk zs ∧ H' D = some (.lst (zs.map V.str)) ∧ Keep b H H' ∧ Bag H' b (n + 8 * i))
      ⟨[], rfl, (fun i z h => nomatch h), upd_same, keep_new nD, g.new nD⟩ (fun i H' hi hP => ?_) (fun H' hP => ?_)
    · obtain ⟨zs, el, hz, hD, kp, g'⟩ := hP
      have im : i < m := by omega
      refine ⟨rfl, _, rfl, b, n + 8 * i, rfl, g', by omega, fun H2 z kp2 g2 wz => ?_⟩
      have zl := wz.1
      have zl2 := wz.2.1
      refine ⟨z, 2, rfl, rfl, by decide, by decide, by omega, by omega, 7, rfl, _, rfl, ?_, ?_⟩
      · rw [cs_len, cs_rep]
        simp only [List.length_flatten, List.map_replicate, List.sum_replicate_nat]
        rw [← cs_len, sizeLine_eq]
        omega
      obtain ⟨front, ef, f1, f2, f3⟩ := front_take wz
      obtain ⟨c, hc⟩ : ∃ c, endsL[i]? = some c := by
        have : i < endsL.length := by
          have : endsL.length = 8 := by decide +kernel
          omega
        exact ⟨_, List.getElem?_eq_getElem this⟩
      refine ⟨_, rfl, _, _, c, rfl, rfl, by decide +kernel, ?_, _, _, rfl, rfl, ?_, ?_⟩
      · show atI endsL ((0 : Int) + (i : Int)) = some c
        rw [Int.zero_add]
        exact atI_nat hc
      · rw [cs_len, ef, sizeLine_eq]
        show front.length + 1 ≤ _
        omega
      · have hD2 := kp2 D _ Db.symm hD
        refine ⟨_, hD2, ?_, zs ++ [cutS (txtRep z 2) none (some 7) ++ ⟨#[c]⟩], by rw [List.length_append, el] <;> rfl, hz.snoc ⟨front, c, ?_, f1, f2, f3, el ▸ hc⟩, ?_, keep_put (kp.trans kp2) nD, (g2.put Db).mono (by omega)⟩
        · rw [List.length_map, el]
          exact small1000 (by omega)
        · rw [cs_app, ef]
        · rw [upd_same, List.map_append]
          rfl
    · obtain ⟨zs, el, hz, hD, kp, g'⟩ := hP
      rw [Int.toNat_natCast] at el g'
      exact q H' D zs kp nD g' hD el hz
/-! ### is_name -/
/-- what stands in the written part: the module's constants -/
def WrT (K : PySem.W.Frag) (a : Addr) (xs : List V) : Prop := ∃ (o : Obj) (its : Array Value) (n : Nat), K.lookup a = some o ∧ o.cls = .type "tuple" ∧ o.data = .seq its n ∧ its.size ≤ sizeLine ∧ Vals xs its.toList
structure NameTxt (K : PySem.W.Frag) (mg : Str → Option Value) : Prop where
  kw : ∃ a, mg "KEYWORDS" = some (.ref a) ∧ WrT K a (keywordsL.map V.str)
  le : ∃ t, mg "LETTERS" = some (.str "abcdefghijklmnopqrstuvwxyz" t)
  ml : ∃ t, mg "MAX_LETTERS" = some (.int 8 t)
  isi : mg "isinstance" = none
  str : mg "str" = none
  len : mg "len" = none
  all : mg "all" = none
theorem scIsName : FnScope ["value", "letter"] ["value"] (defScope s_is_name) := ⟨rfl, rfl, rfl, by decide +kernel, rfl, by decide +kernel, by decide +kernel⟩
def spIsName : Sp := fun vs H Q _ => ∃ v, vs = [v] ∧ Dat H v ∧ ∀ H', Same H H' → Q (.bl (nameV v)) H'
theorem ok_isName {f : Addr} {fd : FuncData} (F : Fun K "is_name" "is_name" s_is_name f fd) (T : NameTxt K mg) : FnOk P w K mg base CX0 1 f fd ["value"] spIsName := by
  obtain ⟨⟨kw, gK, wK⟩, ⟨tl, gL⟩, ⟨tm, gM⟩, mI, mS, mL, mA⟩ := T
  refine F.ok scIsName (fun vs H Q E h => ?_) (fun cdv A outer s H vs Q E hr h => ?_)
  · obtain ⟨v, rfl, _⟩ := h
    rfl
  · obtain ⟨v, rfl, dv, q⟩ := h
    refine ⟨_, pss_cons (ps_if (PW.pt (pw_or (pt_not (pt_val (pe_callB call_isi (by rfl) mI (by decide +kernel) (pa_cons (pv 0) (pa_cons (pe_bltn (by rfl) mS (by decide +kernel) (v := .ty "str") rfl) pa_nil)))))
          (pw_or1 (pt_not (pt_chain op_le op_le pe_int (pe_callB call_len (by rfl) mL PySem.boot_len (pa_cons (pv 0) pa_nil)) (pe_glob (v := .int 8) (by rfl) gM ⟨_, rfl⟩))))))
        (pss_one (ps_ret pe_bl)) pss_nil)
      (pss_one (ps_ret (pe_and (pe_cmpR op_notIn_seq (pv 0) (pe_glob (v := .ref kw) (by rfl) gK rfl) (by rfl)) (pe_one (pe_callB (cr_all rfl) (by rfl) mA (by decide +kernel)
        (pa_cons (pe_lc (own := [("letter", 1)]) (g := gName 1) (tt := tYes) rfl scIsName.nd (pi_str (pv 0))
          (blkOk_by (N := ["value", "letter"]) (sc := defScope s_is_name) (by decide +kernel)) (fun _ _ _ _ _ => pg_name (i := 1) scIsName.nd rfl (Or.inl rfl)) (fun _ _ _ _ _ => pts_nil)
          (fun _ _ _ _ _ => pe_cmpR op_in_sign (pv 1) (pe_glob (v := .str (Str.ofString "abcdefghijklmnopqrstuvwxyz")) (by rfl) gL ⟨_, rfl⟩) (by rfl))) pa_nil)))))), ?_⟩
    by_cases hs : ∃ z, v = .str z
    · obtain ⟨z, rfl⟩ := hs
      have zl : z.length ≤ 100000 := dv
      refine ⟨_, rfl, .str z, .ty "str", _, _, true, rfl, .ty _, .base (.str z), kit_ty (by decide +kernel), true, rfl, ?_⟩
      refine ⟨_, rfl, .str z, _, rfl, ⟨Nat.le_trans zl (by decide), rfl⟩, 1, _, rfl, rfl, _, rfl, ite2 (fun e1 => ?_) (fun e1 => ?_)⟩
      · refine ⟨_, _, rfl, rfl, _, rfl, ?_⟩
        show if (!decide ((z.length : Int) ≤ 8)) = true then _ else _
        by_cases h8 : z.length ≤ 8
        · rw [if_neg (by simp; omega)]
          refine ⟨_, rfl, kw, _, rfl, .inr (.inr wK), rfl, strs_all_flat _, _, rfl, ?_⟩
          show if (!inV (.str z) (keywordsL.map V.str)) = true then _ else _
          rw [inV_strs]
          have h1 : 1 ≤ z.length := by
            have := of_decide_eq_true e1
            omega
          by_cases hk : z ∈ keywordsL
          · rw [decide_eq_true hk]
            refine iteF ?_
            have e : nameV (.str z) = false := by
              show isName z = false
              unfold isName
              rw [decide_eq_true hk]
              simp
            rw [← e]
            exact q H (.refl H)
          · rw [decide_eq_false hk]
            refine iteT ?_
            refine ⟨_, rfl, _, rfl, fun D nD => ?_⟩
            refine lc_vals walk_signs (fun _ => true) (fun x => .bl (letterV x)) (by rw [signs_len, ← cs_len]; exact zl) nD (fun _ _ => trivial) (fun x H2 Ky Kn hx sm k1 k0 => ?_) (fun H' sm e => ?_)
            · obtain ⟨c, hc, rfl⟩ := List.mem_map.mp hx
              refine ⟨rfl, _, rfl, c, _, rfl, rfl, ?_⟩
              have e : letterV (.str ⟨#[c]⟩) = decide (c ∈ lettersL) := letterV_one c
              have k2 := k1 H2 (.refl H2) rfl
              rw [e] at k2
              exact k2
            · rw [bools_all] at e
              refine ⟨D, (signs z).map letterV, rfl, .inl (.inl e), ?_⟩
              have e2 : ((signs z).map letterV).all id = nameV (.str z) := by
                show _ = isName z
                unfold isName
                rw [decide_eq_true h1, decide_eq_true h8, decide_eq_false hk, letters_all]
                rfl
              rw [e2]
              exact q H' sm
        · rw [if_pos (by simp; omega)]
          have e : nameV (.str z) = false := by
            show isName z = false
            unfold isName
            rw [decide_eq_false h8]
            simp
          rw [← e]
          exact q H (.refl H)
      · refine ⟨false, rfl, iteT ?_⟩
        have e : nameV (.str z) = false := by
          show isName z = false
          unfold isName
          rw [decide_eq_false (show ¬ 1 ≤ z.length from fun h => e1 (decide_eq_true (by omega)))]
          rfl
        show Q (.bl false) H
        rw [← e]
        exact q H (.refl H)
    · obtain ⟨t, ty, kt⟩ := dat_not_str (K := K) dv hs
      refine ⟨_, rfl, v, .ty "str", _, _, false, rfl, .ty _, ty, kt, false, rfl, ?_⟩
      have e : nameV v = false := by
        cases v with
        | str z => exact absurd ⟨z, rfl⟩ hs
        | _ => rfl
      show Q (.bl false) H
      rw [← e]
      exact q H (.refl H)
/-! ### _law_bag -/
theorem scBag : FnScope ["script", "at", "cell", "great"] ["script", "at"] (defScope s_L_bag) := ⟨rfl, rfl, rfl, by decide +kernel, rfl, by decide +kernel, by decide +kernel⟩
def spBag (K : PySem.W.Frag) : Sp := fun vs H Q _ => ∃ (a : Addr) (ns : List Int) (i : Nat), vs = [.ref a, .int (i : Int)] ∧ SqL K H a (ns.map V.int) ∧
  ∀ H' p, Same H H' → H p = none → Bag H' p 0 → Q (.ref p) H'
theorem ok_bag {f : Addr} {fd : FuncData} (F : Fun K "_law_bag" "_law_bag" s_L_bag f fd) (ml : mg "len" = none) (mi : mg "int" = none) (ma : mg "abs" = none) (mx : mg "max" = none) :
    FnOk P w K mg base CX0 1 f fd ["script", "at"] (spBag K) := by
  refine F.ok scBag (fun vs H Q E h => ?_) (fun cdv A outer s H vs Q E hr h => ?_)
  · obtain ⟨a, ns, i, rfl, _⟩ := h
    rfl
  · obtain ⟨a, ns, i, rfl, hS, q⟩ := h
    refine ⟨_, Evl.pss_cut (ps_set (i := 2) scBag.nd rfl (.inl rfl) (pe_ifExp (pt_cmpR op_lt (pv 1) (pe_callB call_len_seq (by rfl) ml PySem.boot_len (pa_cons (pv 0) pa_nil)) (nomark _))
          (pe_ix ix_list (pv 0) (pv 1) (fun _ _ => rfl)) (pe_op op_add (pe_op op_mul pe_int (pv 1)) pe_int)))
      (pss_cons (ps_set (i := 3) scBag.nd rfl (.inl rfl) (pe_op op_mod (pe_callTy call_int1 (by rfl) mi boot_int (pa_cons (pe_callB call_abs (by rfl) ma (by decide +kernel) (pa_cons (pv 2) pa_nil)) pa_nil)) (pe_op op_powW (pe_op op_pow pe_int pe_int) pe_int)))
      (pss_one (ps_ret (pe_lst (pa_cons (pe_callB (call_max2 rfl) (by rfl) mx (by decide +kernel) (pa_cons pe_int (pa_cons (pe_op op_sub (pv 3) (pe_op op_pow pe_int pe_int)) pa_nil)))
        (pa_cons (pe_op op_add (pe_op op_add (pe_op op_mul (pe_op op_mod (pe_callTy call_int1 (by rfl) mi boot_int (pa_cons (pv 3) pa_nil)) pe_int) pe_int) (pe_op op_mul pe_int (pv 1)))
            (pe_callTy call_int1 (by rfl) mi boot_int (pa_cons (pe_cmpR op_lt (pv 2) pe_int (nomark _)) pa_nil)))
          (pa_cons pe_int pa_nil))))))), ?_⟩
    refine ⟨fun σ' H' => ∃ c : Int, σ' = [some (.ref a), some (.int i), some (.int c), none] ∧ H' = H, ?_, ?_⟩
    · refine ⟨_, rfl, .ref a, rfl, a, _, rfl, .inl hS, _, _, rfl, rfl, _, rfl, ite2 (fun e => ?_) (fun e => ?_)⟩
      · have lt : i < ns.length := by
          have e1 := of_decide_eq_true e
          rw [List.length_map] at e1
          omega
        exact ⟨_, rfl, _, rfl, a, _, _, _, rfl, rfl, hS, atI_nat (by rw [List.getElem?_map, List.getElem?_eq_getElem lt] <;> rfl), _, rfl, rfl⟩
      · exact ⟨_, rfl, _, _, rfl, rfl, .inl ⟨by decide, by decide⟩, _, _, rfl, rfl, _, rfl, rfl⟩
    · rintro σ' H' ⟨c, rfl, rfl⟩
      refine ⟨_, rfl, _, rfl, .inl ⟨_, rfl, 10, 60, rfl, rfl, ⟨by decide, by decide, by decide⟩, _, 9, rfl, rfl, ⟨by decide, by decide +kernel⟩, _, _, rfl, rfl, (show (0 : Int) < ((10 : Int) ^ (60 : Int).toNat) ^ (9 : Int).toNat by decide +kernel), ?_⟩⟩
      generalize ((if c < 0 then -c else c) % (10 ^ (60 : Int).toNat) ^ (9 : Int).toNat) = g
      refine ⟨_, rfl, 10, 18, rfl, rfl, ⟨by decide, by decide, by decide⟩, _, _, rfl, rfl, _, _, rfl, ?_⟩
      refine ⟨_, rfl, .inl ⟨_, rfl, _, _, rfl, rfl, (show (0 : Int) < 2305843009213693907 by decide), _, _, rfl, rfl, .inr ⟨by decide, by decide⟩, _, rfl, _, _, rfl, rfl, .inl ⟨by decide, by decide⟩, _, _, rfl, rfl, ?_⟩⟩
      refine ⟨_, rfl, _, _, rfl, rfl, .inr ⟨_, rfl, _, _, rfl, rfl, ?_⟩⟩
      refine ⟨(show 3 ≤ sizeLine by decide), fun p hp => ?_⟩
      exact q _ p (same_upd hp) hp ⟨_, _, _, upd_same, by decide, by decide⟩
theorem roomN {n : Nat} {A : Around} (hr : Room n A) : A.units < cLine := by
  have := hr.un
  omega
theorem roomI {n : Nat} {A : Around} (hr : Room n A) : A.units + 1 < cLine := by
  have := hr.un
  omega
/-- a call without arguments -/
theorem pe_c0 {X : Cx} {k j : Nat} {x : Str} {sp : Sp} {dvs : List V} {p pos : Pos} (c : C8.Cal X.prog X.w X.K X.mg X.base k x sp dvs) (hr : Room j X.A) (hk : k ≤ j) (hg : Gl X x) (hdb : (x == ("__debug__" : Str)) = false := by decide) :
    PE X (.Call (.Name x p) [] [] pos) (tCall sp dvs C8.E0 tNil) := by
  obtain ⟨f, fd, ps, ds, F, hm, kp, b, d⟩ := c.ex
  exact pe_call0 F (hr.mono hk) hg hm kp b d C8.pass0 hdb
/-! ### what isinstance tells of data -/
def isBl : V → Bool | .bl _ => true | _ => false
def isNum : V → Bool | .bl _ => true | .int _ => true | _ => false
def isTxt : V → Bool | .str _ => true | _ => false
theorem dat_is {K : PySem.W.Frag} {H : Hp} {v : V} (d : Dat H v) : ∃ t, TyX K H v (.type t) ∧ PySem.W.kitOne K (.type t) (.type "bool") = some (isBl v) ∧ PySem.W.kitOne K (.type t) (.type "int") = some (isNum v) ∧ PySem.W.kitOne K (.type t) (.type "str") = some (isTxt v) := by
  cases v with
  | non => exact ⟨_, .base .non, (kit_ty (r := false) (by decide +kernel)), (kit_ty (r := false) (by decide +kernel)), (kit_ty (r := false) (by decide +kernel))⟩
  | bl b => exact ⟨_, .base (.bl b), (kit_ty (r := true) (by decide +kernel)), (kit_ty (r := true) (by decide +kernel)), (kit_ty (r := false) (by decide +kernel))⟩
  | int i => exact ⟨_, .base (.int i), (kit_ty (r := false) (by decide +kernel)), (kit_ty (r := true) (by decide +kernel)), (kit_ty (r := false) (by decide +kernel))⟩
  | str z => exact ⟨_, .base (.str z), (kit_ty (r := false) (by decide +kernel)), (kit_ty (r := false) (by decide +kernel)), (kit_ty (r := true) (by decide +kernel))⟩
  | ref a =>
    rcases d with ⟨xs, e⟩ | ⟨xs, e⟩ | ⟨xs, e⟩
    · exact ⟨_, .base (.lst e), (kit_ty (r := false) (by decide +kernel)), (kit_ty (r := false) (by decide +kernel)), (kit_ty (r := false) (by decide +kernel))⟩
    · exact ⟨_, .base (.tup e), (kit_ty (r := false) (by decide +kernel)), (kit_ty (r := false) (by decide +kernel)), (kit_ty (r := false) (by decide +kernel))⟩
    · exact ⟨_, .base (.dK e), (kit_ty (r := false) (by decide +kernel)), (kit_ty (r := false) (by decide +kernel)), (kit_ty (r := false) (by decide +kernel))⟩
  | byt b => exact False.elim d
  | flt b => exact False.elim d
  | ty n => exact False.elim d
/-! ### slices and sums of tuples, their place left open -/
theorem cutV_sub (xs : List V) (lo hi : Option Int) : (∀ x ∈ cutV xs lo hi, x ∈ xs) ∧ (cutV xs lo hi).length ≤ xs.length := by
  unfold cutV
  refine ⟨fun x hx => List.mem_of_mem_drop (List.mem_of_mem_take hx), ?_⟩
  rw [List.length_take, List.length_drop]
  omega
section
variable {X : Cx}
/-- t[lo:hi], the place of it left open -/
def rSlU (K : PySem.W.Frag) : V → Option Int → Option Int → Hp → VK → Prop := fun x lo hi H Q => ∃ a xs, x = .ref a ∧ H a = some (.tup xs) ∧ ∀ c H', Same H H' → H' c = some (.tup (cutV xs lo hi)) → Q (.ref c) H'
theorem sl_tupU : SlR X (rSlU X.K) := by
  intro pins s σ H x v vl vu lo hi sl Q I rx hs pl pu h
  obtain ⟨a, xs, rfl, hx, q⟩ := h
  refine sl_tupA pins s σ H _ v vl vu lo hi sl Q I rx hs pl pu ⟨a, xs, rfl, .inl (.inl hx), fun hw => q a H (.refl H) ?_, fun _ p np => q p _ (same_upd np) upd_same⟩
  have e : cutV xs lo hi = xs := by
    unfold cutV
    rw [hw.1, hw.2, List.drop_zero, Nat.sub_zero, List.take_length]
  rw [e]
  exact hx
/-- t + u, the place of it left open -/
def rCatU (K : PySem.W.Frag) : R2 := fun x y H Q => ∃ a b xs ys, x = .ref a ∧ y = .ref b ∧ H a = some (.tup xs) ∧ H b = some (.tup ys) ∧ xs.length + ys.length ≤ sizeLine ∧ ∀ c H', Same H H' → H' c = some (.tup (xs ++ ys)) → Q (.ref c) H'
theorem op_catU : OpR X (binaryOp .Add) (rCatU X.K) := by
  intro pins s σ H x y v u Q I rx ry h
  obtain ⟨a, b, xs, ys, rfl, rfl, ha, hb, hz, q⟩ := h
  refine op_catA pins s σ H _ _ v u Q I rx ry ⟨a, b, xs, ys, rfl, rfl, .inl (.inl ha), .inl (.inl hb), hz, fun e => ?_, fun _ e => ?_, fun _ _ p np => q p _ (same_upd np) upd_same⟩
  · subst e
    exact q b H (.refl H) hb
  · subst e
    exact q a H (.refl H) (by rw [List.append_nil]; exact ha)
end
/-! ### is_any_part of any data -/
theorem dat_x {K : PySem.W.Frag} {H : Hp} {v : V} (d : Dat H v) : DatX K H v := by
  cases v with
  | ref a =>
    rcases d with ⟨xs, e⟩ | ⟨xs, e⟩ | ⟨xs, e⟩
    · exact .inl ⟨xs, .inl (.inl e)⟩
    · exact .inr (.inl ⟨xs, .inl (.inl e)⟩)
    · exact .inr (.inr ⟨xs, e⟩)
  | non => exact True.intro
  | bl b => exact True.intro
  | int b => exact True.intro
  | str b => exact True.intro
  | byt b => exact False.elim d
  | flt b => exact False.elim d
  | ty n => exact False.elim d
theorem name_rep {H : Hp} {v : V} {d : Dt} (r : Rep H v d) : nameV v = nameD d := by
  cases r <;> rfl
theorem scAny : FnScope ["value"] ["value"] (defScope s_is_any_part) := ⟨rfl, rfl, rfl, by decide +kernel, rfl, by decide +kernel, by decide +kernel⟩
def spOpen : Sp := fun vs H Q _ => ∃ (v : V) (d : Dt), vs = [v] ∧ Rep H v d ∧ ∀ H', Same H H' → Q (.bl (openD d)) H'
theorem ok_open {f : Addr} {fd : FuncData} (F : Fun K "is_any_part" "is_any_part" s_is_any_part f fd) (cN : Cal P w K mg base 1 "is_name" spIsName) : FnOk P w K mg base CX0 2 f fd ["value"] spOpen := by
  refine F.ok scAny (fun vs H Q E h => ?_) (fun cdv A outer s H vs Q E hr h => ?_)
  · obtain ⟨v, d, rfl, _⟩ := h
    rfl
  · obtain ⟨v, d, rfl, r, q⟩ := h
    refine ⟨_, (pss_one (ps_ret (pe_or (pe_cmpR (op_eqS (roomN hr)) (pv 0) pe_str (nomark _)) (pe_one (C8.pe_c cN hr (by omega) (by rfl) (pa_cons (pv 0) pa_nil)))))), ?_⟩
    refine ⟨_, rfl, _, rfl, dat_x r.dat, _, rfl, ?_⟩
    by_cases hs : v = .str (Str.ofString "")
    · rw [decide_eq_true hs]
      subst hs
      have fin := q H (.refl H)
      cases r
      exact iteT fin
    · rw [decide_eq_false hs]
      refine iteF ⟨_, rfl, v, rfl, r.dat, fun H1 s1 => ?_⟩
      have fin := q H1 s1
      have e : openD d = nameV v := by
        rw [name_rep r]
        cases r with
        | txt l => 
          show (decide (_ = Str.ofString "") || isName _) = isName _
          rw [decide_eq_false (fun e => hs (by rw [e])), Bool.false_or]
        | _ => rfl
      rw [e] at fin
      exact fin
/-! ### _is_variable_role, _begins_with_word -/
theorem scWrd : FnScope ["value"] ["value"] (defScope s__begins_with_word) := ⟨rfl, rfl, rfl, by decide +kernel, rfl, by decide +kernel, by decide +kernel⟩
def spWrd : Sp := fun vs H Q _ => ∃ (v : V) (d : Dt), vs = [v] ∧ Rep H v d ∧ Q (.bl (wordD d).isSome) H
theorem ok_wrd {f : Addr} {fd : FuncData} (F : Fun K "_begins_with_word" "_begins_with_word" s__begins_with_word f fd) (mI : mg "isinstance" = none) (mT : mg "tuple" = none) (mL : mg "len" = none) (mS : mg "str" = none) : FnOk P w K mg base CX0 1 f fd ["value"] spWrd := by
  refine F.ok scWrd (fun vs H Q E h => ?_) (fun cdv A outer s H vs Q E hr h => ?_)
  · obtain ⟨v, d, rfl, _⟩ := h
    rfl
  · obtain ⟨v, d, rfl, r, q⟩ := h
    refine ⟨_, (pss_one (ps_ret (pe_and (pe_callB call_isi (by rfl) mI (by decide +kernel) (pa_cons (pv 0) (pa_cons (pe_bltn (by rfl) mT (by decide +kernel) (v := .ty "tuple") rfl) pa_nil)))
      (pe_and (pe_cmpR op_gt (pe_callB call_len_seq (by rfl) mL PySem.boot_len (pa_cons (pv 0) pa_nil)) pe_int (nomark _)) (pe_one (pe_callB call_isi (by rfl) mI (by decide +kernel) (pa_cons (pe_ix ix_tup (pv 0) pe_int (fun _ _ => rfl)) (pa_cons (pe_bltn (by rfl) mS (by decide +kernel) (v := .ty "str") rfl) pa_nil)))))))), ?_⟩
    have dv := r.dat
    cases r with
    | tup e l ra =>
      refine ⟨_, rfl, _, .ty "tuple", _, _, true, rfl, .ty _, .base (.tup e), kit_ty (by decide +kernel), true, rfl, ?_⟩
      refine ⟨_, rfl, _, _, rfl, .inr (.inl (.inl e)), _, _, rfl, rfl, _, rfl, ?_⟩
      cases ra with
      | nil => exact iteF q
      | cons h t =>
        rename_i x xs d ds
        obtain ⟨ty, tyx, _, _, k3⟩ := dat_is (K := K) h.dat
        refine ite2 (fun _ => ?_) (fun no => absurd (decide_eq_true (by
          rw [List.length_cons]
          omega)) no)
        refine ⟨_, rfl, _, _, 0, x, rfl, rfl, .inl (.inl e), atI_nat (j := 0) rfl, x, .ty "str", _, _, _, rfl, .ty _, tyx, k3, ?_⟩
        cases h <;> exact q
    | txt l => exact ⟨_, rfl, _, .ty "tuple", _, _, false, rfl, .ty _, .base (.str _), kit_ty (by decide +kernel), false, rfl, q⟩
    | non => exact ⟨_, rfl, _, .ty "tuple", _, _, false, rfl, .ty _, .base .non, kit_ty (by decide +kernel), false, rfl, q⟩
    | bl => exact ⟨_, rfl, _, .ty "tuple", _, _, false, rfl, .ty _, .base (.bl _), kit_ty (by decide +kernel), false, rfl, q⟩
    | int => exact ⟨_, rfl, _, .ty "tuple", _, _, false, rfl, .ty _, .base (.int _), kit_ty (by decide +kernel), false, rfl, q⟩
    | lst e => exact ⟨_, rfl, _, .ty "tuple", _, _, false, rfl, .ty _, .base (.lst e), kit_ty (by decide +kernel), false, rfl, q⟩
    | dct e => exact ⟨_, rfl, _, .ty "tuple", _, _, false, rfl, .ty _, .base (.dK e), kit_ty (by decide +kernel), false, rfl, q⟩
/-! ### _has_role, _is_argument, _has_roles, has_step_roles -/
theorem way_in {H : Hp} {v : V} {d : Dt} (r : Rep H v d) : inTxt v [Str.ofString "full", Str.ofString "look"] = wayD d := by
  cases r with
  | txt l =>
    rw [inTxt_str]
    exact decide_eq_decide.mpr (by simp)
  | _ => exact inTxt_other (fun z e => by cases e) _
theorem scRole : FnScope ["item", "role", "argument"] ["item", "role"] (defScope s__has_role) := ⟨rfl, rfl, rfl, by decide +kernel, rfl, by decide +kernel, by decide +kernel⟩
/-- of a role that is told: full, or none but "arguments" -/
def spRole (full : Bool) : Sp := fun vs H Q _ => ∃ (v : V) (d : Dt) (role : Str), vs = [v, .str role] ∧ Rep H v d ∧ (full = true ∨ role ≠ Str.ofString "arguments") ∧ ∀ H', Same H H' → Q (.bl (fullRole role d)) H'
def spArg (on : Bool) : Sp := fun vs H Q _ => on = true ∧ ∃ (v : V) (d : Dt), vs = [v] ∧ Rep H v d ∧ ∀ H', Same H H' → Q (.bl (argD d)) H'
theorem ok_role {f : Addr} {fd : FuncData} {m : Nat} {full : Bool} (hm : 2 ≤ m) (F : Fun K "_has_role" "_has_role" s__has_role f fd) (mI : mg "isinstance" = none) (mT : mg "tuple" = none) (mL : mg "len" = none) (mA : mg "all" = none) (mM : ∃ t, mg "MAX_ARGUMENTS" = some (.int 3 t))
    (cA : Cal P w K mg base m "_is_argument" (spArg full)) (cO : Cal P w K mg base 2 "is_any_part" spOpen) (cN : Cal P w K mg base 1 "is_name" spIsName) : FnOk P w K mg base CX0 (m + 1) f fd ["item", "role"] (spRole full) := by
  obtain ⟨tm, gM⟩ := mM
  refine F.ok scRole (fun vs H Q E h => ?_) (fun cdv A outer s H vs Q E hr h => ?_)
  · obtain ⟨v, d, role, rfl, _⟩ := h
    rfl
  · obtain ⟨v, d, role, rfl, r, on, q⟩ := h
    refine ⟨_, (pss_cons (ps_if (pt_cmpR op_eq (pv 1) pe_str (nomark _)) (pss_cons (ps_if (PW.pt (pw_or (pt_not (pt_val (pe_callB call_isi (by rfl) mI (by decide +kernel) (pa_cons (pv 0) (pa_cons (pe_bltn (by rfl) mT (by decide +kernel) (v := .ty "tuple") rfl) pa_nil)))))
          (pw_or1 (pt_cmpR op_gt (pe_callB call_len_seq (by rfl) mL PySem.boot_len (pa_cons (pv 0) pa_nil)) (pe_glob (v := .int 3) (by rfl) gM ⟨_, rfl⟩) (nomark _))))) (pss_one (ps_ret pe_bl)) pss_nil)
      (pss_one (ps_ret (pe_callB (cr_all rfl) (by rfl) mA (by decide +kernel) (pa_cons (pe_lc (own := [("argument", 2)]) (g := gName 2) (tt := tYes) rfl scRole.nd (pi_tup (pv 0)) (blkOk_by (N := ["item", "role", "argument"]) (sc := defScope s__has_role) (by decide +kernel))
          (fun _ _ _ _ _ => pg_name (i := 2) scRole.nd rfl (Or.inl rfl)) (fun _ _ _ _ _ => pts_nil) (fun _ _ _ _ _ => C8.pe_c cA hr (by omega) (by rfl) (pa_cons (pv 2) pa_nil))) pa_nil))))) pss_nil)
      (pss_cons (ps_if (pt_cmpR op_eq (pv 1) pe_str (nomark _)) (pss_one (ps_ret (pe_cmpR (op_inS (roomI hr)) (pv 0) (pe_tup (pa_cons (pe_str) (pa_cons (pe_str) pa_nil))) (by rfl)))) pss_nil)
      (pss_cons (ps_if (pt_cmpR op_in_seq (pv 1) (pe_tup (pa_cons (pe_str) (pa_cons (pe_str) pa_nil))) (by rfl)) (pss_one (ps_ret (C8.pe_c cO hr (by omega) (by rfl) (pa_cons (pv 0) pa_nil)))) pss_nil)
      (pss_one (ps_ret (C8.pe_c cN hr (by omega) (by rfl) (pa_cons (pv 0) pa_nil))))))), ?_⟩
    have eqT : ∀ x y : Str, decide (V.str x = V.str y) = decide (x = y) := fun x y => decide_eq_decide.mpr ⟨fun h => V.str.inj h, fun h => by rw [h]⟩
    refine ⟨_, rfl, rfl, _, rfl, ?_⟩
    rw [eqT]
    by_cases ha : role = Str.ofString "arguments"
    · rw [decide_eq_true ha]
      have hon : full = true := on.resolve_right fun h => h ha
      have qa : ∀ H', Same H H' → Q (.bl (argsD d)) H' := fun H' s => by
        have := q H' s
        unfold fullRole at this
        rw [if_pos ha] at this
        exact this
      refine iteT ?_
      have dv := r.dat
      cases r with
      | tup e l ra =>
        rename_i a xs ds
        refine ⟨_, rfl, _, .ty "tuple", _, _, true, rfl, .ty _, .base (.tup e), kit_ty (by decide +kernel), true, rfl, ?_⟩
        refine ⟨_, rfl, a, xs, rfl, .inr (.inl (.inl e)), _, _, rfl, rfl, _, rfl, ite2 (fun h => ?_) (fun h => ?_)⟩
        · have h3 : ¬ ds.length ≤ 3 := by
            have := of_decide_eq_true h
            rw [ra.length] at this
            omega
          have fin := qa H (.refl H)
          rw [show argsD (Dt.tup ds) = (decide (ds.length ≤ 3) && ds.all argD) from rfl, decide_eq_false h3] at fin
          exact fin
        · have h3 : ds.length ≤ 3 := by
            have h2 : ¬ ((xs.length : Int) > 3) := fun z => h (decide_eq_true z)
            rw [ra.length] at h2
            omega
          have hq : SqT K H a xs := .inl (.inl e)
          refine ⟨.ref a, rfl, a, rfl, ⟨xs, hq⟩, fun D nD => ?_⟩
          refine lc_gen walk_tup (fun i => ((ds.take i).map argD).map V.bl) rfl (fun i hi => ?_) nD (fun H' sm => sqT_same sm hq) (fun i x H4 H5 Ky Kn hi sm y k1 k0 => ?_) (fun H4 s4 e4 => ?_)
          · rw [List.length_map, List.length_map, List.length_take]
            omega
          · obtain ⟨rfl, hx⟩ := y
            obtain ⟨d, hd, rd⟩ := ra.at hx
            refine ⟨rfl, _, rfl, hon, x, d, rfl, Rep.same sm d x rd, fun H6 s6 => k1 _ _ s6 ?_⟩
            rw [List.take_add_one, hd, List.map_append, List.map_append]
            rfl
          · rw [ra.length, List.take_length] at e4
            refine ⟨D, ds.map argD, rfl, .inl (.inl e4), ?_⟩
            have fin := qa _ s4
            rw [show argsD (Dt.tup ds) = (decide (ds.length ≤ 3) && ds.all argD) from rfl, decide_eq_true h3, Bool.true_and] at fin
            rw [List.all_map]
            exact fin
      | txt l => exact ⟨_, rfl, _, .ty "tuple", _, _, false, rfl, .ty _, .base (.str _), kit_ty (by decide +kernel), false, rfl, qa H (.refl H)⟩
      | non => exact ⟨_, rfl, _, .ty "tuple", _, _, false, rfl, .ty _, .base .non, kit_ty (by decide +kernel), false, rfl, qa H (.refl H)⟩
      | bl => exact ⟨_, rfl, _, .ty "tuple", _, _, false, rfl, .ty _, .base (.bl _), kit_ty (by decide +kernel), false, rfl, qa H (.refl H)⟩
      | int => exact ⟨_, rfl, _, .ty "tuple", _, _, false, rfl, .ty _, .base (.int _), kit_ty (by decide +kernel), false, rfl, qa H (.refl H)⟩
      | lst e => exact ⟨_, rfl, _, .ty "tuple", _, _, false, rfl, .ty _, .base (.lst e), kit_ty (by decide +kernel), false, rfl, qa H (.refl H)⟩
      | dct e => exact ⟨_, rfl, _, .ty "tuple", _, _, false, rfl, .ty _, .base (.dK e), kit_ty (by decide +kernel), false, rfl, qa H (.refl H)⟩
    · rw [decide_eq_false ha]
      have qf : ∀ H', Same H H' → Q (.bl (flatRole role d)) H' := fun H' s => by
        have := q H' s
        unfold fullRole at this
        rw [if_neg ha] at this
        exact this
      refine iteF ⟨_, rfl, rfl, _, rfl, ?_⟩
      rw [eqT]
      by_cases hw : role = Str.ofString "way"
      · rw [decide_eq_true hw]
        refine iteT ⟨_, rfl, (show 2 ≤ sizeLine by decide), fun p np => ?_⟩
        have sp := same_upd (o := HO.tup ([Str.ofString "full", Str.ofString "look"].map V.str)) np
        refine ⟨p, [Str.ofString "full", Str.ofString "look"], rfl, .inl (.inl upd_same), dat_x (r.dat.same sp), ?_⟩
        rw [way_in r]
        have fin := qf _ sp
        unfold flatRole at fin
        rw [if_pos hw] at fin
        exact fin
      · rw [decide_eq_false hw]
        refine iteF ⟨_, rfl, (show 2 ≤ sizeLine by decide), fun p np => ?_⟩
        have sp := same_upd (o := HO.tup ([Str.ofString "part", Str.ofString "target"].map V.str)) np
        refine ⟨p, _, rfl, .inr (.inl (.inl upd_same)), rfl, rfl, _, rfl, ?_⟩
        show if inV (.str role) ([Str.ofString "part", Str.ofString "target"].map V.str) = true then _ else _
        rw [inV_strs]
        have r1 := Rep.same sp d v r
        by_cases hp : role = Str.ofString "part" ∨ role = Str.ofString "target"
        · rw [decide_eq_true (show role ∈ [Str.ofString "part", Str.ofString "target"] by simpa using hp)]
          refine iteT ⟨_, rfl, v, d, rfl, r1, fun H2 s2 => ?_⟩
          have fin := qf _ (sp.trans s2)
          unfold flatRole at fin
          rw [if_neg hw, if_pos hp] at fin
          exact fin
        · rw [decide_eq_false (show ¬ role ∈ [Str.ofString "part", Str.ofString "target"] by simpa using hp)]
          refine iteF ⟨_, rfl, v, rfl, r1.dat, fun H2 s2 => ?_⟩
          have fin := qf _ (sp.trans s2)
          unfold flatRole at fin
          rw [if_neg hw, if_neg hp] at fin
          rw [name_rep r1]
          exact fin
theorem walk_zipT {K : PySem.W.Frag} {a b : Addr} {xs ys : List V} (hl : xs.length = ys.length) : Walk (RZ.ItzT K a b) xs.length (fun H => SqT K H a xs ∧ SqT K H b ys) (YPair (fun i => xs[i]?) (fun i => ys[i]?)) :=
  ⟨fun i _ hi q => ⟨xs, ys, xs[i], ys[i]'(by omega), q.1, q.2, by simp [hi], by simp [show i < ys.length by omega]⟩, fun _ q => ⟨xs, ys, q.1, q.2, .inl (Nat.le_refl _)⟩,
    fun i H v H' _ q y => by
      obtain ⟨T, x, u, h1, h2, h3, h4, h5⟩ := y
      exact ⟨T, x, u, h1, h2, h3, h4 xs q.1, h5 ys q.2⟩⟩
theorem scHas : FnScope ["value", "roles", "item", "role"] ["value", "roles"] (defScope s__has_roles) := ⟨rfl, rfl, rfl, by decide +kernel, rfl, by decide +kernel, by decide +kernel⟩
/-- the roles that are passed -/
def RolesV (K : PySem.W.Frag) (full : Bool) (u : V) (o : Option (List Str)) : Prop := match o with
  | none => u = .non
  | some rs => (∃ b, u = .ref b ∧ WrTup K b (rs.map V.str)) ∧ rs.length ≤ 1000 ∧ ∀ r ∈ rs, full = true ∨ r ≠ Str.ofString "arguments"
def spHas (K : PySem.W.Frag) (full : Bool) : Sp := fun vs H Q _ => ∃ (a : Addr) (xs : List V) (ds : List Dt) (u : V) (o : Option (List Str)), vs = [.ref a, u] ∧ H a = some (.tup xs) ∧ xs.length ≤ 1000 ∧ RepAll H xs ds ∧ RolesV K full u o ∧ ∀ H', Same H H' → Q (.bl (allRoles fullRole o ds)) H'
theorem RepAll.same' {H H' : Hp} {xs : List V} {ds : List Dt} (h : RepAll H xs ds) (k : Same H H') : RepAll H' xs ds := RepAll.same k ds xs h
theorem ok_has {f : Addr} {fd : FuncData} {m : Nat} {full : Bool} (F : Fun K "_has_roles" "_has_roles" s__has_roles f fd) (mL : mg "len" = none) (mA : mg "all" = none) (mz : mg "zip" = none) (cR : Cal P w K mg base m "_has_role" (spRole full)) :
    FnOk P w K mg base CX0 (m + 1) f fd ["value", "roles"] (spHas K full) := by
  refine F.ok scHas (fun vs H Q E h => ?_) (fun cdv A outer s H vs Q E hr h => ?_)
  · obtain ⟨a, xs, ds, u, o, rfl, _⟩ := h
    rfl
  · obtain ⟨a, xs, ds, u, o, rfl, ha, lx, ra, ro, q⟩ := h
    refine ⟨_, (pss_cons (ps_if (PW.pt (pw_or (pt_cmpR op_isN (pv 1) pe_non (nomark _)) (pw_or1 (pt_cmpR op_ne (pe_callB call_len_seq (by rfl) mL PySem.boot_len (pa_cons (pv 0) pa_nil)) (pe_op op_add (pe_callB call_len_seq (by rfl) mL PySem.boot_len (pa_cons (pv 1) pa_nil)) pe_int) (nomark _))))) (pss_one (ps_ret pe_bl)) pss_nil)
      (pss_one (ps_ret (pe_callB (cr_all rfl) (by rfl) mA (by decide +kernel) (pa_cons (pe_lc (own := [("item", 2), ("role", 3)]) (g := gTup K 2 (gCons (gName 2) (gCons (gName 3) gNil))) (tt := tYes) rfl scHas.nd (RZ.pi_zipA (by rfl) mz (pa_cons (pe_slice sl_tupU (pv 0) (po_some pe_int) po_none) (pa_cons (pv 1) pa_nil)))
        (blkOk_by (N := ["value", "roles", "item", "role"]) (sc := defScope s__has_roles) (by decide +kernel)) (fun _ _ _ _ _ => pg_tup rfl (pgs_cons (pg_name (i := 2) scHas.nd rfl (Or.inl rfl)) (pgs_cons (pg_name (i := 3) scHas.nd rfl (Or.inl rfl)) pgs_nil)))
        (fun _ _ _ _ _ => pts_nil) (fun _ _ _ _ _ => C8.pe_c cR hr (by omega) (by rfl) (pa_cons (pv 2) (pa_cons (pv 3) pa_nil)))) pa_nil))))), ?_⟩
    refine ⟨_, rfl, rfl, _, rfl, ?_⟩
    cases o with
    | none =>
      obtain rfl : u = .non := ro
      exact iteT (q H (.refl H))
    | some rs =>
      obtain ⟨⟨b, rfl, wr⟩, lr, on⟩ := ro
      have hb : ∀ H' : Hp, SqT K H' b (rs.map V.str) := fun _ => .inr wr
      refine iteF ⟨_, rfl, a, xs, rfl, .inr (.inl (.inl ha)), _, rfl, b, _, rfl, .inr (hb H), _, _, rfl, rfl, rfl, _, rfl, ?_⟩
      rw [List.length_map]
      have lxd := ra.length
      have key : (!decide (V.int (xs.length : Int) = V.int ((rs.length : Int) + 1))) = !decide (ds.length = rs.length + 1) := by
        congr 1
        refine decide_eq_decide.mpr ⟨fun h => ?_, fun h => ?_⟩
        · have := V.int.inj h
          omega
        · congr 1
          omega
      rw [key]
      by_cases hl : ds.length = rs.length + 1
      · rw [decide_eq_true hl]
        refine iteF ⟨_, rfl, _, rfl, a, xs, rfl, ha, fun c H1 s1 hc => ?_⟩
        have eC : cutV xs (some 1) none = xs.drop 1 := by
          unfold cutV
          rw [show HT.sIx xs.length 0 (some 1) = min 1 xs.length from HT.sIx_nat _ _ 1, HT.sIx_none, Nat.min_eq_left (by omega), List.take_of_length_le (by rw [List.length_drop]; exact Nat.le_refl _)]
        rw [eC] at hc
        have r1 := (ra.same' s1).drop 1
        have lens : (xs.drop 1).length = (rs.map V.str).length := by
          rw [List.length_drop, List.length_map]
          omega
        have qc : SqT K H1 c (xs.drop 1) := .inl (.inl hc)
        refine ⟨_, rfl, c, b, _, _, rfl, .inr ⟨qc, hb H1, fun D nD => ?_⟩⟩
        refine lc_gen (walk_zipT lens) (fun i => ((((ds.drop 1).zip rs).take i).map fun p => fullRole p.2 p.1).map V.bl) rfl (fun i hi => ?_) nD (fun H' sm => ⟨sqT_same sm qc, hb H'⟩) (fun i x H4 H5 Ky Kn hi sm y k1 k0 => ?_) (fun H4 s4 e4 => ?_)
        · rw [List.length_map, List.length_map, List.length_take]
          rw [List.length_drop] at hi
          omega
        · obtain ⟨T, x, y, rfl, nT, rfl, hx, hy⟩ := y
          obtain ⟨d, hd, rd⟩ := r1.at hx
          have hy : (rs.map V.str)[i]? = some y := hy
          rw [List.getElem?_map] at hy
          obtain ⟨role, hrole, rfl⟩ := Option.map_eq_some_iff.mp hy
          have s5 := same_upd (o := HO.tup [x, .str role]) nT
          refine ⟨T, _, rfl, .inl (.inl upd_same), rfl, _, _, rfl, _, _, rfl, rfl, rfl, _, rfl, _, rfl, x, d, role, rfl, Rep.same (sm.trans s5) d x rd, on role (List.mem_of_getElem? hrole), fun H6 s6 => k1 _ _ (s5.trans s6) ?_⟩
          rw [List.take_add_one, show ((ds.drop 1).zip rs)[i]? = some (d, role) from List.getElem?_zip_eq_some.mpr ⟨hd, hrole⟩, List.map_append, List.map_append]
          rfl
        · rw [show (xs.drop 1).length = ((ds.drop 1).zip rs).length by rw [List.length_drop, List.length_zip, List.length_drop]; omega, List.take_length] at e4
          refine ⟨D, ((ds.drop 1).zip rs).map fun p => fullRole p.2 p.1, rfl, .inl (.inl e4), ?_⟩
          have fin := q _ (s1.trans s4)
          rw [show allRoles fullRole (some rs) ds = (decide (ds.length = rs.length + 1) && ((ds.drop 1).zip rs).all fun p => fullRole p.2 p.1) from rfl, decide_eq_true hl, Bool.true_and] at fin
          rw [List.all_map]
          exact fin
      · rw [decide_eq_false hl]
        have fin := q H (.refl H)
        rw [show allRoles fullRole (some rs) ds = (decide (ds.length = rs.length + 1) && ((ds.drop 1).zip rs).all fun p => fullRole p.2 p.1) from rfl, decide_eq_false hl] at fin
        exact iteT fin
/-! ### _is_argument, has_step_roles -/
theorem lookup_mem {z : Str} {rs : List Str} : ∀ {t : List (Str × List Str)}, t.lookup z = some rs → (z, rs) ∈ t
  | [], h => nomatch h
  | (x, r) :: t, h => by
    rw [List.lookup_cons] at h
    by_cases e : z = x
    · subst e
      rw [beq_self_eq_true] at h
      cases h
      exact List.mem_cons_self
    · rw [beq_eq_false_iff_ne.mpr e] at h
      exact List.mem_cons_of_mem _ (lookup_mem h)
/-- of a table's row: it has few roles, of the kind that is let -/
def Rows (full : Bool) (t : List (Str × List Str)) : Prop := ∀ p ∈ t, p.2.length ≤ 1000 ∧ ∀ r ∈ p.2, full = true ∨ r ≠ Str.ofString "arguments"
theorem rows_arg : Rows false argRoles := by
  have h : ∀ p ∈ argRoles, p.2.length ≤ 1000 ∧ ∀ r ∈ p.2, r ≠ Str.ofString "arguments" := by decide +kernel
  exact fun p hp => ⟨(h p hp).1, fun r hr => .inr ((h p hp).2 r hr)⟩
theorem rows_step : Rows true stepRoles := by
  have h : ∀ p ∈ stepRoles, p.2.length ≤ 1000 := by decide +kernel
  exact fun p hp => ⟨h p hp, fun _ _ => .inl rfl⟩
theorem RolesAt.val {K : PySem.W.Frag} {d : Addr} {t : List (Str × List Str)} {full : Bool} (T : RolesAt K w d t) (R : Rows full t) (z : Str) : ∃ (r : Option Value) (v0 : V), PySem.W.nsIn K d z = some r ∧ RelV v0 (r.getD .none) ∧ RolesV K full v0 (t.lookup z) := by
  obtain ⟨f1, f2⟩ := T.get z
  cases e : t.lookup z with
  | none => exact ⟨none, .non, f2 e, rfl, rfl⟩
  | some rs =>
    obtain ⟨a, h1, h2⟩ := f1 rs e
    obtain ⟨l, o⟩ := R _ (lookup_mem e)
    exact ⟨some (.ref a), .ref a, h1, rfl, ⟨a, rfl, h2⟩, l, o⟩
theorem flat_full {rs : List Str} (h : ∀ r ∈ rs, r ≠ Str.ofString "arguments") (ds : List Dt) : allRoles fullRole (some rs) ds = allRoles flatRole (some rs) ds := by
  show (_ && _) = (_ && _)
  congr 1
  rw [Bool.eq_iff_iff, List.all_eq_true, List.all_eq_true]
  refine forall_congr' fun p => forall_congr' fun hp => ?_
  have := h p.2 (List.of_mem_zip hp).2
  unfold fullRole
  rw [if_neg this]
theorem scArg : FnScope ["value"] ["value"] (defScope s__is_argument) := ⟨rfl, rfl, rfl, by decide +kernel, rfl, by decide +kernel, by decide +kernel⟩
theorem ok_arg0 {f : Addr} {fd : FuncData} (F : Fun K "_is_argument" "_is_argument" s__is_argument f fd) : FnOk P w K mg base CX0 2 f fd ["value"] (spArg false) :=
  F.ok scArg (fun vs H Q E h => nomatch h.1) (fun cdv A outer s H vs Q E hr h => nomatch h.1)
theorem ok_arg {f : Addr} {fd : FuncData} {m : Nat} {da : Addr} (hm : 1 ≤ m) (F : Fun K "_is_argument" "_is_argument" s__is_argument f fd) (gA : mg "ARGUMENT_ROLES" = some (.ref da)) (T : RolesAt K w da argRoles)
    (cW : Cal P w K mg base 1 "_begins_with_word" spWrd) (cH : Cal P w K mg base m "_has_roles" (spHas K false)) : FnOk P w K mg base CX0 (m + 1) f fd ["value"] (spArg true) := by
  obtain ⟨es, n, D, en⟩ := T.ex
  refine F.ok scArg (fun vs H Q E h => ?_) (fun cdv A outer s H vs Q E hr h => ?_)
  · obtain ⟨_, v, d, rfl, _⟩ := h
    rfl
  · obtain ⟨_, v, d, rfl, r, q⟩ := h
    refine ⟨_, (pss_one (ps_ret (pe_and (C8.pe_c cW hr (by omega) (by rfl) (pa_cons (pv 0) pa_nil)) (pe_one (C8.pe_c cH hr (by omega) (by rfl) (pa_cons (pv 0) (pa_cons (pe_getK D (pe_glob (v := .ref da) (by rfl) gA rfl) (pe_ix ix_tup (pv 0) pe_int (fun _ _ => rfl))) pa_nil))))))), ?_⟩
    refine ⟨_, rfl, v, d, rfl, r, _, rfl, ?_⟩
    have fin := q
    unfold argD at fin
    cases e : wordD d with
    | none =>
      have := fin H (.refl H)
      rw [e] at this
      exact iteF this
    | some p =>
      obtain ⟨z, ds⟩ := p
      rw [e] at fin
      obtain ⟨a, xs, rfl, ha, lx, ra, h0⟩ : ∃ a xs, v = .ref a ∧ H a = some (.tup xs) ∧ xs.length ≤ 1000 ∧ RepAll H xs ds ∧ xs[0]? = some (.str z) := by
        cases r with
        | tup ea l ra =>
          cases ra with
          | nil => cases e
          | cons h t =>
            cases h with
            | txt lz =>
              cases e
              exact ⟨_, _, rfl, ea, l, .cons (.txt lz) t, rfl⟩
            | _ => cases e
        | _ => cases e
      obtain ⟨ro, v0, hn, rv, rr⟩ := T.val rows_arg z
      refine iteT ⟨_, rfl, _, rfl, a, xs, 0, .str z, rfl, rfl, .inl (.inl ha), atI_nat (j := 0) h0, z, ro, v0, rfl, hn, rv, ?_⟩
      refine ⟨a, xs, ds, v0, argRoles.lookup z, rfl, ha, lx, ra, rr, fun H' s => ?_⟩
      have := fin H' s
      have e2 : allRoles fullRole (argRoles.lookup z) ds = allRoles flatRole (argRoles.lookup z) ds := by
        cases el : argRoles.lookup z with
        | none => rfl
        | some rs => exact flat_full (fun r hr => ((rows_arg _ (lookup_mem el)).2 r hr).resolve_left Bool.false_ne_true) ds
      rw [e2]
      exact this
theorem scStep : FnScope ["value"] ["value"] (defScope s_has_step_roles) := ⟨rfl, rfl, rfl, by decide +kernel, rfl, by decide +kernel, by decide +kernel⟩
def spStep : Sp := fun vs H Q _ => ∃ (v : V) (d : Dt), vs = [v] ∧ Rep H v d ∧ ∀ H', Same H H' → Q (.bl (rolesD d)) H'
theorem ok_step {f : Addr} {fd : FuncData} {m : Nat} {da : Addr} (hm : 1 ≤ m) (F : Fun K "has_step_roles" "has_step_roles" s_has_step_roles f fd) (gA : mg "STEP_ROLES" = some (.ref da)) (T : RolesAt K w da stepRoles)
    (cW : Cal P w K mg base 1 "_begins_with_word" spWrd) (cH : Cal P w K mg base m "_has_roles" (spHas K true)) : FnOk P w K mg base CX0 (m + 1) f fd ["value"] spStep := by
  obtain ⟨es, n, D, en⟩ := T.ex
  refine F.ok scStep (fun vs H Q E h => ?_) (fun cdv A outer s H vs Q E hr h => ?_)
  · obtain ⟨v, d, rfl, _⟩ := h
    rfl
  · obtain ⟨v, d, rfl, r, q⟩ := h
    refine ⟨_, (pss_one (ps_ret (pe_and (C8.pe_c cW hr (by omega) (by rfl) (pa_cons (pv 0) pa_nil)) (pe_one (C8.pe_c cH hr (by omega) (by rfl) (pa_cons (pv 0) (pa_cons (pe_getK D (pe_glob (v := .ref da) (by rfl) gA rfl) (pe_ix ix_tup (pv 0) pe_int (fun _ _ => rfl))) pa_nil))))))), ?_⟩
    refine ⟨_, rfl, v, d, rfl, r, _, rfl, ?_⟩
    have fin := q
    unfold rolesD at fin
    cases e : wordD d with
    | none =>
      have := fin H (.refl H)
      rw [e] at this
      exact iteF this
    | some p =>
      obtain ⟨z, ds⟩ := p
      rw [e] at fin
      obtain ⟨a, xs, rfl, ha, lx, ra, h0⟩ : ∃ a xs, v = .ref a ∧ H a = some (.tup xs) ∧ xs.length ≤ 1000 ∧ RepAll H xs ds ∧ xs[0]? = some (.str z) := by
        cases r with
        | tup ea l ra =>
          cases ra with
          | nil => cases e
          | cons h t =>
            cases h with
            | txt lz =>
              cases e
              exact ⟨_, _, rfl, ea, l, .cons (.txt lz) t, rfl⟩
            | _ => cases e
        | _ => cases e
      obtain ⟨ro, v0, hn, rv, rr⟩ := T.val rows_step z
      refine iteT ⟨_, rfl, _, rfl, a, xs, 0, .str z, rfl, rfl, .inl (.inl ha), atI_nat (j := 0) h0, z, ro, v0, rfl, hn, rv, ?_⟩
      exact ⟨a, xs, ds, v0, stepRoles.lookup z, rfl, ha, lx, ra, rr, fin⟩
/-! ### _is_variable_role, variables_of -/
def roleVar (z : Str) : Bool := decide (z = Str.ofString "target" ∨ z = Str.ofString "variable")
theorem scVr : FnScope ["role"] ["role"] (defScope s__is_variable_role) := ⟨rfl, rfl, rfl, by decide +kernel, rfl, by decide +kernel, by decide +kernel⟩
def spVr : Sp := fun vs H Q _ => ∃ z : Str, vs = [.str z] ∧ ∀ H', Same H H' → Q (.bl (roleVar z)) H'
theorem ok_vr {f : Addr} {fd : FuncData} (F : Fun K "_is_variable_role" "_is_variable_role" s__is_variable_role f fd) : FnOk P w K mg base CX0 1 f fd ["role"] spVr := by
  refine F.ok scVr (fun vs H Q E h => ?_) (fun cdv A outer s H vs Q E hr h => ?_)
  · obtain ⟨z, rfl, _⟩ := h
    rfl
  · obtain ⟨z, rfl, q⟩ := h
    refine ⟨_, (pss_one (ps_ret (pe_cmpR op_in_seq (pv 0) (pe_tup (pa_cons (pe_str) (pa_cons (pe_str) pa_nil))) (by rfl)))), ?_⟩
    refine ⟨_, rfl, (show 2 ≤ sizeLine by decide), fun p np => ?_⟩
    have sp := same_upd (o := HO.tup ([Str.ofString "target", Str.ofString "variable"].map V.str)) np
    refine ⟨p, _, rfl, .inr (.inl (.inl upd_same)), rfl, rfl, ?_⟩
    show Q (.bl (inV (.str z) ([Str.ofString "target", Str.ofString "variable"].map V.str))) _
    rw [inV_strs, show decide (z ∈ [Str.ofString "target", Str.ofString "variable"]) = roleVar z from decide_eq_decide.mpr (by simp)]
    exact q _ sp
/-- texts stand for texts alone -/
theorem rep_txts {H : Hp} : ∀ {xs : List V} {zs : List Str}, RepAll H xs (zs.map Dt.txt) → xs = zs.map V.str
  | [], [], _ => rfl
  | x :: xs, z :: zs, h => by
    rw [List.map_cons] at h
    cases h with
    | cons h1 h2 =>
      cases h1
      rw [rep_txts h2]
      rfl
/-- what a step that is no call is told by, and its roles -/
def StepF.row : StepF → Option (List Str)
  | .new x => some ["new", x]
  | .copy x a p => some ["copy", x, a, p]
  | .take x a p => some ["take", x, a, p]
  | .put a p y => some ["put", a, p, y]
  | .lend r a p => some ["lend", r, a, p]
  | .move x y => some ["move", x, y]
  | .touch a p way => some ["touch", a, p, way]
  | .drop x => some ["drop", x]
  | .call _ _ _ => none
  | .skip => some ["skip"]
  | .ret y => some ["return", y]
theorem row_dt {f : StepF} {zs : List Str} (h : f.row = some zs) : f.dt = txs zs := by
  cases f <;> cases h <;> rfl
theorem row_word {f : StepF} {zs : List Str} (h : f.row = some zs) : ∃ z r, zs = z :: r ∧ z ≠ Str.ofString "call" ∧ ∃ rs, stepRoles.lookup z = some rs ∧ r.length = rs.length := by
  cases f <;> cases h <;> exact ⟨_, _, rfl, by decide, _, rfl, rfl⟩
theorem nm_ne {z : Str} (h : isName z = true) : (!decide (z = Str.ofString "")) = true := by
  rw [decide_eq_false]
  · rfl
  · rintro rfl
    exact absurd h (by decide)
theorem row_vars {f : StepF} {z : Str} {r rs : List Str} (ok : f.ok = true) (h : f.row = some (z :: r)) (hr : stepRoles.lookup z = some rs) :
    (((r.zip rs).filter fun p => roleVar p.2).map (·.1)).filter (fun z => !decide (z = Str.ofString "")) = f.vars := by
  have v1 : roleVar (Str.ofString "variable") = true := by decide
  have v2 : roleVar (Str.ofString "target") = true := by decide
  have v3 : roleVar (Str.ofString "part") = false := by decide
  have v4 : roleVar (Str.ofString "way") = false := by decide
  cases f with
  | call r g args => cases h
  | new x =>
    cases h
    cases hr
    have h1 := nm_ne ok
    simp [v1, v2, v3, v4, StepF.vars, h1]
  | copy x a p =>
    cases h
    cases hr
    have ok : (isName x && isName a && openS p) = true := ok
    simp only [Bool.and_eq_true] at ok
    have h1 := nm_ne ok.1.1
    have h2 := nm_ne ok.1.2
    simp [v1, v2, v3, v4, StepF.vars, h1, h2]
  | take x a p =>
    cases h
    cases hr
    have ok : (isName x && isName a && openS p) = true := ok
    simp only [Bool.and_eq_true] at ok
    have h1 := nm_ne ok.1.1
    have h2 := nm_ne ok.1.2
    simp [v1, v2, v3, v4, StepF.vars, h1, h2]
  | put a p y =>
    cases h
    cases hr
    have ok : (isName a && openS p && isName y) = true := ok
    simp only [Bool.and_eq_true] at ok
    have h1 := nm_ne ok.1.1
    have h2 := nm_ne ok.2
    simp [v1, v2, v3, v4, StepF.vars, h1, h2]
  | lend r a p =>
    cases h
    cases hr
    have ok : (isName r && isName a && openS p) = true := ok
    simp only [Bool.and_eq_true] at ok
    have h1 := nm_ne ok.1.1
    have h2 := nm_ne ok.1.2
    simp [v1, v2, v3, v4, StepF.vars, h1, h2]
  | move x y =>
    cases h
    cases hr
    have ok : (isName x && isName y) = true := ok
    simp only [Bool.and_eq_true] at ok
    have h1 := nm_ne ok.1
    have h2 := nm_ne ok.2
    simp [v1, v2, v3, v4, StepF.vars, h1, h2]
  | touch a p way =>
    cases h
    cases hr
    have ok : (isName a && openS p && wayS way) = true := ok
    simp only [Bool.and_eq_true] at ok
    have h1 := nm_ne ok.1.1
    simp [v1, v2, v3, v4, StepF.vars, h1]
  | drop x =>
    cases h
    cases hr
    have h1 := nm_ne ok
    simp [v1, v2, v3, v4, StepF.vars, h1]
  | skip =>
    cases h
    cases hr
    simp [v1, v2, v3, v4, StepF.vars]
  | ret y =>
    cases h
    cases hr
    simp [v1, v2, v3, v4, StepF.vars]
theorem scVars : FnScope ["step", "found", "argument", "item", "role", "name"] ["step"] (defScope s_variables_of) := ⟨rfl, rfl, rfl, by decide +kernel, rfl, by decide +kernel, by decide +kernel⟩
abbrev varsN : List Str := ["step", "found", "argument", "item", "role", "name"]
def spVars : Sp := fun vs H Q _ => ∃ (a : Addr) (f : StepF), vs = [.ref a] ∧ Rep H (.ref a) f.dt ∧ f.ok = true ∧ ∀ H' D, Same H H' → H' D = some (.lst (f.vars.map V.str)) → Q (.ref D) H'
theorem ok_vars {f : Addr} {fd : FuncData} {da : Addr} (F : Fun K "variables_of" "variables_of" s_variables_of f fd) (mz : mg "zip" = none) (gA : mg "STEP_ROLES" = some (.ref da)) (T : RolesAt K w da stepRoles) (cV : Cal P w K mg base 1 "_is_variable_role" spVr) :
    FnOk P w K mg base CX0 2 f fd ["step"] spVars := by
  obtain ⟨es, n, D, en⟩ := T.ex
  refine F.ok scVars (fun vs H Q E h => ?_) (fun cdv A outer s H vs Q E hr h => ?_)
  · obtain ⟨a, f, rfl, _⟩ := h
    rfl
  · obtain ⟨a, f, rfl, r, ok, q⟩ := h
    refine ⟨_, (Evl.pss_cut (ps_if (pt_cmpR op_eq (pe_ix ix_tup (pv 0) pe_int (fun _ _ => rfl)) pe_str (nomark _))
        (pss_one (ps_set (i := 1) scVars.nd rfl (.inl rfl) (pe_op op_cat (pe_lst (pa_cons (pe_ix ix_tup (pv 0) pe_int (fun _ _ => rfl)) pa_nil)) (pe_lc (own := [("argument", 2)]) (g := gName 2) (tt := tYes) rfl scVars.nd (pi_tup (pe_ix ix_tup (pv 0) pe_int (fun _ _ => rfl)))
          (blkOk_by (N := varsN) (sc := defScope s_variables_of) (by decide +kernel)) (fun _ _ _ _ _ => pg_name (i := 2) scVars.nd rfl (Or.inl rfl)) (fun _ _ _ _ _ => pts_nil) (fun _ _ _ _ _ => pe_ix (ixT_K (K := K) rfl) (pv 2) pe_int (fun _ _ => rfl))))))
        (pss_one (ps_setLc (i := 1) (own := [("item", 3), ("role", 4)]) (g := gTup K 2 (gCons (gName 3) (gCons (gName 4) gNil))) rfl scVars.nd rfl rfl (sw_true rfl rfl rfl (by decide +kernel))
          (RZ.pi_zipA (by rfl) mz (pa_cons (pe_slice sl_tupU (pv 0) (po_some pe_int) po_none) (pa_cons (pe_ix ix_kdict (pe_glob (v := .ref da) (by rfl) gA rfl) (pe_ix ix_tup (pv 0) pe_int (fun _ _ => rfl)) (fun _ _ => rfl)) pa_nil)))
          (blkOk_by (N := varsN) (sc := defScope s_variables_of) (by decide +kernel)) (fun _ _ _ _ _ => pg_tup rfl (pgs_cons (pg_name (i := 3) scVars.nd rfl (Or.inl rfl)) (pgs_cons (pg_name (i := 4) scVars.nd rfl (Or.inl rfl)) pgs_nil)))
          (fun _ _ _ _ _ => pts_one (pt_val (C8.pe_c cV hr (by omega) (by rfl) (pa_cons (pv 4) pa_nil)))) (fun _ _ _ _ _ => pv 3))))
      (pss_one (ps_ret (pe_lc (own := [("name", 5)]) (g := gName 5) rfl scVars.nd (pi_list (pv 1)) (blkOk_by (N := varsN) (sc := defScope s_variables_of) (by decide +kernel)) (fun _ _ _ _ _ => pg_name (i := 5) scVars.nd rfl (Or.inl rfl))
        (fun _ _ _ _ _ => pts_one (pt_cmpR op_ne (pv 5) pe_str (nomark _))) (fun _ _ _ _ _ => pv 5))))), ?_⟩
    refine ⟨fun σ1 H1 => ∃ (D0 : Addr) (ws : List Str), σ1 = [some (.ref a), some (.ref D0), none, none, none, none] ∧ Same H H1 ∧ H1 D0 = some (.lst (ws.map V.str)) ∧ ws.length ≤ 1000 ∧ ws.filter (fun z => !decide (z = Str.ofString "")) = f.vars, ?_, ?_⟩
    · cases e : f.row with
      | none =>
        obtain ⟨rr, g, args, rfl⟩ : ∃ rr g args, f = .call rr g args := by
          cases f with
          | call rr g args => exact ⟨rr, g, args, rfl⟩
          | _ => cases e
        have r : Rep H (.ref a) (.tup [.txt (Str.ofString "call"), .txt rr, .txt g, .tup (args.map ArgF.dt)]) := r
        have ok : (openS rr && isName g && decide (args.length ≤ 3) && args.all ArgF.ok) = true := ok
        rw [Bool.and_eq_true, Bool.and_eq_true, decide_eq_true_eq] at ok
        have few := ok.1.2
        cases r with
        | tup ea lx ra =>
          cases ra with
          | cons h0 ra =>
            cases h0
            cases ra with
            | cons h1 ra =>
              cases h1
              cases ra with
              | cons h2 ra =>
                cases h2
                cases ra with
                | cons h3 ra =>
                  cases ra
                  cases h3 with
                  | tup eb ly rb =>
                    rename_i b ys
                    have qa : SqT K H a [.str (Str.ofString "call"), .str rr, .str g, .ref b] := .inl (.inl ea)
                    refine ⟨_, rfl, a, _, 0, .str (Str.ofString "call"), rfl, rfl, qa, atI_nat (j := 0) rfl, rfl, _, rfl, ?_⟩
                    rw [decide_eq_true rfl]
                    refine iteT ⟨_, rfl, a, _, 1, .str rr, rfl, rfl, qa, atI_nat (j := 1) rfl, (show 1 ≤ sizeLine by decide), fun p np => ?_⟩
                    have sp := same_upd (o := HO.lst [V.str rr]) np
                    have hb := sp _ _ eb
                    have rb1 : RepAll _ ys (args.map ArgF.dt) := RepAll.same sp _ _ rb
                    refine ⟨_, rfl, a, _, 3, .ref b, rfl, rfl, sqT_same sp qa, atI_nat (j := 3) rfl, b, rfl, ⟨ys, .inl (.inl hb)⟩, fun D nD => ?_⟩
                    have ll := rb1.length
                    rw [List.length_map] at ll
                    refine lc_gen walk_tup (fun i => ((args.take i).map ArgF.var).map V.str) rfl (fun i hi => ?_) nD (fun H' sm => .inl (.inl (sm _ _ hb))) (fun i x H4 H5 Ky Kn hi sm y k1 k0 => ?_) (fun H4 s4 e4 => ?_)
                    · rw [List.length_map, List.length_map, List.length_take]
                      omega
                    · obtain ⟨rfl, hx⟩ := y
                      obtain ⟨d, hd, rd⟩ := rb1.at hx
                      rw [List.getElem?_map] at hd
                      obtain ⟨ar, har, rfl⟩ := Option.map_eq_some_iff.mp hd
                      obtain ⟨c, zs, rfl, hc, h1⟩ : ∃ (c : Addr) (zs : List Str), x = .ref c ∧ H5 c = some (.tup (zs.map V.str)) ∧ (zs.map V.str)[1]? = some (V.str ar.var) := by
                        have rd := Rep.same sm _ _ rd
                        cases ar with
                        | lend u v =>
                          have rd : Rep H5 x (.tup ([Str.ofString "lend", u, v].map Dt.txt)) := rd
                          cases rd with
                          | tup ec _ rc =>
                            rw [rep_txts rc] at ec
                            exact ⟨_, [Str.ofString "lend", u, v], rfl, ec, rfl⟩
                        | move u =>
                          have rd : Rep H5 x (.tup ([Str.ofString "move", u].map Dt.txt)) := rd
                          cases rd with
                          | tup ec _ rc =>
                            rw [rep_txts rc] at ec
                            exact ⟨_, [Str.ofString "move", u], rfl, ec, rfl⟩
                      refine ⟨rfl, _, rfl, c, _, 1, .str ar.var, rfl, rfl, .inl (.inl hc), atI_nat (j := 1) h1, k1 _ _ (.refl _) ?_⟩
                      rw [List.take_add_one, har, List.map_append, List.map_append]
                      rfl
                    · rw [ll, List.take_length] at e4
                      refine ⟨p, D, [V.str rr], _, rfl, rfl, s4 _ _ upd_same, e4, ?_, fun p5 np5 => ?_⟩
                      · rw [List.length_map, List.length_map, sizeLine_eq]
                        show 1 + args.length ≤ _
                        omega
                      · exact ⟨p5, rr :: args.map ArgF.var, rfl, (sp.trans s4).trans (same_upd np5), upd_same, by rw [List.length_cons, List.length_map]; omega, rfl⟩
      | some zs =>
        rw [row_dt e] at r
        obtain ⟨z, rest, rfl, nc, rs, hrs, lrs⟩ := row_word e
        have vars := row_vars ok e hrs
        cases r with
        | tup ea lx ra =>
          obtain rfl := rep_txts ra
          have qa : SqT K H a ((z :: rest).map V.str) := .inl (.inl ea)
          refine ⟨_, rfl, a, _, 0, .str z, rfl, rfl, qa, atI_nat (j := 0) rfl, rfl, _, rfl, ?_⟩
          rw [decide_eq_false (fun h => nc (V.str.inj h))]
          refine iteF ⟨_, rfl, _, rfl, a, _, rfl, ea, fun c H1 s1 hc => ?_⟩
          have eC : cutV ((z :: rest).map V.str) (some 1) none = rest.map V.str := cut_from (z :: rest) 1
          rw [eC] at hc
          obtain ⟨b, hn, wr⟩ := (T.get z).1 rs hrs
          refine ⟨_, rfl, a, _, 0, .str z, rfl, rfl, sqT_same s1 qa, atI_nat (j := 0) rfl, da, z, .ref b, rfl, rfl, ⟨es, n, .ref b, D.at_, D.lit, hn, rfl⟩, ?_⟩
          have qc : SqT K H1 c (rest.map V.str) := .inl (.inl hc)
          refine ⟨c, b, _, _, rfl, .inr ⟨qc, .inr wr, fun D1 nD => ?_⟩⟩
          rw [List.length_map, List.length_cons] at lx
          refine lc_gen (walk_zipT (by rw [List.length_map, List.length_map, lrs])) (fun i => (((rest.zip rs).take i).filter fun p => roleVar p.2).map fun p => V.str p.1) rfl (fun i hi => ?_) nD (fun H' sm => ⟨sqT_same sm qc, .inr wr⟩) (fun i x H4 H5 Ky Kn hi sm y k1 k0 => ?_) (fun H4 s4 e4 => ?_)
          · rw [List.length_map] at hi ⊢
            have := List.length_filter_le (fun p : Str × Str => roleVar p.2) ((rest.zip rs).take i)
            rw [List.length_take] at this
            omega
          · obtain ⟨T1, x, y, rfl, nT, rfl, hx, hy⟩ := y
            have hx : (rest.map V.str)[i]? = some x := hx
            have hy : (rs.map V.str)[i]? = some y := hy
            rw [List.getElem?_map] at hx hy
            obtain ⟨item, hi1, rfl⟩ := Option.map_eq_some_iff.mp hx
            obtain ⟨role, hi2, rfl⟩ := Option.map_eq_some_iff.mp hy
            have s5 := same_upd (o := HO.tup [.str item, .str role]) nT
            have tk : (rest.zip rs).take (i + 1) = (rest.zip rs).take i ++ [(item, role)] := by
              rw [List.take_add_one, show (rest.zip rs)[i]? = some (item, role) from List.getElem?_zip_eq_some.mpr ⟨hi1, hi2⟩]
              rfl
            refine ⟨T1, _, rfl, .inl (.inl upd_same), rfl, _, _, rfl, _, _, rfl, rfl, rfl, _, rfl, role, rfl, fun H6 s6 => ⟨_, rfl, ?_⟩⟩
            cases hv : roleVar role with
            | true =>
              refine iteT ⟨_, rfl, k1 _ _ (s5.trans s6) ?_⟩
              rw [tk, List.filter_append, List.map_append, List.filter_cons, if_pos (show roleVar (item, role).2 = true from hv)]
              rfl
            | false =>
              refine iteF (k0 _ (s5.trans s6) ?_)
              rw [tk, List.filter_append, List.map_append, List.filter_cons, if_neg (show ¬ roleVar (item, role).2 = true by rw [hv]; exact Bool.false_ne_true)]
              show _ ++ [] = _
              rw [List.append_nil]
          · rw [List.length_map, show rest.length = (rest.zip rs).length by rw [List.length_zip]; omega, List.take_length] at e4
            refine ⟨D1, ((rest.zip rs).filter fun p => roleVar p.2).map (·.1), rfl, s1.trans s4, by rw [e4, List.map_map]; rfl, ?_, vars⟩
            rw [List.length_map]
            have := List.length_filter_le (fun p : Str × Str => roleVar p.2) (rest.zip rs)
            rw [List.length_zip] at this
            omega
    · rintro σ1 H1 ⟨D0, ws, rfl, s1, h0, lw, ev⟩
      refine ⟨.ref D0, rfl, D0, rfl, ⟨_, .inl (.inl h0)⟩, fun D1 nD => ?_⟩
      refine lc_vals walk_list (fun x => match x with | .str z => !decide (z = Str.ofString "") | _ => false) id (by rw [List.length_map]; omega) nD (fun H' sm => .inl (.inl (sm _ _ h0))) (fun x H4 Ky Kn hx sm k1 k0 => ?_) (fun H4 s4 e4 => ?_)
      · obtain ⟨z, hz, rfl⟩ := List.mem_map.mp hx
        refine ⟨rfl, _, rfl, rfl, _, rfl, ?_⟩
        rw [show decide (V.str z = V.str (Str.ofString "")) = decide (z = Str.ofString "") from decide_eq_decide.mpr ⟨fun h => V.str.inj h, fun h => by rw [h]⟩]
        by_cases hz : z = Str.ofString ""
        · rw [decide_eq_true hz]
          exact iteF (k0 _ (.refl _) (by show (!decide (z = Str.ofString "")) = false; rw [decide_eq_true hz]; rfl))
        · rw [decide_eq_false hz]
          exact iteT ⟨_, rfl, k1 _ (.refl _) (by show (!decide (z = Str.ofString "")) = true; rw [decide_eq_false hz]; rfl)⟩
      · refine q H4 D1 (s1.trans s4) ?_
        rw [e4, List.map_id, List.filter_map, ← ev]
        rfl
/-! ### is_step -/
def StepF.word : StepF → Str
  | .new _ => "new" | .copy _ _ _ => "copy" | .take _ _ _ => "take" | .put _ _ _ => "put" | .lend _ _ _ => "lend" | .move _ _ => "move" | .touch _ _ _ => "touch" | .drop _ => "drop" | .call _ _ _ => "call" | .skip => "skip" | .ret _ => "return"
theorem form_rep {H : Hp} {v : V} {f : StepF} (r : Rep H v f.dt) : ∃ (a : Addr) (xs : List V), v = .ref a ∧ H a = some (.tup xs) ∧ xs[0]? = some (.str f.word) := by
  have h : ∃ ds, f.dt = .tup (.txt f.word :: ds) := by
    cases f <;> exact ⟨_, rfl⟩
  obtain ⟨ds, e⟩ := h
  rw [e] at r
  cases r with
  | tup ea lx ra =>
    cases ra with
    | cons h0 t =>
      cases h0
      exact ⟨_, _, rfl, ea, rfl⟩
theorem word_free (f : StepF) : decide (f.word ∈ [Str.ofString "call", Str.ofString "lend"]) = f.free := by
  cases f <;> rfl
theorem vars_few {f : StepF} (ok : f.ok = true) : f.vars.length ≤ 1000 := by
  cases f with
  | call r g args =>
    have ok : (openS r && isName g && decide (args.length ≤ 3) && args.all ArgF.ok) = true := ok
    simp only [Bool.and_eq_true, decide_eq_true_eq] at ok
    have := List.length_filter_le (fun z => !decide (z = Str.ofString "")) (r :: args.map ArgF.var)
    rw [List.length_cons, List.length_map] at this
    show ((r :: args.map ArgF.var).filter fun z => !decide (z = Str.ofString "")).length ≤ 1000
    omega
  | ret y =>
    have := List.length_filter_le (fun z => !decide (z = Str.ofString "")) [y]
    exact Nat.le_trans this (show 1 ≤ 1000 by decide)
  | skip => exact Nat.zero_le _
  | new x => exact (show 1 ≤ 1000 by decide)
  | copy x a p => exact (show 2 ≤ 1000 by decide)
  | take x a p => exact (show 2 ≤ 1000 by decide)
  | put x a p => exact (show 2 ≤ 1000 by decide)
  | lend x a p => exact (show 2 ≤ 1000 by decide)
  | move x y => exact (show 2 ≤ 1000 by decide)
  | touch x a p => exact (show 1 ≤ 1000 by decide)
  | drop x => exact (show 1 ≤ 1000 by decide)

theorem scIsStep : FnScope ["value", "variables"] ["value"] (defScope s_is_step) := ⟨rfl, rfl, rfl, by decide +kernel, rfl, by decide +kernel, by decide +kernel⟩
def spIsStep : Sp := fun vs H Q _ => ∃ (v : V) (d : Dt), vs = [v] ∧ Rep H v d ∧ ∀ H' b, Same H H' → (b = true ↔ GoodD d) → Q (.bl b) H'
theorem ok_isStep {f : Addr} {fd : FuncData} {m : Nat} {rp : Addr} (hm : 2 ≤ m) (F : Fun K "is_step" "is_step" s_is_step f fd) (mL : mg "len" = none) (mS : mg "set" = none) (gR : mg "REPEATING" = some (.ref rp)) (wR : WrTup K rp ([Str.ofString "call", Str.ofString "lend"].map V.str))
    (cH : Cal P w K mg base m "has_step_roles" spStep) (cV : Cal P w K mg base 2 "variables_of" spVars) : FnOk P w K mg base CX0 (m + 1) f fd ["value"] spIsStep := by
  refine F.ok scIsStep (fun vs H Q E h => ?_) (fun cdv A outer s H vs Q E hr h => ?_)
  · obtain ⟨v, d, rfl, _⟩ := h
    rfl
  · obtain ⟨v, d, rfl, r, q⟩ := h
    refine ⟨_, (pss_cons (ps_if (pt_not (pt_val (C8.pe_c cH hr (by omega) (by rfl) (pa_cons (pv 0) pa_nil)))) (pss_one (ps_ret pe_bl)) pss_nil)
      (pss_cons (ps_set (i := 1) scIsStep.nd rfl (.inl rfl) (C8.pe_c cV hr (by omega) (by rfl) (pa_cons (pv 0) pa_nil)))
      (pss_one (ps_ret (pe_or (pe_cmpR op_in_seq (pe_ix ix_tup (pv 0) pe_int (fun _ _ => rfl)) (pe_glob (v := .ref rp) (by rfl) gR rfl) (by rfl)) (pe_one (pe_cmpR op_eq (pe_callB call_lenK (by rfl) mL PySem.boot_len (pa_cons (pe_callTy (cr_setOfK rfl) (by rfl) mS boot_set (pa_cons (pv 1) pa_nil)) pa_nil))
        (pe_callB call_len_seq (by rfl) mL PySem.boot_len (pa_cons (pv 1) pa_nil)) (nomark _)))))))), ?_⟩
    refine ⟨_, rfl, v, d, rfl, r, fun H1 s1 => ⟨_, rfl, ?_⟩⟩
    cases hd : rolesD d with
    | false =>
      refine iteT (q H1 false s1 ⟨fun h => (nomatch h), fun h => ?_⟩)
      obtain ⟨g, rfl, hg⟩ := h
      have hg : (g.ok && (g.free || decide g.vars.Nodup)) = true := hg
      rw [Bool.and_eq_true] at hg
      rw [roles_of hg.1] at hd
      cases hd
    | true =>
      obtain ⟨g, rfl, ok⟩ := roles_inv hd
      obtain ⟨a, xs, rfl, ha, h0⟩ := form_rep r
      have r1 := Rep.same s1 _ _ r
      have iff : ∀ b : Bool, b = (g.free || decide g.vars.Nodup) → (b = true ↔ GoodD g.dt) := fun b hb => by
        rw [hb]
        constructor
        · intro h
          exact ⟨g, rfl, by show (g.ok && (g.free || decide g.vars.Nodup)) = true; rw [ok, h]; rfl⟩
        · rintro ⟨g', e, hg'⟩
          have eg := dt_inj e
          subst eg
          have hg' : (g.ok && (g.free || decide g.vars.Nodup)) = true := hg'
          rw [ok, Bool.true_and] at hg'
          exact hg'
      refine iteF ⟨_, rfl, a, g, rfl, r1, ok, fun H2 D s2 hD => ?_⟩
      have ha2 := s2 _ _ (s1 _ _ ha)
      refine ⟨_, rfl, a, _, 0, .str g.word, rfl, rfl, .inl (.inl ha2), atI_nat (j := 0) h0, rp, _, rfl, .inr (.inr wR), rfl, strs_all_flat _, _, rfl, ?_⟩
      show if inV (.str g.word) ([Str.ofString "call", Str.ofString "lend"].map V.str) = true then _ else _
      rw [inV_strs, word_free]
      cases hf : g.free with
      | true => exact iteT (q H2 true (s1.trans s2) (iff true (by rw [hf]; rfl)))
      | false =>
        have few := vars_few ok
        refine iteF ⟨_, rfl, D, g.vars.map Sum.inr, rfl, .inl ?_, by rw [List.length_map]; omega, fun p np => ?_⟩
        · rw [List.map_map]
          exact .inl (.inl hD)
        have s3 := same_upd (o := SetK P w p (fun j => decide (j ∈ g.vars.map Sum.inr)) (dist (g.vars.map (Sum.inr : Str → Key))).length) np
        refine ⟨p, _, _, rfl, upd_same, _, rfl, D, _, rfl, .inl (.inl (.inl (s3 _ _ hD))), rfl, q _ _ ((s1.trans s2).trans s3) (iff _ ?_)⟩
        rw [hf, Bool.false_or]
        refine decide_eq_decide.mpr ?_
        rw [V.int.injEq, List.length_map]
        have e3 := dist_eq (g.vars.map (Sum.inr : Str → Key))
        rw [List.length_map] at e3
        constructor
        · intro e4
          exact nodup_inr.mp (e3.mp (by omega))
        · intro nd
          have := e3.mpr (nodup_inr.mpr nd)
          omega
/-! ### _write_place, _write_argument -/
theorem scPlace : FnScope ["name", "part"] ["name", "part"] (defScope s__write_place) := ⟨rfl, rfl, rfl, by decide +kernel, rfl, by decide +kernel, by decide +kernel⟩
def spPlace : Sp := fun vs H Q _ => ∃ a p : Str, vs = [.str a, .str p] ∧ a.length ≤ 8 ∧ p.length ≤ 8 ∧ Q (.str (placeS a p)) H
theorem ok_place {f : Addr} {fd : FuncData} (F : Fun K "_write_place" "_write_place" s__write_place f fd) : FnOk P w K mg base CX0 1 f fd ["name", "part"] spPlace := by
  refine F.ok scPlace (fun vs H Q E h => ?_) (fun cdv A outer s H vs Q E hr h => ?_)
  · obtain ⟨a, p, rfl, _⟩ := h
    rfl
  · obtain ⟨a, p, rfl, la, lp, q⟩ := h
    refine ⟨_, (pss_one (ps_ret (pe_ifExp (pt_cmpR op_eq (pv 1) pe_str (nomark _)) (pv 0) (pe_joined (.cons (pe_fmt (pv 0)) (.cons pe_str (.cons (pe_fmt (pv 1)) .nil))))))), ?_⟩
    have small : ∀ {k : Nat}, k ≤ 1000 → k ≤ sizeLine := fun h => Nat.le_trans h (by decide)
    have one : (Str.ofString ".").length = 1 := rfl
    refine ⟨_, rfl, rfl, _, rfl, ?_⟩
    rw [show decide (V.str p = V.str (Str.ofString "")) = decide (p = Str.ofString "") from decide_eq_decide.mpr ⟨fun h => V.str.inj h, fun h => by rw [h]⟩]
    by_cases hp : p = Str.ofString ""
    · rw [decide_eq_true hp]
      rw [show placeS a p = a from if_pos hp] at q
      exact iteT ⟨_, rfl, q⟩
    · rw [decide_eq_false hp]
      rw [show placeS a p = a ++ Str.ofString "." ++ p from if_neg hp] at q
      refine iteF ⟨_, rfl, .inl ⟨a, rfl, small (by omega), a, rfl, by rw [empty_cat]; exact small (by omega), Str.ofString ".", rfl, by rw [empty_cat, len_cat, one]; exact small (by omega), _, rfl, .inl ⟨p, rfl, small (by omega), p, rfl, by rw [empty_cat, len_cat, len_cat, one]; exact small (by omega), ?_⟩⟩⟩
      rw [empty_cat]
      exact q
theorem scWArg : FnScope ["argument"] ["argument"] (defScope s__write_argument) := ⟨rfl, rfl, rfl, by decide +kernel, rfl, by decide +kernel, by decide +kernel⟩
def spWArg : Sp := fun vs H Q _ => ∃ (v : V) (f : ArgF), vs = [v] ∧ Rep H v f.dt ∧ f.ok = true ∧ Q (.str f.text) H
theorem ok_warg {f : Addr} {fd : FuncData} (F : Fun K "_write_argument" "_write_argument" s__write_argument f fd) (cP : Cal P w K mg base 1 "_write_place" spPlace) : FnOk P w K mg base CX0 2 f fd ["argument"] spWArg := by
  refine F.ok scWArg (fun vs H Q E h => ?_) (fun cdv A outer s H vs Q E hr h => ?_)
  · obtain ⟨v, f, rfl, _⟩ := h
    rfl
  · obtain ⟨v, f, rfl, r, ok, q⟩ := h
    refine ⟨_, (pss_cons (ps_if (pt_cmpR op_eq (pe_ix ix_tup (pv 0) pe_int (fun _ _ => rfl)) pe_str (nomark _)) (pss_one (ps_ret (pe_joined (.cons pe_str (.cons (pe_fmt (pe_ix ix_tup (pv 0) pe_int (fun _ _ => rfl))) .nil))))) pss_nil)
      (pss_one (ps_ret (pe_joined (.cons pe_str (.cons (pe_fmt (C8.pe_c cP hr (by omega) (by rfl) (pa_cons (pe_ix ix_tup (pv 0) pe_int (fun _ _ => rfl)) (pa_cons (pe_ix ix_tup (pv 0) pe_int (fun _ _ => rfl)) pa_nil)))) .nil)))))), ?_⟩
    have small : ∀ {k : Nat}, k ≤ 1000 → k ≤ sizeLine := fun h => Nat.le_trans h (by decide)
    have five : (Str.ofString "move ").length = 5 := rfl
    have five2 : (Str.ofString "lend ").length = 5 := rfl
    cases f with
    | move a =>
      have r : Rep H v (.tup ([Str.ofString "move", a].map Dt.txt)) := r
      have la := (name_size ok).2
      cases r with
      | tup ea lx ra =>
        rename_i b xs
        obtain rfl := rep_txts ra
        have qa : SqT K H b ([Str.ofString "move", a].map V.str) := .inl (.inl ea)
        refine ⟨_, rfl, b, _, 0, .str (Str.ofString "move"), rfl, rfl, qa, atI_nat (j := 0) rfl, rfl, _, rfl, ?_⟩
        rw [decide_eq_true rfl]
        refine iteT ⟨Str.ofString "move ", rfl, by rw [empty_cat]; exact small (by rw [five]; decide), _, rfl, b, _, 1, .str a, rfl, rfl, qa, atI_nat (j := 1) rfl, .inl ⟨a, rfl, small (by omega), a, rfl, by rw [empty_cat, len_cat, five]; exact small (by omega), ?_⟩⟩
        rw [empty_cat]
        exact q
    | lend a p =>
      have r : Rep H v (.tup ([Str.ofString "lend", a, p].map Dt.txt)) := r
      have ok : (isName a && openS p) = true := ok
      rw [Bool.and_eq_true] at ok
      have la := (name_size ok.1).2
      have lp := openS_len ok.2
      have lpl := place_len la lp
      cases r with
      | tup ea lx ra =>
        rename_i b xs
        obtain rfl := rep_txts ra
        have qa : SqT K H b ([Str.ofString "lend", a, p].map V.str) := .inl (.inl ea)
        refine ⟨_, rfl, b, _, 0, .str (Str.ofString "lend"), rfl, rfl, qa, atI_nat (j := 0) rfl, rfl, _, rfl, ?_⟩
        rw [decide_eq_false (show ¬ V.str (Str.ofString "lend") = V.str (Str.ofString "move") from fun h => absurd (V.str.inj h) (by decide))]
        refine iteF ⟨Str.ofString "lend ", rfl, by rw [empty_cat]; exact small (by rw [five2]; decide), _, rfl, b, _, 1, .str a, rfl, rfl, qa, atI_nat (j := 1) rfl, _, rfl, b, _, 2, .str p, rfl, rfl, qa, atI_nat (j := 2) rfl, a, p, rfl, la, lp,
          .inl ⟨placeS a p, rfl, small (by omega), placeS a p, rfl, by rw [empty_cat, len_cat, five2]; exact small (by omega), ?_⟩⟩
        rw [empty_cat]
        exact q
/-! ### write_step, of a step -/
abbrev writeN : List Str := ["step", "word", "target", "arguments", "argument", "item"]
theorem scWrite : FnScope writeN ["step"] (defScope s_write_step) := ⟨rfl, rfl, rfl, by decide +kernel, rfl, by decide +kernel, by decide +kernel⟩
def spWrite : Sp := fun vs H Q _ => ∃ (v : V) (f : StepF), vs = [v] ∧ Rep H v f.dt ∧ f.good = true ∧ ∀ H', Same H H' → Q (.str f.text) H'
theorem ok_write {f : Addr} {fd : FuncData} {m : Nat} (hm : 2 ≤ m) (F : Fun K "write_step" "write_step" s_write_step f fd) (cS : Cal P w K mg base m "is_step" spIsStep) (cP : Cal P w K mg base 1 "_write_place" spPlace) (cA : Cal P w K mg base 2 "_write_argument" spWArg) :
    FnOk P w K mg base CX0 (m + 1) f fd ["step"] spWrite := by
  refine F.ok scWrite (fun vs H Q E h => ?_) (fun cdv A outer s H vs Q E hr h => ?_)
  · obtain ⟨v, f, rfl, _⟩ := h
    rfl
  · obtain ⟨v, f, rfl, r, ok, q⟩ := h
    refine ⟨_, (pss_cons (ps_if (pt_not (pt_val (C8.pe_c cS hr (by omega) (by rfl) (pa_cons (pv 0) pa_nil)))) pss_never pss_nil)
      (pss_cons (ps_set (i := 1) scWrite.nd rfl (.inl rfl) (pe_ix ix_tup (pv 0) pe_int (fun _ _ => rfl)))
      (pss_cons (ps_if (pt_cmpR op_in_seq (pv 1) (pe_tup (pa_cons (pe_str) (pa_cons (pe_str) (pa_cons (pe_str) pa_nil)))) (by rfl))
        (pss_one (ps_ret (pe_joined (.cons (pe_fmt (pv 1)) (.cons pe_str (.cons (pe_fmt (pe_ix ix_tup (pv 0) pe_int (fun _ _ => rfl))) (.cons pe_str (.cons (pe_fmt (C8.pe_c cP hr (by omega) (by rfl) (pa_cons (pe_ix ix_tup (pv 0) pe_int (fun _ _ => rfl)) (pa_cons (pe_ix ix_tup (pv 0) pe_int (fun _ _ => rfl)) pa_nil)))) .nil))))))) ) pss_nil)
      (pss_cons (ps_if (pt_cmpR op_eq (pv 1) pe_str (nomark _))
        (pss_one (ps_ret (pe_joined (.cons pe_str (.cons (pe_fmt (C8.pe_c cP hr (by omega) (by rfl) (pa_cons (pe_ix ix_tup (pv 0) pe_int (fun _ _ => rfl)) (pa_cons (pe_ix ix_tup (pv 0) pe_int (fun _ _ => rfl)) pa_nil)))) (.cons pe_str (.cons (pe_fmt (pe_ix ix_tup (pv 0) pe_int (fun _ _ => rfl))) .nil))))))) pss_nil)
      (pss_cons (ps_if (pt_cmpR op_eq (pv 1) pe_str (nomark _))
        (pss_one (ps_ret (pe_joined (.cons pe_str (.cons (pe_fmt (pe_ix ix_tup (pv 0) pe_int (fun _ _ => rfl))) (.cons pe_str (.cons (pe_fmt (pe_ix ix_tup (pv 0) pe_int (fun _ _ => rfl))) .nil))))))) pss_nil)
      (pss_cons (ps_if (pt_cmpR op_eq (pv 1) pe_str (nomark _))
        (pss_one (ps_ret (pe_joined (.cons pe_str (.cons (pe_fmt (C8.pe_c cP hr (by omega) (by rfl) (pa_cons (pe_ix ix_tup (pv 0) pe_int (fun _ _ => rfl)) (pa_cons (pe_ix ix_tup (pv 0) pe_int (fun _ _ => rfl)) pa_nil)))) (.cons pe_str (.cons (pe_fmt (pe_ix ix_tup (pv 0) pe_int (fun _ _ => rfl))) .nil))))))) pss_nil)
      (pss_cons (ps_if (pt_cmpR op_eq (pv 1) pe_str (nomark _)) (Evl.pss_cut (ps_set (i := 2) scWrite.nd rfl (.inl rfl) (pe_ifExp (pt_cmpR op_eq (pe_ix ix_tup (pv 0) pe_int (fun _ _ => rfl)) pe_str (nomark _)) pe_str (pe_joined (.cons (pe_fmt (pe_ix ix_tup (pv 0) pe_int (fun _ _ => rfl))) (.cons pe_str .nil)))))
      (pss_cons (ps_set (i := 3) scWrite.nd rfl (.inl rfl) (pe_join pe_str (pe_lc (own := [("argument", 4)]) (g := gName 4) (tt := tYes) rfl scWrite.nd (pi_tup (pe_ix ix_tup (pv 0) pe_int (fun _ _ => rfl))) (blkOk_by (N := writeN) (sc := defScope s_write_step) (by decide +kernel))
          (fun _ _ _ _ _ => pg_name (i := 4) scWrite.nd rfl (Or.inl rfl)) (fun _ _ _ _ _ => pts_nil) (fun _ _ _ _ _ => C8.pe_c cA hr (by omega) (by rfl) (pa_cons (pv 4) pa_nil)))))
      (pss_one (ps_ret (pe_joined (.cons pe_str (.cons (pe_fmt (pv 2)) (.cons (pe_fmt (pe_ix ix_tup (pv 0) pe_int (fun _ _ => rfl))) (.cons pe_str (.cons (pe_fmt (pv 3)) (.cons pe_str .nil))))))))))) pss_nil)
      (pss_one (ps_ret (pe_join pe_str (pe_lc (own := [("item", 5)]) (g := gName 5) rfl scWrite.nd (pi_tup (pv 0)) (blkOk_by (N := writeN) (sc := defScope s_write_step) (by decide +kernel)) (fun _ _ _ _ _ => pg_name (i := 5) scWrite.nd rfl (Or.inl rfl))
        (fun _ _ _ _ _ => pts_one (pt_cmpR op_ne (pv 5) pe_str (nomark _))) (fun _ _ _ _ _ => pv 5)))))))))))), ?_⟩
    refine ⟨_, rfl, v, f.dt, rfl, r, fun H1 b s1 eb => ⟨b, rfl, ?_⟩⟩
    obtain rfl : b = true := eb.mpr ⟨f, rfl, ok⟩
    refine iteF ?_
    have ok : (f.ok && (f.free || decide f.vars.Nodup)) = true := ok
    rw [Bool.and_eq_true] at ok
    have ok := ok.1
    have r1 := Rep.same s1 _ _ r
    have small : ∀ {k : Nat}, k ≤ 1000 → k ≤ sizeLine := fun h => Nat.le_trans h (by decide)
    have txtEq : ∀ x y : Str, decide (V.str x = V.str y) = decide (x = y) := fun x y => decide_eq_decide.mpr ⟨fun h => V.str.inj h, fun h => by rw [h]⟩
    have l3 : (Str.ofString " = ").length = 3 := rfl
    have l1 : (Str.ofString " ").length = 1 := rfl
    cases f with
    | copy x y p =>
      have r1 : Rep H1 v (.tup ([Str.ofString "copy", x, y, p].map Dt.txt)) := r1
      have ok : (isName x && isName y && openS p) = true := ok
      simp only [Bool.and_eq_true] at ok
      have l_x := (name_size ok.1.1).2
      have l_y := (name_size ok.1.2).2
      have l_p := openS_len ok.2
      have l_q := place_len l_y l_p
      have lw : (Str.ofString "copy").length = 4 := rfl
      cases r1 with
      | tup ea lx ra =>
        rename_i a xs
        obtain rfl := rep_txts ra
        have qa : SqT K H1 a ([Str.ofString "copy", x, y, p].map V.str) := .inl (.inl ea)
        refine ⟨_, rfl, a, _, 0, .str (Str.ofString "copy"), rfl, rfl, qa, atI_nat (j := 0) rfl, ?_⟩
        refine ⟨_, rfl, (show 3 ≤ sizeLine by decide), fun p1 np1 => ⟨p1, _, rfl, .inr (.inl (.inl upd_same)), rfl, rfl, _, rfl, ?_⟩⟩
        have s2 := same_upd (o := HO.tup ([Str.ofString "copy", Str.ofString "lend", Str.ofString "take"].map V.str)) np1
        have qa2 := sqT_same s2 qa
        have fin := q _ (s1.trans s2)
        have t1 : inV (V.str (Str.ofString "copy")) [V.str (Str.ofString "copy"), V.str (Str.ofString "lend"), V.str (Str.ofString "take")] = true := rfl
        show if inV (V.str (Str.ofString "copy")) [V.str (Str.ofString "copy"), V.str (Str.ofString "lend"), V.str (Str.ofString "take")] = true then _ else _
        rw [t1]
        refine iteT ?_
        refine ⟨_, rfl, .inl ⟨Str.ofString "copy", rfl, small (by omega), Str.ofString "copy", rfl, small (by simp only [empty_cat, len_cat, l3, l1, lw]; omega), Str.ofString " ", rfl, small (by simp only [empty_cat, len_cat, l3, l1, lw]; omega), _, rfl, a, _, 1, .str x, rfl, rfl, qa2, atI_nat (j := 1) rfl, .inl ⟨x, rfl, small (by omega), x, rfl, small (by simp only [empty_cat, len_cat, l3, l1, lw]; omega), Str.ofString " = ", rfl, small (by simp only [empty_cat, len_cat, l3, l1, lw]; omega), _, rfl, a, _, 2, .str y, rfl, rfl, qa2, atI_nat (j := 2) rfl, _, rfl, a, _, 3, .str p, rfl, rfl, qa2, atI_nat (j := 3) rfl, y, p, rfl, l_y, l_p, .inl ⟨(placeS y p), rfl, small (by omega), (placeS y p), rfl, small (by simp only [empty_cat, len_cat, l3, l1, lw]; omega), ?_⟩⟩⟩⟩
        have e : Str.empty ++ Str.ofString "copy" ++ Str.ofString " " ++ x ++ Str.ofString " = " ++ placeS y p = (StepF.copy x y p).text := by
          rw [empty_cat]
          rfl
        rw [e]
        exact fin
    | take x y p =>
      have r1 : Rep H1 v (.tup ([Str.ofString "take", x, y, p].map Dt.txt)) := r1
      have ok : (isName x && isName y && openS p) = true := ok
      simp only [Bool.and_eq_true] at ok
      have l_x := (name_size ok.1.1).2
      have l_y := (name_size ok.1.2).2
      have l_p := openS_len ok.2
      have l_q := place_len l_y l_p
      have lw : (Str.ofString "take").length = 4 := rfl
      cases r1 with
      | tup ea lx ra =>
        rename_i a xs
        obtain rfl := rep_txts ra
        have qa : SqT K H1 a ([Str.ofString "take", x, y, p].map V.str) := .inl (.inl ea)
        refine ⟨_, rfl, a, _, 0, .str (Str.ofString "take"), rfl, rfl, qa, atI_nat (j := 0) rfl, ?_⟩
        refine ⟨_, rfl, (show 3 ≤ sizeLine by decide), fun p1 np1 => ⟨p1, _, rfl, .inr (.inl (.inl upd_same)), rfl, rfl, _, rfl, ?_⟩⟩
        have s2 := same_upd (o := HO.tup ([Str.ofString "copy", Str.ofString "lend", Str.ofString "take"].map V.str)) np1
        have qa2 := sqT_same s2 qa
        have fin := q _ (s1.trans s2)
        have t1 : inV (V.str (Str.ofString "take")) [V.str (Str.ofString "copy"), V.str (Str.ofString "lend"), V.str (Str.ofString "take")] = true := rfl
        show if inV (V.str (Str.ofString "take")) [V.str (Str.ofString "copy"), V.str (Str.ofString "lend"), V.str (Str.ofString "take")] = true then _ else _
        rw [t1]
        refine iteT ?_
        refine ⟨_, rfl, .inl ⟨Str.ofString "take", rfl, small (by omega), Str.ofString "take", rfl, small (by simp only [empty_cat, len_cat, l3, l1, lw]; omega), Str.ofString " ", rfl, small (by simp only [empty_cat, len_cat, l3, l1, lw]; omega), _, rfl, a, _, 1, .str x, rfl, rfl, qa2, atI_nat (j := 1) rfl, .inl ⟨x, rfl, small (by omega), x, rfl, small (by simp only [empty_cat, len_cat, l3, l1, lw]; omega), Str.ofString " = ", rfl, small (by simp only [empty_cat, len_cat, l3, l1, lw]; omega), _, rfl, a, _, 2, .str y, rfl, rfl, qa2, atI_nat (j := 2) rfl, _, rfl, a, _, 3, .str p, rfl, rfl, qa2, atI_nat (j := 3) rfl, y, p, rfl, l_y, l_p, .inl ⟨(placeS y p), rfl, small (by omega), (placeS y p), rfl, small (by simp only [empty_cat, len_cat, l3, l1, lw]; omega), ?_⟩⟩⟩⟩
        have e : Str.empty ++ Str.ofString "take" ++ Str.ofString " " ++ x ++ Str.ofString " = " ++ placeS y p = (StepF.take x y p).text := by
          rw [empty_cat]
          rfl
        rw [e]
        exact fin
    | put x p y =>
      have r1 : Rep H1 v (.tup ([Str.ofString "put", x, p, y].map Dt.txt)) := r1
      have ok : (isName x && openS p && isName y) = true := ok
      simp only [Bool.and_eq_true] at ok
      have l_a := (name_size ok.1.1).2
      have l_p := openS_len ok.1.2
      have l_y := (name_size ok.2).2
      have l_q := place_len l_a l_p
      have lw : (Str.ofString "put ").length = 4 := rfl
      cases r1 with
      | tup ea lx ra =>
        rename_i a xs
        obtain rfl := rep_txts ra
        have qa : SqT K H1 a ([Str.ofString "put", x, p, y].map V.str) := .inl (.inl ea)
        refine ⟨_, rfl, a, _, 0, .str (Str.ofString "put"), rfl, rfl, qa, atI_nat (j := 0) rfl, ?_⟩
        refine ⟨_, rfl, (show 3 ≤ sizeLine by decide), fun p1 np1 => ⟨p1, _, rfl, .inr (.inl (.inl upd_same)), rfl, rfl, _, rfl, ?_⟩⟩
        have s2 := same_upd (o := HO.tup ([Str.ofString "copy", Str.ofString "lend", Str.ofString "take"].map V.str)) np1
        have qa2 := sqT_same s2 qa
        have fin := q _ (s1.trans s2)
        have t1 : inV (V.str (Str.ofString "put")) [V.str (Str.ofString "copy"), V.str (Str.ofString "lend"), V.str (Str.ofString "take")] = false := rfl
        show if inV (V.str (Str.ofString "put")) [V.str (Str.ofString "copy"), V.str (Str.ofString "lend"), V.str (Str.ofString "take")] = true then _ else _
        rw [t1]
        refine iteF ?_
        refine ⟨_, rfl, rfl, _, rfl, ?_⟩
        rw [txtEq, show decide (Str.ofString "put" = Str.ofString "put") = true from by decide]
        refine iteT ?_
        refine ⟨Str.ofString "put ", rfl, small (by simp only [empty_cat, len_cat, l3, l1, lw]; omega), _, rfl, a, _, 1, .str x, rfl, rfl, qa2, atI_nat (j := 1) rfl, _, rfl, a, _, 2, .str p, rfl, rfl, qa2, atI_nat (j := 2) rfl, x, p, rfl, l_a, l_p, .inl ⟨(placeS x p), rfl, small (by omega), (placeS x p), rfl, small (by simp only [empty_cat, len_cat, l3, l1, lw]; omega), Str.ofString " = ", rfl, small (by simp only [empty_cat, len_cat, l3, l1, lw]; omega), _, rfl, a, _, 3, .str y, rfl, rfl, qa2, atI_nat (j := 3) rfl, .inl ⟨y, rfl, small (by omega), y, rfl, small (by simp only [empty_cat, len_cat, l3, l1, lw]; omega), ?_⟩⟩⟩
        have e : Str.empty ++ Str.ofString "put " ++ placeS x p ++ Str.ofString " = " ++ y = (StepF.put x p y).text := by
          rw [empty_cat]
          rfl
        rw [e]
        exact fin
    | lend x y p =>
      have r1 : Rep H1 v (.tup ([Str.ofString "lend", x, y, p].map Dt.txt)) := r1
      have ok : (isName x && isName y && openS p) = true := ok
      simp only [Bool.and_eq_true] at ok
      have l_x := (name_size ok.1.1).2
      have l_y := (name_size ok.1.2).2
      have l_p := openS_len ok.2
      have l_q := place_len l_y l_p
      have lw : (Str.ofString "lend").length = 4 := rfl
      cases r1 with
      | tup ea lx ra =>
        rename_i a xs
        obtain rfl := rep_txts ra
        have qa : SqT K H1 a ([Str.ofString "lend", x, y, p].map V.str) := .inl (.inl ea)
        refine ⟨_, rfl, a, _, 0, .str (Str.ofString "lend"), rfl, rfl, qa, atI_nat (j := 0) rfl, ?_⟩
        refine ⟨_, rfl, (show 3 ≤ sizeLine by decide), fun p1 np1 => ⟨p1, _, rfl, .inr (.inl (.inl upd_same)), rfl, rfl, _, rfl, ?_⟩⟩
        have s2 := same_upd (o := HO.tup ([Str.ofString "copy", Str.ofString "lend", Str.ofString "take"].map V.str)) np1
        have qa2 := sqT_same s2 qa
        have fin := q _ (s1.trans s2)
        have t1 : inV (V.str (Str.ofString "lend")) [V.str (Str.ofString "copy"), V.str (Str.ofString "lend"), V.str (Str.ofString "take")] = true := rfl
        show if inV (V.str (Str.ofString "lend")) [V.str (Str.ofString "copy"), V.str (Str.ofString "lend"), V.str (Str.ofString "take")] = true then _ else _
        rw [t1]
        refine iteT ?_
        refine ⟨_, rfl, .inl ⟨Str.ofString "lend", rfl, small (by omega), Str.ofString "lend", rfl, small (by simp only [empty_cat, len_cat, l3, l1, lw]; omega), Str.ofString " ", rfl, small (by simp only [empty_cat, len_cat, l3, l1, lw]; omega), _, rfl, a, _, 1, .str x, rfl, rfl, qa2, atI_nat (j := 1) rfl, .inl ⟨x, rfl, small (by omega), x, rfl, small (by simp only [empty_cat, len_cat, l3, l1, lw]; omega), Str.ofString " = ", rfl, small (by simp only [empty_cat, len_cat, l3, l1, lw]; omega), _, rfl, a, _, 2, .str y, rfl, rfl, qa2, atI_nat (j := 2) rfl, _, rfl, a, _, 3, .str p, rfl, rfl, qa2, atI_nat (j := 3) rfl, y, p, rfl, l_y, l_p, .inl ⟨(placeS y p), rfl, small (by omega), (placeS y p), rfl, small (by simp only [empty_cat, len_cat, l3, l1, lw]; omega), ?_⟩⟩⟩⟩
        have e : Str.empty ++ Str.ofString "lend" ++ Str.ofString " " ++ x ++ Str.ofString " = " ++ placeS y p = (StepF.lend x y p).text := by
          rw [empty_cat]
          rfl
        rw [e]
        exact fin
    | move x y =>
      have r1 : Rep H1 v (.tup ([Str.ofString "move", x, y].map Dt.txt)) := r1
      have ok : (isName x && isName y) = true := ok
      simp only [Bool.and_eq_true] at ok
      have l_x := (name_size ok.1).2
      have l_y := (name_size ok.2).2
      have lw : (Str.ofString "move ").length = 5 := rfl
      cases r1 with
      | tup ea lx ra =>
        rename_i a xs
        obtain rfl := rep_txts ra
        have qa : SqT K H1 a ([Str.ofString "move", x, y].map V.str) := .inl (.inl ea)
        refine ⟨_, rfl, a, _, 0, .str (Str.ofString "move"), rfl, rfl, qa, atI_nat (j := 0) rfl, ?_⟩
        refine ⟨_, rfl, (show 3 ≤ sizeLine by decide), fun p1 np1 => ⟨p1, _, rfl, .inr (.inl (.inl upd_same)), rfl, rfl, _, rfl, ?_⟩⟩
        have s2 := same_upd (o := HO.tup ([Str.ofString "copy", Str.ofString "lend", Str.ofString "take"].map V.str)) np1
        have qa2 := sqT_same s2 qa
        have fin := q _ (s1.trans s2)
        have t1 : inV (V.str (Str.ofString "move")) [V.str (Str.ofString "copy"), V.str (Str.ofString "lend"), V.str (Str.ofString "take")] = false := rfl
        show if inV (V.str (Str.ofString "move")) [V.str (Str.ofString "copy"), V.str (Str.ofString "lend"), V.str (Str.ofString "take")] = true then _ else _
        rw [t1]
        refine iteF ?_
        refine ⟨_, rfl, rfl, _, rfl, ?_⟩
        rw [txtEq, show decide (Str.ofString "move" = Str.ofString "put") = false from by decide]
        refine iteF ?_
        refine ⟨_, rfl, rfl, _, rfl, ?_⟩
        rw [txtEq, show decide (Str.ofString "move" = Str.ofString "move") = true from by decide]
        refine iteT ?_
        refine ⟨Str.ofString "move ", rfl, small (by simp only [empty_cat, len_cat, l3, l1, lw]; omega), _, rfl, a, _, 1, .str x, rfl, rfl, qa2, atI_nat (j := 1) rfl, .inl ⟨x, rfl, small (by omega), x, rfl, small (by simp only [empty_cat, len_cat, l3, l1, lw]; omega), Str.ofString " = ", rfl, small (by simp only [empty_cat, len_cat, l3, l1, lw]; omega), _, rfl, a, _, 2, .str y, rfl, rfl, qa2, atI_nat (j := 2) rfl, .inl ⟨y, rfl, small (by omega), y, rfl, small (by simp only [empty_cat, len_cat, l3, l1, lw]; omega), ?_⟩⟩⟩
        have e : Str.empty ++ Str.ofString "move " ++ x ++ Str.ofString " = " ++ y = (StepF.move x y).text := by
          rw [empty_cat]
          rfl
        rw [e]
        exact fin
    | touch x p way =>
      have r1 : Rep H1 v (.tup ([Str.ofString "touch", x, p, way].map Dt.txt)) := r1
      have ok : (isName x && openS p && wayS way) = true := ok
      simp only [Bool.and_eq_true] at ok
      have l_x := (name_size ok.1.1).2
      have l_p := openS_len ok.1.2
      have l_q := place_len l_x l_p
      have l_w : way.length ≤ 8 := by
        rcases of_decide_eq_true ok.2 with rfl | rfl <;> decide
      have lw : (Str.ofString "touch ").length = 6 := rfl
      cases r1 with
      | tup ea lx ra =>
        rename_i a xs
        obtain rfl := rep_txts ra
        have qa : SqT K H1 a ([Str.ofString "touch", x, p, way].map V.str) := .inl (.inl ea)
        refine ⟨_, rfl, a, _, 0, .str (Str.ofString "touch"), rfl, rfl, qa, atI_nat (j := 0) rfl, ?_⟩
        refine ⟨_, rfl, (show 3 ≤ sizeLine by decide), fun p1 np1 => ⟨p1, _, rfl, .inr (.inl (.inl upd_same)), rfl, rfl, _, rfl, ?_⟩⟩
        have s2 := same_upd (o := HO.tup ([Str.ofString "copy", Str.ofString "lend", Str.ofString "take"].map V.str)) np1
        have qa2 := sqT_same s2 qa
        have fin := q _ (s1.trans s2)
        have t1 : inV (V.str (Str.ofString "touch")) [V.str (Str.ofString "copy"), V.str (Str.ofString "lend"), V.str (Str.ofString "take")] = false := rfl
        show if inV (V.str (Str.ofString "touch")) [V.str (Str.ofString "copy"), V.str (Str.ofString "lend"), V.str (Str.ofString "take")] = true then _ else _
        rw [t1]
        refine iteF ?_
        refine ⟨_, rfl, rfl, _, rfl, ?_⟩
        rw [txtEq, show decide (Str.ofString "touch" = Str.ofString "put") = false from by decide]
        refine iteF ?_
        refine ⟨_, rfl, rfl, _, rfl, ?_⟩
        rw [txtEq, show decide (Str.ofString "touch" = Str.ofString "move") = false from by decide]
        refine iteF ?_
        refine ⟨_, rfl, rfl, _, rfl, ?_⟩
        rw [txtEq, show decide (Str.ofString "touch" = Str.ofString "touch") = true from by decide]
        refine iteT ?_
        refine ⟨Str.ofString "touch ", rfl, small (by simp only [empty_cat, len_cat, l3, l1, lw]; omega), _, rfl, a, _, 1, .str x, rfl, rfl, qa2, atI_nat (j := 1) rfl, _, rfl, a, _, 2, .str p, rfl, rfl, qa2, atI_nat (j := 2) rfl, x, p, rfl, l_x, l_p, .inl ⟨(placeS x p), rfl, small (by omega), (placeS x p), rfl, small (by simp only [empty_cat, len_cat, l3, l1, lw]; omega), Str.ofString " ", rfl, small (by simp only [empty_cat, len_cat, l3, l1, lw]; omega), _, rfl, a, _, 3, .str way, rfl, rfl, qa2, atI_nat (j := 3) rfl, .inl ⟨way, rfl, small (by omega), way, rfl, small (by simp only [empty_cat, len_cat, l3, l1, lw]; omega), ?_⟩⟩⟩
        have e : Str.empty ++ Str.ofString "touch " ++ placeS x p ++ Str.ofString " " ++ way = (StepF.touch x p way).text := by
          rw [empty_cat]
          rfl
        rw [e]
        exact fin
    | new x =>
      have r1 : Rep H1 v (.tup ([Str.ofString "new", x].map Dt.txt)) := r1
      have l_x := (name_size ok).2
      have lw : (Str.ofString "new").length = 3 := rfl
      cases r1 with
      | tup ea lx ra =>
        rename_i a xs
        obtain rfl := rep_txts ra
        have qa : SqT K H1 a ([Str.ofString "new", x].map V.str) := .inl (.inl ea)
        refine ⟨_, rfl, a, _, 0, .str (Str.ofString "new"), rfl, rfl, qa, atI_nat (j := 0) rfl, ?_⟩
        refine ⟨_, rfl, (show 3 ≤ sizeLine by decide), fun p1 np1 => ⟨p1, _, rfl, .inr (.inl (.inl upd_same)), rfl, rfl, _, rfl, ?_⟩⟩
        have s2 := same_upd (o := HO.tup ([Str.ofString "copy", Str.ofString "lend", Str.ofString "take"].map V.str)) np1
        have qa2 := sqT_same s2 qa
        have fin := q _ (s1.trans s2)
        have t1 : inV (V.str (Str.ofString "new")) [V.str (Str.ofString "copy"), V.str (Str.ofString "lend"), V.str (Str.ofString "take")] = false := rfl
        show if inV (V.str (Str.ofString "new")) [V.str (Str.ofString "copy"), V.str (Str.ofString "lend"), V.str (Str.ofString "take")] = true then _ else _
        rw [t1]
        refine iteF ?_
        refine ⟨_, rfl, rfl, _, rfl, ?_⟩
        rw [txtEq, show decide (Str.ofString "new" = Str.ofString "put") = false from by decide]
        refine iteF ?_
        refine ⟨_, rfl, rfl, _, rfl, ?_⟩
        rw [txtEq, show decide (Str.ofString "new" = Str.ofString "move") = false from by decide]
        refine iteF ?_
        refine ⟨_, rfl, rfl, _, rfl, ?_⟩
        rw [txtEq, show decide (Str.ofString "new" = Str.ofString "touch") = false from by decide]
        refine iteF ?_
        refine ⟨_, rfl, rfl, _, rfl, ?_⟩
        rw [txtEq, show decide (Str.ofString "new" = Str.ofString "call") = false from by decide]
        refine iteF ?_
        refine ⟨⟨_, rfl⟩, .ref a, rfl, a, rfl, ⟨_, qa2⟩, fun D nD => ?_⟩
        refine lc_vals (vals := [Str.ofString "new", x].map V.str) walk_tup (fun x => match x with | .str z => !decide (z = Str.ofString "") | _ => false) id (show 2 ≤ 100000 by decide) nD (fun H' sm => sqT_same sm qa2) (fun x0 H4 Ky Kn hx sm k1 k0 => ?_) (fun H4 s4 e4 => ?_)
        · obtain ⟨z, hz, rfl⟩ := List.mem_map.mp (show x0 ∈ [Str.ofString "new", x].map V.str from hx)
          refine ⟨rfl, _, rfl, rfl, _, rfl, ?_⟩
          rw [txtEq]
          by_cases hz : z = Str.ofString ""
          · rw [decide_eq_true hz]
            exact iteF (k0 _ (.refl _) (by show (!decide (z = Str.ofString "")) = false; rw [decide_eq_true hz]; rfl))
          · rw [decide_eq_false hz]
            exact iteT ⟨_, rfl, k1 _ (.refl _) (by show (!decide (z = Str.ofString "")) = true; rw [decide_eq_false hz]; rfl)⟩
        · have e5 : (([Str.ofString "new", x].map V.str).filter fun x => match x with | .str z => !decide (z = Str.ofString "") | _ => false).map id = ([Str.ofString "new", x].filter fun z => !decide (z = Str.ofString "")).map V.str := by
            rw [List.map_id, List.filter_map]
            rfl
          have e4 : H4 D = some (.lst ((([Str.ofString "new", x].map V.str).filter fun x => match x with | .str z => !decide (z = Str.ofString "") | _ => false).map id)) := e4
          rw [e5] at e4
          have fin := q _ ((s1.trans s2).trans s4)
          rw [show ([Str.ofString "new", x].filter fun z => !decide (z = Str.ofString "")) = [Str.ofString "new", x] from by
            rw [List.filter_cons, if_pos (by decide), List.filter_cons, if_pos (nm_ne ok)]
            rfl] at e4
          refine ⟨Str.ofString " ", D, [Str.ofString "new", x], rfl, rfl, .inl (.inl (.inl e4)), ?_, ?_⟩
          · show (Str.ofString "new").length + (x.length + 0) + 2 * 1 ≤ 16777216
            omega
          · rw [show Txt.join (Str.ofString " ") [Str.ofString "new", x] = (StepF.new x).text from rfl]
            exact fin
    | drop x =>
      have r1 : Rep H1 v (.tup ([Str.ofString "drop", x].map Dt.txt)) := r1
      have l_x := (name_size ok).2
      have lw : (Str.ofString "drop").length = 4 := rfl
      cases r1 with
      | tup ea lx ra =>
        rename_i a xs
        obtain rfl := rep_txts ra
        have qa : SqT K H1 a ([Str.ofString "drop", x].map V.str) := .inl (.inl ea)
        refine ⟨_, rfl, a, _, 0, .str (Str.ofString "drop"), rfl, rfl, qa, atI_nat (j := 0) rfl, ?_⟩
        refine ⟨_, rfl, (show 3 ≤ sizeLine by decide), fun p1 np1 => ⟨p1, _, rfl, .inr (.inl (.inl upd_same)), rfl, rfl, _, rfl, ?_⟩⟩
        have s2 := same_upd (o := HO.tup ([Str.ofString "copy", Str.ofString "lend", Str.ofString "take"].map V.str)) np1
        have qa2 := sqT_same s2 qa
        have fin := q _ (s1.trans s2)
        have t1 : inV (V.str (Str.ofString "drop")) [V.str (Str.ofString "copy"), V.str (Str.ofString "lend"), V.str (Str.ofString "take")] = false := rfl
        show if inV (V.str (Str.ofString "drop")) [V.str (Str.ofString "copy"), V.str (Str.ofString "lend"), V.str (Str.ofString "take")] = true then _ else _
        rw [t1]
        refine iteF ?_
        refine ⟨_, rfl, rfl, _, rfl, ?_⟩
        rw [txtEq, show decide (Str.ofString "drop" = Str.ofString "put") = false from by decide]
        refine iteF ?_
        refine ⟨_, rfl, rfl, _, rfl, ?_⟩
        rw [txtEq, show decide (Str.ofString "drop" = Str.ofString "move") = false from by decide]
        refine iteF ?_
        refine ⟨_, rfl, rfl, _, rfl, ?_⟩
        rw [txtEq, show decide (Str.ofString "drop" = Str.ofString "touch") = false from by decide]
        refine iteF ?_
        refine ⟨_, rfl, rfl, _, rfl, ?_⟩
        rw [txtEq, show decide (Str.ofString "drop" = Str.ofString "call") = false from by decide]
        refine iteF ?_
        refine ⟨⟨_, rfl⟩, .ref a, rfl, a, rfl, ⟨_, qa2⟩, fun D nD => ?_⟩
        refine lc_vals (vals := [Str.ofString "drop", x].map V.str) walk_tup (fun x => match x with | .str z => !decide (z = Str.ofString "") | _ => false) id (show 2 ≤ 100000 by decide) nD (fun H' sm => sqT_same sm qa2) (fun x0 H4 Ky Kn hx sm k1 k0 => ?_) (fun H4 s4 e4 => ?_)
        · obtain ⟨z, hz, rfl⟩ := List.mem_map.mp (show x0 ∈ [Str.ofString "drop", x].map V.str from hx)
          refine ⟨rfl, _, rfl, rfl, _, rfl, ?_⟩
          rw [txtEq]
          by_cases hz : z = Str.ofString ""
          · rw [decide_eq_true hz]
            exact iteF (k0 _ (.refl _) (by show (!decide (z = Str.ofString "")) = false; rw [decide_eq_true hz]; rfl))
          · rw [decide_eq_false hz]
            exact iteT ⟨_, rfl, k1 _ (.refl _) (by show (!decide (z = Str.ofString "")) = true; rw [decide_eq_false hz]; rfl)⟩
        · have e5 : (([Str.ofString "drop", x].map V.str).filter fun x => match x with | .str z => !decide (z = Str.ofString "") | _ => false).map id = ([Str.ofString "drop", x].filter fun z => !decide (z = Str.ofString "")).map V.str := by
            rw [List.map_id, List.filter_map]
            rfl
          have e4 : H4 D = some (.lst ((([Str.ofString "drop", x].map V.str).filter fun x => match x with | .str z => !decide (z = Str.ofString "") | _ => false).map id)) := e4
          rw [e5] at e4
          have fin := q _ ((s1.trans s2).trans s4)
          rw [show ([Str.ofString "drop", x].filter fun z => !decide (z = Str.ofString "")) = [Str.ofString "drop", x] from by
            rw [List.filter_cons, if_pos (by decide), List.filter_cons, if_pos (nm_ne ok)]
            rfl] at e4
          refine ⟨Str.ofString " ", D, [Str.ofString "drop", x], rfl, rfl, .inl (.inl (.inl e4)), ?_, ?_⟩
          · show (Str.ofString "drop").length + (x.length + 0) + 2 * 1 ≤ 16777216
            omega
          · rw [show Txt.join (Str.ofString " ") [Str.ofString "drop", x] = (StepF.drop x).text from rfl]
            exact fin
    | skip =>
      have r1 : Rep H1 v (.tup ([Str.ofString "skip"].map Dt.txt)) := r1
      have lw : (Str.ofString "skip").length = 4 := rfl
      cases r1 with
      | tup ea lx ra =>
        rename_i a xs
        obtain rfl := rep_txts ra
        have qa : SqT K H1 a ([Str.ofString "skip"].map V.str) := .inl (.inl ea)
        refine ⟨_, rfl, a, _, 0, .str (Str.ofString "skip"), rfl, rfl, qa, atI_nat (j := 0) rfl, ?_⟩
        refine ⟨_, rfl, (show 3 ≤ sizeLine by decide), fun p1 np1 => ⟨p1, _, rfl, .inr (.inl (.inl upd_same)), rfl, rfl, _, rfl, ?_⟩⟩
        have s2 := same_upd (o := HO.tup ([Str.ofString "copy", Str.ofString "lend", Str.ofString "take"].map V.str)) np1
        have qa2 := sqT_same s2 qa
        have fin := q _ (s1.trans s2)
        have t1 : inV (V.str (Str.ofString "skip")) [V.str (Str.ofString "copy"), V.str (Str.ofString "lend"), V.str (Str.ofString "take")] = false := rfl
        show if inV (V.str (Str.ofString "skip")) [V.str (Str.ofString "copy"), V.str (Str.ofString "lend"), V.str (Str.ofString "take")] = true then _ else _
        rw [t1]
        refine iteF ?_
        refine ⟨_, rfl, rfl, _, rfl, ?_⟩
        rw [txtEq, show decide (Str.ofString "skip" = Str.ofString "put") = false from by decide]
        refine iteF ?_
        refine ⟨_, rfl, rfl, _, rfl, ?_⟩
        rw [txtEq, show decide (Str.ofString "skip" = Str.ofString "move") = false from by decide]
        refine iteF ?_
        refine ⟨_, rfl, rfl, _, rfl, ?_⟩
        rw [txtEq, show decide (Str.ofString "skip" = Str.ofString "touch") = false from by decide]
        refine iteF ?_
        refine ⟨_, rfl, rfl, _, rfl, ?_⟩
        rw [txtEq, show decide (Str.ofString "skip" = Str.ofString "call") = false from by decide]
        refine iteF ?_
        refine ⟨⟨_, rfl⟩, .ref a, rfl, a, rfl, ⟨_, qa2⟩, fun D nD => ?_⟩
        refine lc_vals (vals := [Str.ofString "skip"].map V.str) walk_tup (fun x => match x with | .str z => !decide (z = Str.ofString "") | _ => false) id (show 1 ≤ 100000 by decide) nD (fun H' sm => sqT_same sm qa2) (fun x0 H4 Ky Kn hx sm k1 k0 => ?_) (fun H4 s4 e4 => ?_)
        · obtain ⟨z, hz, rfl⟩ := List.mem_map.mp (show x0 ∈ [Str.ofString "skip"].map V.str from hx)
          refine ⟨rfl, _, rfl, rfl, _, rfl, ?_⟩
          rw [txtEq]
          by_cases hz : z = Str.ofString ""
          · rw [decide_eq_true hz]
            exact iteF (k0 _ (.refl _) (by show (!decide (z = Str.ofString "")) = false; rw [decide_eq_true hz]; rfl))
          · rw [decide_eq_false hz]
            exact iteT ⟨_, rfl, k1 _ (.refl _) (by show (!decide (z = Str.ofString "")) = true; rw [decide_eq_false hz]; rfl)⟩
        · have e5 : (([Str.ofString "skip"].map V.str).filter fun x => match x with | .str z => !decide (z = Str.ofString "") | _ => false).map id = ([Str.ofString "skip"].filter fun z => !decide (z = Str.ofString "")).map V.str := by
            rw [List.map_id, List.filter_map]
            rfl
          have e4 : H4 D = some (.lst ((([Str.ofString "skip"].map V.str).filter fun x => match x with | .str z => !decide (z = Str.ofString "") | _ => false).map id)) := e4
          rw [e5] at e4
          have fin := q _ ((s1.trans s2).trans s4)
          rw [show ([Str.ofString "skip"].filter fun z => !decide (z = Str.ofString "")) = [Str.ofString "skip"] from rfl] at e4
          refine ⟨Str.ofString " ", D, [Str.ofString "skip"], rfl, rfl, .inl (.inl (.inl e4)), ?_, ?_⟩
          · show (Str.ofString "skip").length + 0 + 1 * 1 ≤ 16777216
            decide
          · rw [show Txt.join (Str.ofString " ") [Str.ofString "skip"] = StepF.skip.text from rfl]
            exact fin
    | ret x =>
      have r1 : Rep H1 v (.tup ([Str.ofString "return", x].map Dt.txt)) := r1
      have l_x := openS_len ok
      have lw : (Str.ofString "return").length = 6 := rfl
      cases r1 with
      | tup ea lx ra =>
        rename_i a xs
        obtain rfl := rep_txts ra
        have qa : SqT K H1 a ([Str.ofString "return", x].map V.str) := .inl (.inl ea)
        refine ⟨_, rfl, a, _, 0, .str (Str.ofString "return"), rfl, rfl, qa, atI_nat (j := 0) rfl, ?_⟩
        refine ⟨_, rfl, (show 3 ≤ sizeLine by decide), fun p1 np1 => ⟨p1, _, rfl, .inr (.inl (.inl upd_same)), rfl, rfl, _, rfl, ?_⟩⟩
        have s2 := same_upd (o := HO.tup ([Str.ofString "copy", Str.ofString "lend", Str.ofString "take"].map V.str)) np1
        have qa2 := sqT_same s2 qa
        have fin := q _ (s1.trans s2)
        have t1 : inV (V.str (Str.ofString "return")) [V.str (Str.ofString "copy"), V.str (Str.ofString "lend"), V.str (Str.ofString "take")] = false := rfl
        show if inV (V.str (Str.ofString "return")) [V.str (Str.ofString "copy"), V.str (Str.ofString "lend"), V.str (Str.ofString "take")] = true then _ else _
        rw [t1]
        refine iteF ?_
        refine ⟨_, rfl, rfl, _, rfl, ?_⟩
        rw [txtEq, show decide (Str.ofString "return" = Str.ofString "put") = false from by decide]
        refine iteF ?_
        refine ⟨_, rfl, rfl, _, rfl, ?_⟩
        rw [txtEq, show decide (Str.ofString "return" = Str.ofString "move") = false from by decide]
        refine iteF ?_
        refine ⟨_, rfl, rfl, _, rfl, ?_⟩
        rw [txtEq, show decide (Str.ofString "return" = Str.ofString "touch") = false from by decide]
        refine iteF ?_
        refine ⟨_, rfl, rfl, _, rfl, ?_⟩
        rw [txtEq, show decide (Str.ofString "return" = Str.ofString "call") = false from by decide]
        refine iteF ?_
        refine ⟨⟨_, rfl⟩, .ref a, rfl, a, rfl, ⟨_, qa2⟩, fun D nD => ?_⟩
        refine lc_vals (vals := [Str.ofString "return", x].map V.str) walk_tup (fun x => match x with | .str z => !decide (z = Str.ofString "") | _ => false) id (show 2 ≤ 100000 by decide) nD (fun H' sm => sqT_same sm qa2) (fun x0 H4 Ky Kn hx sm k1 k0 => ?_) (fun H4 s4 e4 => ?_)
        · obtain ⟨z, hz, rfl⟩ := List.mem_map.mp (show x0 ∈ [Str.ofString "return", x].map V.str from hx)
          refine ⟨rfl, _, rfl, rfl, _, rfl, ?_⟩
          rw [txtEq]
          by_cases hz : z = Str.ofString ""
          · rw [decide_eq_true hz]
            exact iteF (k0 _ (.refl _) (by show (!decide (z = Str.ofString "")) = false; rw [decide_eq_true hz]; rfl))
          · rw [decide_eq_false hz]
            exact iteT ⟨_, rfl, k1 _ (.refl _) (by show (!decide (z = Str.ofString "")) = true; rw [decide_eq_false hz]; rfl)⟩
        · have e5 : (([Str.ofString "return", x].map V.str).filter fun x => match x with | .str z => !decide (z = Str.ofString "") | _ => false).map id = ([Str.ofString "return", x].filter fun z => !decide (z = Str.ofString "")).map V.str := by
            rw [List.map_id, List.filter_map]
            rfl
          have e4 : H4 D = some (.lst ((([Str.ofString "return", x].map V.str).filter fun x => match x with | .str z => !decide (z = Str.ofString "") | _ => false).map id)) := e4
          rw [e5] at e4
          have fin := q _ ((s1.trans s2).trans s4)
          by_cases hx : x = Str.ofString ""
          · rw [show ([Str.ofString "return", x].filter fun z => !decide (z = Str.ofString "")) = [Str.ofString "return"] from by
              rw [hx]
              rfl] at e4
            rw [show (StepF.ret x).text = Str.ofString "return" from if_pos hx] at fin
            refine ⟨Str.ofString " ", D, [Str.ofString "return"], rfl, rfl, .inl (.inl (.inl e4)), ?_, ?_⟩
            · show (Str.ofString "return").length + 0 + 1 * 1 ≤ 16777216
              decide
            · rw [show Txt.join (Str.ofString " ") [Str.ofString "return"] = Str.ofString "return" from rfl]
              exact fin
          · rw [show ([Str.ofString "return", x].filter fun z => !decide (z = Str.ofString "")) = [Str.ofString "return", x] from by
              rw [List.filter_cons, if_pos (by decide), List.filter_cons, if_pos (by rw [decide_eq_false hx]; rfl)]
              rfl] at e4
            rw [show (StepF.ret x).text = Str.ofString "return " ++ x from if_neg hx] at fin
            refine ⟨Str.ofString " ", D, [Str.ofString "return", x], rfl, rfl, .inl (.inl (.inl e4)), ?_, ?_⟩
            · show (Str.ofString "return").length + (x.length + 0) + 2 * 1 ≤ 16777216
              omega
            · rw [show Txt.join (Str.ofString " ") [Str.ofString "return", x] = Str.ofString "return " ++ x from rfl]
              exact fin
    | call rr g args => 
      have r1 : Rep H1 v (.tup [.txt (Str.ofString "call"), .txt rr, .txt g, .tup (args.map ArgF.dt)]) := r1
      have ok : (openS rr && isName g && decide (args.length ≤ 3) && args.all ArgF.ok) = true := ok
      simp only [Bool.and_eq_true, decide_eq_true_eq] at ok
      have l_r := openS_len ok.1.1.1
      have l_g := (name_size ok.1.1.2).2
      have l_j := args_len ok.2 ok.1.2
      have few := ok.1.2
      cases r1 with
      | tup ea lx ra =>
        rename_i a xs
        cases ra with
        | cons h0 ra =>
          cases h0
          cases ra with
          | cons h1 ra =>
            cases h1
            cases ra with
            | cons h2 ra =>
              cases h2
              cases ra with
              | cons h3 ra =>
                cases ra
                cases h3 with
                | tup eb ly rb =>
                  rename_i b ys
                  have qa : SqT K H1 a [.str (Str.ofString "call"), .str rr, .str g, .ref b] := .inl (.inl ea)
                  refine ⟨_, rfl, a, _, 0, .str (Str.ofString "call"), rfl, rfl, qa, atI_nat (j := 0) rfl, ?_⟩
                  refine ⟨_, rfl, (show 3 ≤ sizeLine by decide), fun p1 np1 => ⟨p1, _, rfl, .inr (.inl (.inl upd_same)), rfl, rfl, _, rfl, ?_⟩⟩
                  have s2 := same_upd (o := HO.tup ([Str.ofString "copy", Str.ofString "lend", Str.ofString "take"].map V.str)) np1
                  have qa2 := sqT_same s2 qa
                  have hb2 := s2 _ _ eb
                  have rb2 : RepAll _ ys (args.map ArgF.dt) := RepAll.same s2 _ _ rb
                  have t1 : inV (V.str (Str.ofString "call")) [V.str (Str.ofString "copy"), V.str (Str.ofString "lend"), V.str (Str.ofString "take")] = false := rfl
                  show if inV (V.str (Str.ofString "call")) [V.str (Str.ofString "copy"), V.str (Str.ofString "lend"), V.str (Str.ofString "take")] = true then _ else _
                  rw [t1]
                  refine iteF ?_
                  refine ⟨_, rfl, rfl, _, rfl, ?_⟩
                  rw [txtEq, show decide (Str.ofString "call" = Str.ofString "put") = false from by decide]
                  refine iteF ?_
                  refine ⟨_, rfl, rfl, _, rfl, ?_⟩
                  rw [txtEq, show decide (Str.ofString "call" = Str.ofString "move") = false from by decide]
                  refine iteF ?_
                  refine ⟨_, rfl, rfl, _, rfl, ?_⟩
                  rw [txtEq, show decide (Str.ofString "call" = Str.ofString "touch") = false from by decide]
                  refine iteF ?_
                  refine ⟨_, rfl, rfl, _, rfl, ?_⟩
                  rw [txtEq, show decide (Str.ofString "call" = Str.ofString "call") = true from by decide]
                  refine iteT ?_
                  obtain ⟨tg, htg, ltg⟩ : ∃ tg : Str, tg = (if rr = Str.ofString "" then Str.ofString "" else rr ++ Str.ofString " = ") ∧ tg.length ≤ 11 := by
                    refine ⟨_, rfl, ?_⟩
                    split
                    · decide
                    · rw [len_cat, l3]
                      omega
                  refine ⟨fun σ1 H3 => H3 = upd H1 p1 (HO.tup ([Str.ofString "copy", Str.ofString "lend", Str.ofString "take"].map V.str)) ∧ σ1 = [some (.ref a), some (.str (Str.ofString "call")), some (.str tg), none, none, none], ?_, ?_⟩
                  · refine ⟨_, rfl, a, _, 1, .str rr, rfl, rfl, qa2, atI_nat (j := 1) rfl, rfl, _, rfl, ?_⟩
                    rw [txtEq]
                    by_cases hr0 : rr = Str.ofString ""
                    · rw [decide_eq_true hr0]
                      rw [if_pos hr0] at htg
                      subst htg
                      exact iteT ⟨rfl, rfl⟩
                    · rw [decide_eq_false hr0]
                      rw [if_neg hr0] at htg
                      subst htg
                      refine iteF ⟨_, rfl, a, _, 1, .str rr, rfl, rfl, qa2, atI_nat (j := 1) rfl, .inl ⟨rr, rfl, small (by omega), rr, rfl, small (by simp only [empty_cat, len_cat, l3, l1]; omega), Str.ofString " = ", rfl, small (by simp only [empty_cat, len_cat, l3, l1]; omega), ?_⟩⟩
                      rw [empty_cat]
                      exact ⟨rfl, rfl⟩
                  · rintro σ1 H3 ⟨rfl, rfl⟩
                    have ll := rb2.length
                    rw [List.length_map] at ll
                    refine ⟨⟨_, rfl⟩, _, rfl, a, _, 3, .ref b, rfl, rfl, qa2, atI_nat (j := 3) rfl, b, rfl, ⟨ys, .inl (.inl hb2)⟩, fun D nD => ?_⟩
                    refine lc_gen walk_tup (fun i => ((args.take i).map ArgF.text).map V.str) rfl (fun i hi => ?_) nD (fun H' sm => .inl (.inl (sm _ _ hb2))) (fun i x H4 H5 Ky Kn hi sm y k1 k0 => ?_) (fun H4 s4 e4 => ?_)
                    · rw [List.length_map, List.length_map, List.length_take]
                      omega
                    · obtain ⟨rfl, hx⟩ := y
                      obtain ⟨d, hd, rd⟩ := rb2.at hx
                      rw [List.getElem?_map] at hd
                      obtain ⟨ar, har, rfl⟩ := Option.map_eq_some_iff.mp hd
                      refine ⟨rfl, _, rfl, x, ar, rfl, Rep.same sm _ _ rd, List.all_eq_true.mp ok.2 ar (List.mem_of_getElem? har), k1 _ _ (.refl _) ?_⟩
                      rw [List.take_add_one, har, List.map_append, List.map_append]
                      rfl
                    · rw [ll, List.take_length] at e4
                      have qa4 := sqT_same s4 qa2
                      have fin := q _ ((s1.trans s2).trans s4)
                      have ls := args_sum ok.2
                      refine ⟨Str.ofString ", ", D, args.map ArgF.text, rfl, rfl, .inl (.inl (.inl e4)), ?_, ?_⟩
                      · rw [List.length_map, show (Str.ofString ", ").length = 2 from rfl]
                        omega
                      · have lc : (Str.ofString "call ").length = 5 := rfl
                        have lo : (Str.ofString "(").length = 1 := rfl
                        have lcl : (Str.ofString ")").length = 1 := rfl
                        refine ⟨Str.ofString "call ", rfl, small (by simp only [empty_cat]; omega), _, rfl, .inl ⟨tg, rfl, small (by omega), tg, rfl, small (by simp only [empty_cat, len_cat, lc]; omega), _, rfl, a, _, 2, .str g, rfl, rfl, qa4, atI_nat (j := 2) rfl, .inl ⟨g, rfl, small (by omega), g, rfl, small (by simp only [empty_cat, len_cat, lc]; omega), Str.ofString "(", rfl, small (by simp only [empty_cat, len_cat, lc, lo]; omega), _, rfl, .inl ⟨Txt.join (Str.ofString ", ") (args.map ArgF.text), rfl, small (by omega), Txt.join (Str.ofString ", ") (args.map ArgF.text), rfl, small (by simp only [empty_cat, len_cat, lc, lo]; omega), Str.ofString ")", rfl, small (by simp only [empty_cat, len_cat, lc, lo, lcl]; omega), ?_⟩⟩⟩⟩
                        have e : Str.empty ++ Str.ofString "call " ++ tg ++ g ++ Str.ofString "(" ++ Txt.join (Str.ofString ", ") (args.map ArgF.text) ++ Str.ofString ")" = (StepF.call rr g args).text := by
                          rw [empty_cat, htg]
                          rfl
                        rw [e]
                        exact fin
/-! ### _guess_place, _guess_argument, _guess_call, _guess_step -/
theorem small1000 {k : Nat} (h : k ≤ 1000) : k ≤ sizeLine := Nat.le_trans h (by decide)
theorem scGP : FnScope ["text", "name", "_", "part"] ["text"] (defScope s__guess_place) := ⟨rfl, rfl, rfl, by decide +kernel, rfl, by decide +kernel, by decide +kernel⟩
def spGP : Sp := fun vs H Q _ => ∃ z : Str, vs = [.str z] ∧ z.length ≤ 1000 ∧ ∀ c H', Same H H' → H' c = some (.tup ((gPlace z).map V.str)) → Q (.ref c) H'
theorem ok_gp {f : Addr} {fd : FuncData} (F : Fun K "_guess_place" "_guess_place" s__guess_place f fd) : FnOk P w K mg base CX0 1 f fd ["text"] spGP := by
  refine F.ok scGP (fun vs H Q E h => ?_) (fun cdv A outer s H vs Q E hr h => ?_)
  · obtain ⟨z, rfl, _⟩ := h
    rfl
  · obtain ⟨z, rfl, lz, q⟩ := h
    refine ⟨_, (pss_cons (ps_asg (pe_partition (pv 0) pe_str) (pg_tup (by rfl) (pgs_cons (pg_name (i := 1) scGP.nd rfl (Or.inl rfl)) (pgs_cons (pg_name (i := 2) scGP.nd rfl (Or.inl rfl)) (pgs_cons (pg_name (i := 3) scGP.nd rfl (Or.inl rfl)) pgs_nil)))))
      (pss_one (ps_ret (pe_tup (pa_cons (pv 1) (pa_cons (pv 3) pa_nil)))))), ?_⟩
    refine ⟨_, rfl, ⟨_, rfl⟩, z, Str.ofString ".", rfl, rfl, rfl, small1000 lz, fun p np => ?_⟩
    refine ⟨p, _, rfl, .inl (.inl upd_same), rfl, _, _, rfl, _, _, rfl, _, _, rfl, rfl, ?_⟩
    refine ⟨_, rfl, _, rfl, (show 2 ≤ sizeLine by decide), fun t nt => ?_⟩
    exact q t _ ((same_upd np).trans (same_upd nt)) upd_same
theorem scGA : FnScope ["text", "word", "_", "rest"] ["text"] (defScope s__guess_argument) := ⟨rfl, rfl, rfl, by decide +kernel, rfl, by decide +kernel, by decide +kernel⟩
def spGA : Sp := fun vs H Q _ => ∃ z : Str, vs = [.str z] ∧ z.length ≤ 1000 ∧ ∀ c H', Same H H' → H' c = some (.tup ((gArg z).map V.str)) → Q (.ref c) H'
theorem strEq (x y : Str) : decide (V.str x = V.str y) = decide (x = y) := decide_eq_decide.mpr ⟨fun h => V.str.inj h, fun h => by rw [h]⟩
theorem ok_ga {f : Addr} {fd : FuncData} (F : Fun K "_guess_argument" "_guess_argument" s__guess_argument f fd) (cP : Cal P w K mg base 1 "_guess_place" spGP) : FnOk P w K mg base CX0 2 f fd ["text"] spGA := by
  refine F.ok scGA (fun vs H Q E h => ?_) (fun cdv A outer s H vs Q E hr h => ?_)
  · obtain ⟨z, rfl, _⟩ := h
    rfl
  · obtain ⟨z, rfl, lz, q⟩ := h
    refine ⟨_, (pss_cons (ps_asg (pe_partition (pv 0) pe_str) (pg_tup (by rfl) (pgs_cons (pg_name (i := 1) scGA.nd rfl (Or.inl rfl)) (pgs_cons (pg_name (i := 2) scGA.nd rfl (Or.inl rfl)) (pgs_cons (pg_name (i := 3) scGA.nd rfl (Or.inl rfl)) pgs_nil)))))
      (pss_one (ps_ret (pe_ifExp (pt_cmpR op_eq (pv 1) pe_str (nomark _)) (pe_tup (pa_cons (pv 1) (pa_cons (pv 3) pa_nil))) (pe_op op_catU (pe_tup (pa_cons (pv 1) pa_nil)) (C8.pe_c cP hr (by omega) (by rfl) (pa_cons (pv 3) pa_nil))))))), ?_⟩
    refine ⟨_, rfl, ⟨_, rfl⟩, z, Str.ofString " ", rfl, rfl, rfl, small1000 lz, fun p np => ?_⟩
    have sp := same_upd (o := HO.tup [V.str (Txt.partition z (Str.ofString " ")).1, V.str (Txt.partition z (Str.ofString " ")).2.1, V.str (Txt.partition z (Str.ofString " ")).2.2]) np
    refine ⟨p, _, rfl, .inl (.inl upd_same), rfl, _, _, rfl, _, _, rfl, _, _, rfl, rfl, ?_⟩
    refine ⟨_, rfl, rfl, _, rfl, ?_⟩
    rw [strEq]
    have fin := fun c H' k => q c H' (Same.trans sp k)
    unfold gArg gArgW at fin
    have lr := (part_len z (Str.ofString " ")).2
    by_cases hw : (Txt.partition z (Str.ofString " ")).1 = Str.ofString "move"
    · rw [decide_eq_true hw]
      rw [if_pos hw] at fin
      exact iteT ⟨_, rfl, _, rfl, (show 2 ≤ sizeLine by decide), fun t nt => fin t _ (same_upd nt) upd_same⟩
    · rw [decide_eq_false hw]
      rw [if_neg hw] at fin
      refine iteF ⟨_, rfl, (show 1 ≤ sizeLine by decide), fun t nt => ⟨_, rfl, _, rfl, by omega, fun c H2 s2 hc => ?_⟩⟩
      have st := same_upd (o := HO.tup [V.str (Txt.partition z (Str.ofString " ")).1]) nt
      exact ⟨t, c, _, _, rfl, rfl, s2 _ _ upd_same, hc, (show 1 + 2 ≤ sizeLine by decide), fun d H3 s3 hd => fin d H3 (st.trans (s2.trans s3)) hd⟩
abbrev gcN : List Str := ["text", "front", "_", "back", "target", "called", "told", "argument"]
theorem scGC : FnScope gcN ["text"] (defScope s__guess_call) := ⟨rfl, rfl, rfl, by decide +kernel, rfl, by decide +kernel, by decide +kernel⟩
def spGC : Sp := fun vs H Q _ => ∃ z : Str, vs = [.str z] ∧ z.length ≤ 900 ∧ ∀ v H', Same H H' → Rep H' v (gCall z) → Q v H'
theorem ok_gc {f : Addr} {fd : FuncData} (F : Fun K "_guess_call" "_guess_call" s__guess_call f fd) (mT : mg "tuple" = none) (cA : Cal P w K mg base 2 "_guess_argument" spGA) : FnOk P w K mg base CX0 3 f fd ["text"] spGC := by
  refine F.ok scGC (fun vs H Q E h => ?_) (fun cdv A outer s H vs Q E hr h => ?_)
  · obtain ⟨z, rfl, _⟩ := h
    rfl
  · obtain ⟨z, rfl, lz, q⟩ := h
    refine ⟨_, (pss_cons (ps_asg (pe_partition (pv 0) pe_str) (pg_tup (by rfl) (pgs_cons (pg_name (i := 1) scGC.nd rfl (Or.inl rfl)) (pgs_cons (pg_name (i := 2) scGC.nd rfl (Or.inl rfl)) (pgs_cons (pg_name (i := 3) scGC.nd rfl (Or.inl rfl)) pgs_nil)))))
      (pss_cons (ps_asg (pe_rpartition (pv 1) pe_str) (pg_tup (by rfl) (pgs_cons (pg_name (i := 4) scGC.nd rfl (Or.inl rfl)) (pgs_cons (pg_name (i := 2) scGC.nd rfl (Or.inl rfl)) (pgs_cons (pg_name (i := 5) scGC.nd rfl (Or.inl rfl)) pgs_nil)))))
      (Evl.pss_cut (ps_set (i := 6) scGC.nd rfl (.inl rfl) (pe_ifExp (pt_cmpR op_eq (pv 3) pe_str (nomark _)) (pe_lst pa_nil) (pe_split (pe_removesuffix (pv 3) pe_str) pe_str)))
      (pss_one (ps_ret (pe_tup (pa_cons (pe_str) (pa_cons (pv 4) (pa_cons (pv 5) (pa_cons (pe_callTy call_tuple_of (by rfl) mT (by decide +kernel) (pa_cons (pe_lc (own := [("argument", 7)]) (g := gName 7) (tt := tYes) rfl scGC.nd (pi_list (pv 6)) (blkOk_by (N := gcN) (sc := defScope s__guess_call) (by decide +kernel))
          (fun _ _ _ _ _ => pg_name (i := 7) scGC.nd rfl (Or.inl rfl)) (fun _ _ _ _ _ => pts_nil) (fun _ _ _ _ _ => C8.pe_c cA hr (by omega) (by rfl) (pa_cons (pv 7) pa_nil))) pa_nil)) pa_nil)))))))))), ?_⟩
    refine ⟨_, rfl, ⟨_, rfl⟩, z, Str.ofString "(", rfl, rfl, rfl, small1000 (by omega), fun p np => ?_⟩
    obtain ⟨l1, l2⟩ := part_len z (Str.ofString "(")
    have sp := same_upd (o := HO.tup [V.str (Txt.partition z (Str.ofString "(")).1, V.str (Txt.partition z (Str.ofString "(")).2.1, V.str (Txt.partition z (Str.ofString "(")).2.2]) np
    have fin := fun v H' k => q v H' (Same.trans sp k)
    unfold gCall at fin
    generalize (Txt.partition z (Str.ofString "(")).1 = fr at *
    generalize (Txt.partition z (Str.ofString "(")).2.2 = bk at *
    refine ⟨p, _, rfl, .inl (.inl upd_same), rfl, _, _, rfl, _, _, rfl, _, _, rfl, rfl, ?_⟩
    refine ⟨_, rfl, ⟨_, rfl⟩, fr, Str.ofString " = ", rfl, rfl, rfl, small1000 (by omega), fun p2 np2 => ?_⟩
    obtain ⟨l3, l4⟩ := rpart_len fr (Str.ofString " = ")
    refine ⟨p2, _, rfl, .inl (.inl upd_same), rfl, _, _, rfl, _, _, rfl, _, _, rfl, rfl, ?_⟩
    have s2 := same_upd (o := HO.tup [V.str (Txt.rpartition fr (Str.ofString " = ")).1, V.str (Txt.rpartition fr (Str.ofString " = ")).2.1, V.str (Txt.rpartition fr (Str.ofString " = ")).2.2]) np2
    have fin := fun v H' k => fin v H' (Same.trans s2 k)
    unfold gCallW at fin
    generalize (Txt.rpartition fr (Str.ofString " = ")).1 = t1 at *
    generalize (Txt.rpartition fr (Str.ofString " = ")).2.2 = t2 at *
    obtain ⟨lt, lz2⟩ := gTold_len bk
    refine ⟨fun σ1 H3 => ∃ (D0 : Addr) (t3 : Str), σ1 = [some (.str z), some (.str fr), some (.str t3), some (.str bk), some (.str t1), some (.str t2), some (.ref D0), none] ∧ (∀ v H', Same H3 H' → Rep H' v (.tup [.txt (Str.ofString "call"), .txt t1, .txt t2, .tup ((gTold bk).map fun z => txs (gArg z))]) → Q v H') ∧ H3 D0 = some (.lst ((gTold bk).map V.str)), ?_, ?_⟩
    · refine ⟨_, rfl, rfl, _, rfl, ?_⟩
      rw [strEq]
      by_cases hb : bk = Str.ofString ")"
      · rw [decide_eq_true hb]
        refine iteT ⟨(show 0 ≤ sizeLine by decide), fun D nD => ⟨D, _, rfl, fun v H' k => fin v H' (Same.trans (same_upd nD) k), ?_⟩⟩
        rw [upd_same, show gTold bk = [] from if_pos hb]
        rfl
      · rw [decide_eq_false hb]
        have := suffix_len bk (Str.ofString ")")
        refine iteF ⟨_, rfl, ⟨_, rfl⟩, bk, Str.ofString ")", rfl, rfl, small1000 (by omega), ⟨_, rfl⟩, Txt.removesuffix bk (Str.ofString ")"), Str.ofString ", ", rfl, rfl, rfl, small1000 (by omega), fun D nD => ⟨D, _, rfl, fun v H' k => fin v H' (Same.trans (same_upd nD) k), ?_⟩⟩
        rw [upd_same, show gTold bk = Txt.split (Txt.removesuffix bk (Str.ofString ")")) (Str.ofString ", ") from if_neg hb]
    · rintro σ1 H3 ⟨D0, t3, rfl, fin, h3⟩
      refine ⟨_, rfl, _, rfl, .ref D0, rfl, D0, rfl, ⟨_, .inl (.inl h3)⟩, fun D nD => ?_⟩
      refine lc_tups walk_list (fun i => match (gTold bk)[i]? with | some y => (gArg y).map V.str | none => []) (by rw [List.length_map]; omega) nD (fun H' sm => .inl (.inl (sm _ _ h3))) (fun i x H4 H5 Ky Kn hi sm y k1 => ?_) (fun H4 acc s4 e4 la ha => ?_)
      · obtain ⟨rfl, hx⟩ := y
        rw [List.getElem?_map] at hx
        obtain ⟨y, hy, rfl⟩ := Option.map_eq_some_iff.mp hx
        refine ⟨rfl, _, rfl, y, rfl, Nat.le_trans (lz2 y (List.mem_of_getElem? hy)) (by omega), fun c H6 s6 hc => k1 c H6 s6 ?_⟩
        rw [hy]
        exact hc
      · rw [List.length_map] at la ha
        refine ⟨D, acc, rfl, .inl ⟨.inl (.inl e4), fun t nt => ⟨(show 4 ≤ sizeLine by decide), fun p5 np5 => ?_⟩⟩⟩
        have s5 := (same_upd (o := HO.tup acc) nt).trans (same_upd (o := HO.tup [V.str (Str.ofString "call"), V.str t1, V.str t2, V.ref t]) np5)
        refine fin _ _ (s4.trans s5) (.tup upd_same (show 4 ≤ 1000 by decide) (.cons (.txt (show 4 ≤ 100000 by decide)) (.cons (.txt (by omega)) (.cons (.txt (by omega)) (.cons ?_ .nil)))))
        refine .tup (same_upd np5 _ _ upd_same) (by omega) (RepAll.same s5 _ _ (repAll_of (gTold bk) acc la (fun j y hj => ?_) fun y hy => ?_))
        · have hlt : j < (gTold bk).length := (List.getElem?_eq_some_iff.mp hj).1
          obtain ⟨c, h1, h2⟩ := ha j hlt
          rw [hj] at h2
          exact ⟨c, h1, h2⟩
        · obtain ⟨g1, g2⟩ := gArg_len y
          have := lz2 y hy
          exact ⟨by omega, fun u hu => Nat.le_trans (g2 u hu) (by omega)⟩
abbrev gsN : List Str := ["text", "word", "_", "rest", "name", "place", "other", "way"]
theorem scGS : FnScope gsN ["text"] (defScope s__guess_step) := ⟨rfl, rfl, rfl, by decide +kernel, rfl, by decide +kernel, by decide +kernel⟩
def spGS : Sp := fun vs H Q _ => ∃ z : Str, vs = [.str z] ∧ z.length ≤ 900 ∧ ∀ v H', Same H H' → Rep H' v (gStep z) → Q v H'
theorem ok_gs {f : Addr} {fd : FuncData} (F : Fun K "_guess_step" "_guess_step" s__guess_step f fd) (cP : Cal P w K mg base 1 "_guess_place" spGP) (cC : Cal P w K mg base 3 "_guess_call" spGC) : FnOk P w K mg base CX0 4 f fd ["text"] spGS := by
  refine F.ok scGS (fun vs H Q E h => ?_) (fun cdv A outer s H vs Q E hr h => ?_)
  · obtain ⟨z, rfl, _⟩ := h
    rfl
  · obtain ⟨z, rfl, lz, q⟩ := h
    refine ⟨_, (pss_cons (ps_asg (pe_partition (pv 0) pe_str) (pg_tup (by rfl) (pgs_cons (pg_name (i := 1) scGS.nd rfl (Or.inl rfl)) (pgs_cons (pg_name (i := 2) scGS.nd rfl (Or.inl rfl)) (pgs_cons (pg_name (i := 3) scGS.nd rfl (Or.inl rfl)) pgs_nil)))))
      (pss_cons (ps_if (pt_cmpR op_eq (pv 1) pe_str (nomark _)) (pss_one (ps_ret (pe_tup (pa_cons (pe_str) pa_nil)))) pss_nil)
      (pss_cons (ps_if (pt_cmpR op_in_seq (pv 1) (pe_tup (pa_cons (pe_str) (pa_cons (pe_str) (pa_cons (pe_str) pa_nil)))) (by rfl)) (pss_cons (ps_asg (pe_partition (pv 3) pe_str) (pg_tup (by rfl) (pgs_cons (pg_name (i := 4) scGS.nd rfl (Or.inl rfl)) (pgs_cons (pg_name (i := 2) scGS.nd rfl (Or.inl rfl)) (pgs_cons (pg_name (i := 5) scGS.nd rfl (Or.inl rfl)) pgs_nil)))))
      (pss_one (ps_ret (pe_op op_catU (pe_tup (pa_cons (pv 1) (pa_cons (pv 4) pa_nil))) (C8.pe_c cP hr (by omega) (by rfl) (pa_cons (pv 5) pa_nil)))))) pss_nil)
      (pss_cons (ps_if (pt_cmpR op_eq (pv 1) pe_str (nomark _)) (pss_cons (ps_asg (pe_partition (pv 3) pe_str) (pg_tup (by rfl) (pgs_cons (pg_name (i := 5) scGS.nd rfl (Or.inl rfl)) (pgs_cons (pg_name (i := 2) scGS.nd rfl (Or.inl rfl)) (pgs_cons (pg_name (i := 4) scGS.nd rfl (Or.inl rfl)) pgs_nil)))))
      (pss_one (ps_ret (pe_op op_catU (pe_op op_catU (pe_tup (pa_cons (pv 1) pa_nil)) (C8.pe_c cP hr (by omega) (by rfl) (pa_cons (pv 5) pa_nil))) (pe_tup (pa_cons (pv 4) pa_nil)))))) pss_nil)
      (pss_cons (ps_if (pt_cmpR op_eq (pv 1) pe_str (nomark _)) (pss_cons (ps_asg (pe_partition (pv 3) pe_str) (pg_tup (by rfl) (pgs_cons (pg_name (i := 4) scGS.nd rfl (Or.inl rfl)) (pgs_cons (pg_name (i := 2) scGS.nd rfl (Or.inl rfl)) (pgs_cons (pg_name (i := 6) scGS.nd rfl (Or.inl rfl)) pgs_nil)))))
      (pss_one (ps_ret (pe_tup (pa_cons (pv 1) (pa_cons (pv 4) (pa_cons (pv 6) pa_nil))))))) pss_nil)
      (pss_cons (ps_if (pt_cmpR op_eq (pv 1) pe_str (nomark _)) (pss_cons (ps_asg (pe_partition (pv 3) pe_str) (pg_tup (by rfl) (pgs_cons (pg_name (i := 5) scGS.nd rfl (Or.inl rfl)) (pgs_cons (pg_name (i := 2) scGS.nd rfl (Or.inl rfl)) (pgs_cons (pg_name (i := 7) scGS.nd rfl (Or.inl rfl)) pgs_nil)))))
      (pss_one (ps_ret (pe_op op_catU (pe_op op_catU (pe_tup (pa_cons (pv 1) pa_nil)) (C8.pe_c cP hr (by omega) (by rfl) (pa_cons (pv 5) pa_nil))) (pe_tup (pa_cons (pv 7) pa_nil)))))) pss_nil)
      (pss_cons (ps_if (pt_cmpR op_eq (pv 1) pe_str (nomark _)) (pss_one (ps_ret (C8.pe_c cC hr (by omega) (by rfl) (pa_cons (pv 3) pa_nil)))) pss_nil)
      (pss_one (ps_ret (pe_tup (pa_cons (pv 1) (pa_cons (pv 3) pa_nil)))))))))))), ?_⟩
    refine ⟨_, rfl, ⟨_, rfl⟩, z, Str.ofString " ", rfl, rfl, rfl, small1000 (by omega), fun p np => ?_⟩
    have sp := same_upd (o := HO.tup [V.str (Txt.partition z (Str.ofString " ")).1, V.str (Txt.partition z (Str.ofString " ")).2.1, V.str (Txt.partition z (Str.ofString " ")).2.2]) np
    obtain ⟨lw, lr⟩ := part_len z (Str.ofString " ")
    refine ⟨p, _, rfl, .inl (.inl upd_same), rfl, _, _, rfl, _, _, rfl, _, _, rfl, rfl, ?_⟩
    have fin := fun v H' k => q v H' (Same.trans sp k)
    unfold gStep gWord at fin
    generalize (Txt.partition z (Str.ofString " ")).1 = wd at *
    generalize (Txt.partition z (Str.ofString " ")).2.2 = rs at *
    have big : ∀ {n : Nat}, n ≤ 900 → n ≤ 100000 := fun h => Nat.le_trans h (by decide)
    have lw := Nat.le_trans lw lz
    have lr := Nat.le_trans lr lz
    refine ⟨_, rfl, rfl, _, rfl, ?_⟩
    rw [strEq]
    by_cases h1 : wd = Str.ofString "skip"
    · rw [decide_eq_true h1]
      rw [if_pos h1] at fin
      exact iteT ⟨(show 1 ≤ sizeLine by decide), fun t nt => fin _ _ (same_upd nt) (rep_txs (zs := [Str.ofString "skip"]) upd_same (show 1 ≤ 1000 by decide) (by decide))⟩
    rw [decide_eq_false h1]
    rw [if_neg h1] at fin
    refine iteF ⟨_, rfl, (show 3 ≤ sizeLine by decide), fun p1 np1 => ⟨p1, _, rfl, .inr (.inl (.inl upd_same)), rfl, rfl, _, rfl, ?_⟩⟩
    have s1 := same_upd (o := HO.tup ([Str.ofString "copy", Str.ofString "lend", Str.ofString "take"].map V.str)) np1
    have fin := fun v H' k => fin v H' (Same.trans s1 k)
    show if inV (V.str wd) ([Str.ofString "copy", Str.ofString "lend", Str.ofString "take"].map V.str) = true then _ else _
    rw [inV_strs]
    obtain ⟨m1, m2⟩ := part_len rs (Str.ofString " = ")
    obtain ⟨m3, m4⟩ := part_len rs (Str.ofString " ")
    by_cases h2 : wd ∈ [Str.ofString "copy", Str.ofString "lend", Str.ofString "take"]
    · rw [decide_eq_true h2]
      rw [if_pos h2] at fin
      refine iteT ⟨_, rfl, ⟨_, rfl⟩, rs, Str.ofString " = ", rfl, rfl, rfl, small1000 (by omega), fun p2 np2 => ?_⟩
      refine ⟨p2, _, rfl, .inl (.inl upd_same), rfl, _, _, rfl, _, _, rfl, _, _, rfl, rfl, ?_⟩
      refine ⟨_, rfl, _, rfl, (show 2 ≤ sizeLine by decide), fun t nt => ⟨_, rfl, _, rfl, by omega, fun c H3 s3 hc => ?_⟩⟩
      refine ⟨t, c, _, _, rfl, rfl, s3 _ _ upd_same, hc, (show 2 + 2 ≤ sizeLine by decide), fun d H4 s4 hd => ?_⟩
      refine fin _ _ ((same_upd np2).trans ((same_upd nt).trans (s3.trans s4))) (rep_txs (zs := gEq wd rs) hd (show 4 ≤ 1000 by decide) fun y hy => ?_)
      unfold gEq at hy
      rcases List.mem_cons.mp hy with rfl | hy
      · exact big lw
      · rcases List.mem_cons.mp hy with rfl | hy
        · exact big (by omega)
        · exact big (Nat.le_trans (gPlace_len _ y hy) (by omega))
    rw [decide_eq_false h2]
    rw [if_neg h2] at fin
    refine iteF ⟨_, rfl, rfl, _, rfl, ?_⟩
    rw [strEq]
    by_cases h3 : wd = Str.ofString "put"
    · rw [decide_eq_true h3]
      rw [if_pos h3] at fin
      refine iteT ⟨_, rfl, ⟨_, rfl⟩, rs, Str.ofString " = ", rfl, rfl, rfl, small1000 (by omega), fun p2 np2 => ?_⟩
      refine ⟨p2, _, rfl, .inl (.inl upd_same), rfl, _, _, rfl, _, _, rfl, _, _, rfl, rfl, ?_⟩
      refine ⟨_, rfl, (show 1 ≤ sizeLine by decide), fun t nt => ⟨_, rfl, _, rfl, by omega, fun c H3 s3 hc => ?_⟩⟩
      refine ⟨t, c, _, _, rfl, rfl, s3 _ _ upd_same, hc, (show 1 + 2 ≤ sizeLine by decide), fun d H4 s4 hd => ⟨_, rfl, (show 1 ≤ sizeLine by decide), fun t2 nt2 => ?_⟩⟩
      refine ⟨d, t2, _, _, rfl, rfl, same_upd nt2 _ _ hd, upd_same, (show 3 + 1 ≤ sizeLine by decide), fun e H5 s5 he => ?_⟩
      refine fin _ _ ((same_upd np2).trans ((same_upd nt).trans (s3.trans (s4.trans ((same_upd nt2).trans s5))))) (rep_txs (zs := gPut wd rs) he (show 4 ≤ 1000 by decide) fun y hy => ?_)
      unfold gPut at hy
      rcases List.mem_append.mp hy with hy | hy
      · rcases List.mem_cons.mp hy with rfl | hy
        · exact big lw
        · exact big (Nat.le_trans (gPlace_len _ y hy) (by omega))
      · rw [List.mem_singleton.mp hy]
        exact big (by omega)
    rw [decide_eq_false h3]
    rw [if_neg h3] at fin
    refine iteF ⟨_, rfl, rfl, _, rfl, ?_⟩
    rw [strEq]
    by_cases h4 : wd = Str.ofString "move"
    · rw [decide_eq_true h4]
      rw [if_pos h4] at fin
      refine iteT ⟨_, rfl, ⟨_, rfl⟩, rs, Str.ofString " = ", rfl, rfl, rfl, small1000 (by omega), fun p2 np2 => ?_⟩
      refine ⟨p2, _, rfl, .inl (.inl upd_same), rfl, _, _, rfl, _, _, rfl, _, _, rfl, rfl, ?_⟩
      refine ⟨_, rfl, _, rfl, _, rfl, (show 3 ≤ sizeLine by decide), fun t nt => ?_⟩
      refine fin _ _ ((same_upd np2).trans (same_upd nt)) (rep_txs (zs := gMove wd rs) upd_same (show 3 ≤ 1000 by decide) fun y hy => ?_)
      unfold gMove at hy
      simp only [List.mem_cons, List.not_mem_nil, or_false] at hy
      rcases hy with rfl | rfl | rfl <;> exact big (by omega)
    rw [decide_eq_false h4]
    rw [if_neg h4] at fin
    refine iteF ⟨_, rfl, rfl, _, rfl, ?_⟩
    rw [strEq]
    by_cases h5 : wd = Str.ofString "touch"
    · rw [decide_eq_true h5]
      rw [if_pos h5] at fin
      refine iteT ⟨_, rfl, ⟨_, rfl⟩, rs, Str.ofString " ", rfl, rfl, rfl, small1000 (by omega), fun p2 np2 => ?_⟩
      refine ⟨p2, _, rfl, .inl (.inl upd_same), rfl, _, _, rfl, _, _, rfl, _, _, rfl, rfl, ?_⟩
      refine ⟨_, rfl, (show 1 ≤ sizeLine by decide), fun t nt => ⟨_, rfl, _, rfl, by omega, fun c H3 s3 hc => ?_⟩⟩
      refine ⟨t, c, _, _, rfl, rfl, s3 _ _ upd_same, hc, (show 1 + 2 ≤ sizeLine by decide), fun d H4 s4 hd => ⟨_, rfl, (show 1 ≤ sizeLine by decide), fun t2 nt2 => ?_⟩⟩
      refine ⟨d, t2, _, _, rfl, rfl, same_upd nt2 _ _ hd, upd_same, (show 3 + 1 ≤ sizeLine by decide), fun e H5 s5 he => ?_⟩
      refine fin _ _ ((same_upd np2).trans ((same_upd nt).trans (s3.trans (s4.trans ((same_upd nt2).trans s5))))) (rep_txs (zs := gTouch wd rs) he (show 4 ≤ 1000 by decide) fun y hy => ?_)
      unfold gTouch at hy
      rcases List.mem_append.mp hy with hy | hy
      · rcases List.mem_cons.mp hy with rfl | hy
        · exact big lw
        · exact big (Nat.le_trans (gPlace_len _ y hy) (by omega))
      · rw [List.mem_singleton.mp hy]
        exact big (by omega)
    rw [decide_eq_false h5]
    rw [if_neg h5] at fin
    refine iteF ⟨_, rfl, rfl, _, rfl, ?_⟩
    rw [strEq]
    by_cases h6 : wd = Str.ofString "call"
    · rw [decide_eq_true h6]
      rw [if_pos h6] at fin
      exact iteT ⟨_, rfl, rs, rfl, lr, fun v H' s r => fin v H' s r⟩
    rw [decide_eq_false h6]
    rw [if_neg h6] at fin
    refine iteF ⟨_, rfl, _, rfl, (show 2 ≤ sizeLine by decide), fun t nt => ?_⟩
    refine fin _ _ (same_upd nt) (rep_txs (zs := [wd, rs]) upd_same (show 2 ≤ 1000 by decide) fun y hy => ?_)
    simp only [List.mem_cons, List.not_mem_nil, or_false] at hy
    rcases hy with rfl | rfl <;> exact big (by omega)
/-! ### _read_step -/
theorem scRS : FnScope ["text", "step"] ["text"] (defScope s__read_step) := ⟨rfl, rfl, rfl, by decide +kernel, rfl, by decide +kernel, by decide +kernel⟩
def spRS : Sp := fun vs H Q _ => ∃ (v : V) (d : Dt), vs = [v] ∧ Rep H v d ∧ (∀ z, d = .txt z → z.length ≤ 900) ∧ (∀ (f : StepF) v' H', d = .txt f.text → f.good = true → Same H H' → Rep H' v' f.dt → Q v' H') ∧ ((∀ z, d = .txt z → NoText z) → ∀ H', Same H H' → Q .non H')
theorem ok_rs {f : Addr} {fd : FuncData} {m : Nat} (hm : 4 ≤ m) (F : Fun K "_read_step" "_read_step" s__read_step f fd) (mI : mg "isinstance" = none) (mS : mg "str" = none) (cG : Cal P w K mg base 4 "_guess_step" spGS) (cI : Cal P w K mg base m "is_step" spIsStep) (cW : Cal P w K mg base (m + 1) "write_step" spWrite) :
    FnOk P w K mg base CX0 (m + 2) f fd ["text"] spRS := by
  refine F.ok scRS (fun vs H Q E h => ?_) (fun cdv A outer s H vs Q E hr h => ?_)
  · obtain ⟨v, d, rfl, _⟩ := h
    rfl
  · obtain ⟨v, d, rfl, r, lz, q1, q0⟩ := h
    refine ⟨_, (pss_cons (ps_if (pt_not (pt_val (pe_callB call_isi (by rfl) mI (by decide +kernel) (pa_cons (pv 0) (pa_cons (pe_bltn (by rfl) mS (by decide +kernel) (v := .ty "str") rfl) pa_nil))))) (pss_one (ps_ret pe_non)) pss_nil)
      (pss_cons (ps_set (i := 1) scRS.nd rfl (.inl rfl) (C8.pe_c cG hr (by omega) (by rfl) (pa_cons (pv 0) pa_nil)))
      (pss_one (ps_ret (pe_ifExp (PW.pt (pw_and (pt_val (C8.pe_c cI hr (by omega) (by rfl) (pa_cons (pv 1) pa_nil))) (pw_and1 (pt_cmpR op_eq (C8.pe_c cW hr (by omega) (by rfl) (pa_cons (pv 1) pa_nil)) (pv 0) (nomark _))))) (pv 1) pe_non))))), ?_⟩
    obtain ⟨t, ty, _, _, ks⟩ := dat_is (K := K) r.dat
    refine ⟨_, rfl, v, .ty "str", _, _, isTxt v, rfl, .ty _, ty, ks, _, rfl, ?_⟩
    cases d with
    | tup ds =>
      cases r with
      | tup => exact iteT (q0 (fun z e => nomatch e) H (.refl H))
    | oth =>
      have hv : isTxt v = false := by cases r <;> rfl
      rw [hv]
      exact iteT (q0 (fun z e => nomatch e) H (.refl H))
    | txt z =>
      cases r with
      | txt lz0 =>
        refine iteF ⟨_, rfl, z, rfl, lz z rfl, fun v1 H1 s1 r1 => ?_⟩
        refine ⟨_, rfl, v1, gStep z, rfl, r1, fun H2 b s2 hb => ⟨b, rfl, ?_⟩⟩
        have none : (∀ f : StepF, f.good = true → gStep z = f.dt → f.text ≠ z) → NoText z := fun h g hg e => h g hg (by rw [← e]; exact gStep_eq (good_ok hg)) e
        cases b with
        | false =>
          refine iteF (q0 (fun y e => ?_) H2 (s1.trans s2))
          cases e
          exact none fun g hg e => absurd (hb.mpr ⟨g, e, hg⟩) Bool.false_ne_true
        | true =>
          obtain ⟨g, eg, hg⟩ := hb.mp rfl
          have r2 := Rep.same s2 _ _ r1
          rw [eg] at r2
          refine iteT ⟨_, rfl, v1, g, rfl, r2, hg, fun H3 s3 => ⟨_, rfl, rfl, _, rfl, ?_⟩⟩
          rw [strEq]
          by_cases e : g.text = z
          · rw [decide_eq_true e]
            exact iteT ⟨_, rfl, q1 g v1 H3 (by rw [e]) hg (s1.trans (s2.trans s3)) (Rep.same s3 _ _ r2)⟩
          · rw [decide_eq_false e]
            refine iteF (q0 (fun y e' => ?_) H3 (s1.trans (s2.trans s3)))
            cases e'
            exact none fun f hf e' => by
              rw [eg] at e'
              rw [← dt_inj e']
              exact e
/-! ### what raises: write_step, read_step; _law_written, _law_read -/
def spWriteBad (C : Addr) : Sp := fun vs H _ E => ∃ (v : V) (d : Dt), vs = [v] ∧ Rep H v d ∧ ¬ GoodD d ∧ ∀ H', Same H H' → E (.ref C) none H'
theorem ok_writeBad {f C : Addr} {fd : FuncData} {m : Nat} (T : XcP K mg "InvalidFunction" C) (F : Fun K "write_step" "write_step" s_write_step f fd) (cS : Cal P w K mg base m "is_step" spIsStep) :
    FnOk P w K mg base (L2.CX P w) (m + 1) f fd ["step"] (spWriteBad C) := by
  refine F.okX scWrite (fun vs H Q E h => ?_) (fun cdv A outer s H vs Q E hr h => ?_)
  · obtain ⟨v, d, rfl, _⟩ := h
    rfl
  · obtain ⟨v, d, rfl, r, ng, q⟩ := h
    refine ⟨_, pss_cons (ps_if (pt_not (pt_val (C8.pe_c cS hr (by omega) (by rfl) (pa_cons (pv 0) pa_nil)))) (pss_one (ps_raise rfl (takes_of rfl rfl rfl rfl) (pmk_own PySem.F.excBase_ValueError T.x T.g T.k (raises_own T.b T.t) (by rfl)))) pss_nil) pss_never, ?_⟩
    refine ⟨_, rfl, v, d, rfl, r, fun H1 b s1 hb => ⟨b, rfl, ?_⟩⟩
    cases b with
    | true => exact absurd (hb.mp rfl) ng
    | false => exact iteT (q H1 s1)
def spWriteX (C : Addr) : Sp := fun vs H Q E => spWrite vs H Q E ∨ spWriteBad C vs H Q E
theorem scWritten : FnScope ["value"] ["value"] (defScope s_L_written) := ⟨rfl, rfl, rfl, by decide +kernel, rfl, by decide +kernel, by decide +kernel⟩
def spWritten : Sp := fun vs H Q _ => ∃ (v : V) (d : Dt), vs = [v] ∧ Rep H v d ∧ (∀ f : StepF, d = f.dt → f.good = true → ∀ H' p, Same H H' → H' p = some (.tup [.str (Str.ofString "text"), .str f.text]) → Q (.ref p) H') ∧
  (¬ GoodD d → ∀ H' p, Same H H' → H' p = some (.tup [.str (Str.ofString "refused"), .non]) → Q (.ref p) H')
theorem ok_written {f C : Addr} {fd : FuncData} {m : Nat} (T : XcP K mg "InvalidFunction" C) (F : Fun K "_law_written" "_law_written" s_L_written f fd) (cW : CalX P w K mg base m "write_step" (spWriteX C)) :
    FnOk P w K mg base CX0 (m + 1) f fd ["value"] spWritten := by
  refine F.ok scWritten (fun vs H Q E h => ?_) (fun cdv A outer s H vs Q E hr h => ?_)
  · obtain ⟨v, d, rfl, _⟩ := h
    rfl
  · obtain ⟨v, d, rfl, r, q1, q0⟩ := h
    refine ⟨_, (pss_one (ps_try_only (Wout := fun _ _ _ _ => False) rfl rfl ⟨rfl, by decide, .inl T.g⟩ takes0
      (fun W pn xe tk _ => pss_one (ps_ret (pe_tup (pa_cons (pe_str) (pa_cons (pe_cX cW hr (by omega) (by rfl) (fun σ => passAt tk σ) (pa_cons (pv 0) pa_nil)) pa_nil)))))
      (fun a oe cls d pn _ _ => pss_one (ps_ret (pe_tup (pa_cons (pe_str) (pa_cons (pe_non) pa_nil))))))), ?_⟩
    by_cases g : GoodD d
    · obtain ⟨f, rfl, hf⟩ := g
      refine ⟨_, rfl, .inl ⟨v, f, rfl, r, hf, fun H1 s1 => ⟨(show 2 ≤ sizeLine by decide), fun p np => ?_⟩⟩⟩
      exact q1 f rfl hf _ p (s1.trans (same_upd np)) upd_same
    · refine ⟨_, rfl, .inr ⟨v, d, rfl, r, g, fun H1 s1 => ⟨true, T.e, fun _ a ha => ⟨(show 2 ≤ sizeLine by decide), fun p np => ?_⟩, fun q => nomatch q⟩⟩⟩
      exact q0 g _ p (s1.trans (same_upd np)) upd_same
def s_Parse_init : Stmt := inClass s_ParseError 0
theorem scInit : FnScope ["self", "line"] ["self", "line"] (defScope s_Parse_init) := ⟨rfl, rfl, rfl, by decide +kernel, rfl, by decide +kernel, by decide +kernel⟩
theorem ok_init {f C fI : Addr} {fd : FuncData} (T : XcI K mg "ParseError" "line" C fI) (F : Fun K "__init__" "ParseError.__init__" s_Parse_init f fd) : FnOk P w K mg base CX0 1 f fd ["self", "line"] (spInit C "line") := by
  refine F.ok scInit (fun vs H Q E h => ?_) (fun cdv A outer s H vs Q E hr h => ?_)
  · obtain ⟨a, v, rfl, _⟩ := h
    rfl
  · obtain ⟨a, v, rfl, ha, q⟩ := h
    refine ⟨_, (pss_one (ps_ost (pv 0) (pv 1))), ?_⟩
    exact ⟨_, rfl, _, rfl, a, C, rfl, T.T, T.no, .inl ⟨ha, fun dx nd ne => q dx nd ne⟩⟩
theorem scRead : FnScope ["text", "step"] ["text"] (defScope s_read_step) := ⟨rfl, rfl, rfl, by decide +kernel, rfl, by decide +kernel, by decide +kernel⟩
def spRead (C : Addr) : Sp := fun vs H Q E => ∃ (v : V) (d : Dt), vs = [v] ∧ Rep H v d ∧ (∀ z, d = .txt z → z.length ≤ 900) ∧ (∀ (f : StepF) v' H', d = .txt f.text → f.good = true → Same H H' → Rep H' v' f.dt → Q v' H') ∧
  ((∀ z, d = .txt z → NoText z) → ∀ H' dd, Same H H' → H' dd = some (.xd [("line", .non)]) → E (.ref C) (some dd) H')
theorem ok_read {f C fI : Addr} {fd fdI : FuncData} {m : Nat} (hm : 1 ≤ m) (T : XcI K mg "ParseError" "line" C fI) (F : Fun K "read_step" "read_step" s_read_step f fd) (FI : FnOk P w K mg base CX0 1 fI fdI ["self", "line"] (spInit C "line")) (bI : Binds K fdI ["self", "line"] [])
    (cR : Cal P w K mg base m "_read_step" spRS) : FnOk P w K mg base (L2.CX P w) (m + 2) f fd ["text"] (spRead C) := by
  refine F.okX scRead (fun vs H Q E h => ?_) (fun cdv A outer s H vs Q E hr h => ?_)
  · obtain ⟨v, d, rfl, _⟩ := h
    rfl
  · obtain ⟨v, d, rfl, r, lz, q1, q0⟩ := h
    refine ⟨_, (pss_cons (ps_set (i := 1) scRead.nd rfl (.inl rfl) (C8.pe_c cR hr (by omega) (by rfl) (pa_cons (pv 0) pa_nil)))
      (pss_cons (ps_if (pt_cmpR op_isN (pv 1) pe_non (nomark _)) (pss_one (ps_raise rfl (takes_of rfl rfl rfl rfl) (pmk_oex T.T T.iC T.tI FI (hr.mono (by omega)) bI .nil pass0 (by rfl) T.g (pa_cons (pe_non) pa_nil)))) pss_nil)
      (pss_one (ps_ret (pv 1))))), ?_⟩
    refine ⟨_, rfl, v, d, rfl, r, lz, fun g v1 H1 e hg s1 r1 => ?_, fun hn H1 s1 => ?_⟩
    · obtain ⟨a1, xs1, rfl, _, _⟩ := form_rep r1
      exact ⟨_, rfl, rfl, _, rfl, iteF ⟨_, rfl, q1 g _ H1 e hg s1 r1⟩⟩
    · refine ⟨_, rfl, rfl, _, rfl, iteT ⟨(show 1 ≤ 1000 by decide), fun a na => ⟨a, .non, rfl, upd_same, fun dx nd ne => ⟨rfl, dx, [("line", .non)], upd_same, ?_, ?_, ?_⟩⟩⟩⟩
      · rw [upd_ne ne, upd_same]
      · rw [upd_ne ne] at nd
        exact nd
      · refine q0 hn _ dx (s1.trans ?_) upd_same
        have nd2 : H1 dx = none := by
          rw [upd_ne ne] at nd
          exact nd
        exact same_del na nd2 fun b o h1 h2 e => by rw [upd_ne h1, upd_ne h2, upd_ne h1]; exact e
theorem scLRead : FnScope ["text", "e"] ["text"] (defScope s_L_read) := ⟨rfl, rfl, rfl, by decide +kernel, rfl, by decide +kernel, by decide +kernel⟩
def spLRead : Sp := fun vs H Q _ => ∃ (v : V) (d : Dt), vs = [v] ∧ Rep H v d ∧ (∀ z, d = .txt z → z.length ≤ 900) ∧ (∀ (f : StepF) H' p u, d = .txt f.text → f.good = true → Same H H' → Rep H' u f.dt → H' p = some (.tup [.str (Str.ofString "step"), u]) → Q (.ref p) H') ∧
  ((∀ z, d = .txt z → NoText z) → ∀ H' p, Same H H' → H' p = some (.tup [.str (Str.ofString "refused"), .non]) → Q (.ref p) H')
theorem ok_lread {f C fI : Addr} {fd : FuncData} {m : Nat} (T : XcI K mg "ParseError" "line" C fI) (F : Fun K "_law_read" "_law_read" s_L_read f fd) (cR : CalX P w K mg base m "read_step" (spRead C)) :
    FnOk P w K mg base CX0 (m + 1) f fd ["text"] spLRead := by
  refine F.ok scLRead (fun vs H Q E h => ?_) (fun cdv A outer s H vs Q E hr h => ?_)
  · obtain ⟨v, d, rfl, _⟩ := h
    rfl
  · obtain ⟨v, d, rfl, r, lz, q1, q0⟩ := h
    refine ⟨_, (pss_one (ps_try_as (i := 1) (Wout := fun _ _ _ _ => False) rfl rfl scLRead.nd rfl rfl ⟨rfl, by decide, .inl T.g⟩ takes0
      (fun W pn xe tk _ => pss_one (ps_ret (pe_tup (pa_cons (pe_str) (pa_cons (pe_cX cR hr (by omega) (by rfl) (fun σ => passAt tk σ) (pa_cons (pv 0) pa_nil)) pa_nil)))))
      (fun a oe cls d pn hz hf => pss_one (ps_ret (pe_tup (pa_cons (pe_str) (pa_cons (pe_xf T.F T.no hz hf (pv 1)) pa_nil))))))), ?_⟩
    refine ⟨_, rfl, v, d, rfl, r, lz, fun g v1 H1 e hg s1 r1 => ⟨(show 2 ≤ sizeLine by decide), fun p np => ?_⟩, fun hn H1 dd s1 hd => ⟨true, T.e, fun _ a ha => ⟨_, rfl, rfl, rfl, dd, _, .non, rfl, hd, rfl, (show 2 ≤ sizeLine by decide), fun p np => ?_⟩, fun q => nomatch q⟩⟩
    · exact q1 g _ p v1 e hg (s1.trans (same_upd np)) (Rep.same (same_upd np) _ _ r1) upd_same
    · exact q0 hn _ p (s1.trans (same_upd np)) upd_same
/-! ### _law_is_name, _law_is_open, _law_is_way -/
def noLetter (c : Nat) : Bool := !(decide (97 ≤ c) && decide (c ≤ 122))
theorem no_letters {z : Str} : (cs z).filter noLetter = [] ↔ ((cs z).all fun c => decide (c ∈ lettersL)) = true := by
  rw [List.filter_eq_nil_iff, List.all_eq_true]
  constructor
  · intro h c hc
    have := h c hc
    unfold noLetter at this
    simp at this
    exact decide_eq_true ((letter_iff c).mpr this)
  · intro h c hc
    have := (letter_iff c).mp (of_decide_eq_true (h c hc))
    unfold noLetter
    simp
    exact this
theorem scLName : FnScope ["value", "some", "sign"] ["value"] (defScope s_L_is_name) := ⟨rfl, rfl, rfl, by decide +kernel, rfl, by decide +kernel, by decide +kernel⟩
def spLName : Sp := fun vs H Q _ => ∃ (v : V) (d : Dt), vs = [v] ∧ Rep H v d ∧ ∀ H', Same H H' → Q (.bl (nameD d)) H'
theorem ok_lname {f : Addr} {fd : FuncData} (F : Fun K "_law_is_name" "_law_is_name" s_L_is_name f fd) (mI : mg "isinstance" = none) (mS : mg "str" = none) (mL : mg "len" = none) : FnOk P w K mg base CX0 1 f fd ["value"] spLName := by
  refine F.ok scLName (fun vs H Q E h => ?_) (fun cdv A outer s H vs Q E hr h => ?_)
  · obtain ⟨v, d, rfl, _⟩ := h
    rfl
  · obtain ⟨v, d, rfl, r, q⟩ := h
    refine ⟨_, (pss_cons (ps_if (PW.pt (pw_or (pt_not (pt_val (pe_callB call_isi (by rfl) mI (by decide +kernel) (pa_cons (pv 0) (pa_cons (pe_bltn (by rfl) mS (by decide +kernel) (v := .ty "str") rfl) pa_nil)))))
          (pw_or (pt_cmpR op_eq (pv 0) pe_str (nomark _)) (pw_or1 (pt_cmpR op_gt (pe_callB call_len_str (by rfl) mL PySem.boot_len (pa_cons (pv 0) pa_nil)) pe_int (nomark _)))))) (pss_one (ps_ret pe_bl)) pss_nil)
      (pss_cons (ps_set (i := 1) scLName.nd rfl (.inl rfl) pe_str)
      (pss_one (ps_ret (pe_and (pe_cmpR (op_eqNilL (roomN hr)) (pe_lc (own := [("sign", 2)]) (g := gName 2) rfl scLName.nd (pi_str (pv 0)) (blkOk_by (N := ["value", "some", "sign"]) (sc := defScope s_L_is_name) (by decide +kernel))
          (fun _ _ _ _ _ => pg_name (i := 2) scLName.nd rfl (Or.inl rfl)) (fun _ _ _ _ _ => pts_one (pt_not (pt_chain op_le_str op_le_str pe_str (pv 2) pe_str))) (fun _ _ _ _ _ => pv 2)) (pe_lst pa_nil) (nomark _))
        (pe_one (pe_cmpR op_notIn_str (pe_op op_add_str (pe_op op_add_str pe_str (pv 0)) pe_str) (pv 1) (by rfl)))))))), ?_⟩
    obtain ⟨t, ty, _, _, ks⟩ := dat_is (K := K) r.dat
    refine ⟨_, rfl, v, .ty "str", _, _, isTxt v, rfl, .ty _, ty, ks, _, rfl, ?_⟩
    cases d with
    | tup ds =>
      cases r with
      | tup => exact iteT (q H (.refl H))
    | oth =>
      have hv : isTxt v = false := by cases r <;> rfl
      rw [hv]
      exact iteT (q H (.refl H))
    | txt z =>
      have q : ∀ H', Same H H' → Q (.bl (isName z)) H' := q
      cases r with
      | txt zl =>
        refine iteF ⟨_, rfl, rfl, _, rfl, ?_⟩
        rw [strEq]
        by_cases hz : z = Str.ofString ""
        · rw [decide_eq_true hz]
          have e7 : isName z = false := by rw [hz]; decide
          have fin := q H (.refl H)
          rw [e7] at fin
          exact iteT fin
        rw [decide_eq_false hz]
        have l1 : 1 ≤ z.length := by
          cases h : z.length with
          | zero =>
            refine absurd (cs_ext ?_) hz
            rw [cs_len] at h
            rw [List.length_eq_zero_iff.mp h]
            rfl
          | succ n => omega
        refine iteF ⟨_, rfl, z, rfl, Nat.le_trans zl (by decide), _, _, rfl, rfl, _, rfl, ite2 (fun c1 => ?_) (fun c1 => ?_)⟩
        · have fin := q H (.refl H)
          have e7 : isName z = false := by
            cases h : isName z with
            | false => rfl
            | true =>
              have h8 := (name_size h).2
              have c1 := of_decide_eq_true c1
              omega
          rw [e7] at fin
          exact fin
        · have l8 : z.length ≤ 8 := by
            rcases Nat.lt_or_ge 8 z.length with h | h
            · exact absurd (decide_eq_true (by omega)) c1
            · exact h
          refine ⟨_, rfl, _, rfl, fun D nD => ?_⟩
          refine lc_vals walk_signs (fun x => match x with | .str y => (cs y).any noLetter | _ => false) id (by rw [signs_len, ← cs_len]; exact zl) nD (fun _ _ => trivial) (fun x H2 Ky Kn hx sm k1 k0 => ?_) (fun H1 s1 e1 => ?_)
          · obtain ⟨c, hc, rfl⟩ := List.mem_map.mp hx
            have ev : (cs ⟨#[c]⟩).any noLetter = noLetter c := by
              rw [cs_one]
              simp
            refine ⟨rfl, _, rfl, _, _, rfl, rfl, _, rfl, ?_⟩
            rw [show decide ((⟨#[c]⟩ : Str).cps.toList < (Str.ofString "a").cps.toList) = decide (c < 97) from one_lt c 97]
            by_cases h1 : c < 97
            · rw [decide_eq_true h1]
              refine iteF ⟨_, rfl, iteT ⟨_, rfl, k1 _ (.refl _) ?_⟩⟩
              show (cs ⟨#[c]⟩).any noLetter = true
              rw [ev]
              unfold noLetter
              simp
              omega
            · rw [decide_eq_false h1]
              refine iteT ⟨_, _, rfl, rfl, _, rfl, ?_⟩
              rw [show decide ((Str.ofString "z").cps.toList < (⟨#[c]⟩ : Str).cps.toList) = decide (122 < c) from one_lt 122 c]
              by_cases h2 : 122 < c
              · rw [decide_eq_true h2]
                refine iteT ⟨_, rfl, k1 _ (.refl _) ?_⟩
                show (cs ⟨#[c]⟩).any noLetter = true
                rw [ev]
                unfold noLetter
                simp
                omega
              · rw [decide_eq_false h2]
                refine iteF (k0 _ (.refl _) ?_)
                show (cs ⟨#[c]⟩).any noLetter = false
                rw [ev]
                unfold noLetter
                simp
                omega
          · have e2 : (((signs z).filter fun x => match x with | .str y => (cs y).any noLetter | _ => false).map id) = ((cs z).filter noLetter).map fun c => V.str (⟨#[c]⟩ : Str) := by
              unfold signs
              rw [List.map_id, List.filter_map]
              congr 1
              refine List.filter_congr fun c _ => ?_
              show (cs ⟨#[c]⟩).any noLetter = noLetter c
              rw [cs_one]
              simp
            rw [e2] at e1
            refine ⟨Nat.zero_le _, fun p np => ⟨D, p, _, rfl, rfl, .inl (.inl (same_upd np _ _ e1)), .inl (.inl upd_same), _, rfl, ite2 (fun c3 => ?_) (fun c3 => ?_)⟩⟩
            · have al := no_letters.mp (List.map_eq_nil_iff.mp (List.isEmpty_iff.mp c3))
              refine ⟨_, rfl, _, _, rfl, rfl, ?_, _, _, rfl, rfl, ?_, _, rfl, _, _, rfl, rfl, ?_⟩
              · show 1 + z.length ≤ sizeLine
                rw [sizeLine_eq]
                omega
              · have e5 : (Str.ofString " " ++ z).length = 1 + z.length := by
                  rw [cs_len, cs_app, List.length_append, ← cs_len, ← cs_len]
                  rfl
                rw [e5, sizeLine_eq]
                show 1 + z.length + 1 ≤ _
                omega
              · have ns : ∀ c ∈ cs z, c ≠ 32 := fun c hc => by
                  have := (letter_iff c).mp (of_decide_eq_true (List.all_eq_true.mp al c hc))
                  omega
                have e6 := kw_row l1 l8 ns
                have e7 : (!(!(Builtin.Str.occurrences rowS (Str.ofString " " ++ z ++ Str.ofString " ") 0 rowS.length 1).isEmpty)) = isName z := by
                  rw [e6]
                  unfold isName
                  rw [decide_eq_true l1, decide_eq_true l8, al]
                  simp
                have fin := q _ (s1.trans (same_upd (o := HO.lst []) np))
                rw [← e7] at fin
                exact fin
            · have fin := q _ (s1.trans (same_upd (o := HO.lst []) np))
              have e7 : isName z = false := by
                cases h : isName z with
                | false => rfl
                | true =>
                  refine absurd (List.isEmpty_iff.mpr ?_) c3
                  unfold isName at h
                  simp only [Bool.and_eq_true] at h
                  rw [no_letters.mpr h.2]
                  rfl
              rw [e7] at fin
              exact fin
theorem scLOpen : FnScope ["value"] ["value"] (defScope s_L_is_open) := ⟨rfl, rfl, rfl, by decide +kernel, rfl, by decide +kernel, by decide +kernel⟩
theorem ok_lopen {f : Addr} {fd : FuncData} (F : Fun K "_law_is_open" "_law_is_open" s_L_is_open f fd) (mI : mg "isinstance" = none) (mS : mg "str" = none) (cN : Cal P w K mg base 1 "_law_is_name" spLName) : FnOk P w K mg base CX0 2 f fd ["value"] spOpen := by
  refine F.ok scLOpen (fun vs H Q E h => ?_) (fun cdv A outer s H vs Q E hr h => ?_)
  · obtain ⟨v, d, rfl, _⟩ := h
    rfl
  · obtain ⟨v, d, rfl, r, q⟩ := h
    refine ⟨_, (pss_one (ps_ret (pe_or (pe_and (pe_callB call_isi (by rfl) mI (by decide +kernel) (pa_cons (pv 0) (pa_cons (pe_bltn (by rfl) mS (by decide +kernel) (v := .ty "str") rfl) pa_nil))) (pe_one (pe_cmpR op_eq (pv 0) pe_str (nomark _)))) (pe_one (C8.pe_c cN hr (by omega) (by rfl) (pa_cons (pv 0) pa_nil)))))), ?_⟩
    obtain ⟨t, ty, _, _, ks⟩ := dat_is (K := K) r.dat
    refine ⟨_, rfl, v, .ty "str", _, _, isTxt v, rfl, .ty _, ty, ks, _, rfl, ?_⟩
    cases d with
    | tup ds =>
      cases r with
      | tup h1 h2 h3 => exact iteF ⟨_, rfl, iteF ⟨_, rfl, _, _, rfl, .tup h1 h2 h3, fun H1 s1 => q H1 s1⟩⟩
    | oth =>
      have hv : isTxt v = false := by cases r <;> rfl
      rw [hv]
      exact iteF ⟨_, rfl, iteF ⟨_, rfl, _, _, rfl, r, fun H1 s1 => q H1 s1⟩⟩
    | txt z =>
      cases r with
      | txt zl =>
        have q : ∀ H', Same H H' → Q (.bl (decide (z = Str.ofString "") || isName z)) H' := q
        refine iteT ⟨_, rfl, rfl, _, rfl, ?_⟩
        rw [strEq]
        cases h : decide (z = Str.ofString "") with
        | true =>
          rw [h] at q
          exact iteT (q H (.refl H))
        | false =>
          rw [h] at q
          exact iteF ⟨_, rfl, _, _, rfl, .txt zl, fun H1 s1 => q H1 s1⟩
theorem scLWay : FnScope ["value"] ["value"] (defScope s_L_is_way) := ⟨rfl, rfl, rfl, by decide +kernel, rfl, by decide +kernel, by decide +kernel⟩
def spLWay : Sp := fun vs H Q _ => ∃ (v : V) (d : Dt), vs = [v] ∧ Rep H v d ∧ ∀ H', Same H H' → Q (.bl (wayD d)) H'
theorem ok_lway {f : Addr} {fd : FuncData} (F : Fun K "_law_is_way" "_law_is_way" s_L_is_way f fd) (mI : mg "isinstance" = none) (mS : mg "str" = none) : FnOk P w K mg base CX0 1 f fd ["value"] spLWay := by
  refine F.ok scLWay (fun vs H Q E h => ?_) (fun cdv A outer s H vs Q E hr h => ?_)
  · obtain ⟨v, d, rfl, _⟩ := h
    rfl
  · obtain ⟨v, d, rfl, r, q⟩ := h
    refine ⟨_, (pss_one (ps_ret (pe_and (pe_callB call_isi (by rfl) mI (by decide +kernel) (pa_cons (pv 0) (pa_cons (pe_bltn (by rfl) mS (by decide +kernel) (v := .ty "str") rfl) pa_nil))) (pe_one (pe_cmpR (op_inS (roomI hr)) (pv 0) (pe_tup (pa_cons (pe_str) (pa_cons (pe_str) pa_nil))) (by rfl)))))), ?_⟩
    obtain ⟨t, ty, _, _, ks⟩ := dat_is (K := K) r.dat
    refine ⟨_, rfl, v, .ty "str", _, _, isTxt v, rfl, .ty _, ty, ks, _, rfl, ?_⟩
    cases d with
    | tup ds =>
      cases r with
      | tup => exact iteF (q H (.refl H))
    | oth =>
      have hv : isTxt v = false := by cases r <;> rfl
      rw [hv]
      exact iteF (q H (.refl H))
    | txt z =>
      have e := way_in r
      cases r with
      | txt zl =>
        refine iteT ⟨_, rfl, (show 2 ≤ sizeLine by decide), fun p np => ⟨p, [Str.ofString "full", Str.ofString "look"], rfl, .inl (.inl upd_same), True.intro, ?_⟩⟩
        have fin := q _ (same_upd (o := HO.tup [V.str (Str.ofString "full"), V.str (Str.ofString "look")]) np)
        rw [← e] at fin
        exact fin
/-! ### _law_is_arg, _law_are_args -/
def isTupD : Dt → Bool | .tup _ => true | _ => false
theorem rep_tuple {K : PySem.W.Frag} {H : Hp} {v : V} {d : Dt} (r : Rep H v d) : ∃ t, TyX K H v (.type t) ∧ PySem.W.kitOne K (.type t) (.type "tuple") = some (isTupD d) := by
  cases r with
  | tup e => exact ⟨_, .base (.tup e), kit_ty (r := true) (by decide +kernel)⟩
  | txt l => exact ⟨_, .base (.str _), kit_ty (r := false) (by decide +kernel)⟩
  | non => exact ⟨_, .base .non, kit_ty (r := false) (by decide +kernel)⟩
  | bl => exact ⟨_, .base (.bl _), kit_ty (r := false) (by decide +kernel)⟩
  | int => exact ⟨_, .base (.int _), kit_ty (r := false) (by decide +kernel)⟩
  | lst e => exact ⟨_, .base (.lst e), kit_ty (r := false) (by decide +kernel)⟩
  | dct e => exact ⟨_, .base (.dK e), kit_ty (r := false) (by decide +kernel)⟩
def inD (zs : List Str) : Dt → Bool | .txt z => decide (z ∈ zs) | _ => false
theorem inTxt_rep {H : Hp} {v : V} {d : Dt} (r : Rep H v d) (zs : List Str) : inTxt v zs = inD zs d := by
  cases r with
  | txt l => exact inTxt_str _ _
  | _ => exact inTxt_other (fun z e => by cases e) _
theorem inD_true {zs : List Str} {d : Dt} (h : inD zs d = true) : ∃ z, d = .txt z ∧ z ∈ zs := by
  cases d with
  | txt z => exact ⟨z, rfl, of_decide_eq_true h⟩
  | _ => cases h
theorem argD_no {d0 : Dt} {r : List Dt} (h : inD [Str.ofString "lend", Str.ofString "move"] d0 = false) : argD (.tup (d0 :: r)) = false := by
  cases d0 with
  | txt z =>
    have h : z ∉ [Str.ofString "lend", Str.ofString "move"] := of_decide_eq_false h
    show allRoles flatRole (argRoles.lookup z) (.txt z :: r) = false
    have e : argRoles.lookup z = none := by
      unfold argRoles
      rw [List.lookup_cons, beq_eq_false_iff_ne.mpr (fun e => h (by rw [e]; exact List.mem_cons_self))]
      show List.lookup z [_] = none
      rw [List.lookup_cons, beq_eq_false_iff_ne.mpr (fun e => h (by rw [e]; exact List.mem_cons_of_mem _ List.mem_cons_self))]
      rfl
    rw [e]
    rfl
  | _ => rfl
theorem scLArg : FnScope ["value"] ["value"] (defScope s_L_is_arg) := ⟨rfl, rfl, rfl, by decide +kernel, rfl, by decide +kernel, by decide +kernel⟩
def spLArg : Sp := fun vs H Q _ => ∃ (v : V) (d : Dt), vs = [v] ∧ Rep H v d ∧ ∀ H', Same H H' → Q (.bl (argD d)) H'
theorem intEq (m n : Nat) : decide (V.int (m : Int) = V.int (n : Int)) = decide (m = n) := decide_eq_decide.mpr ⟨fun h => by have := V.int.inj h; omega, fun h => by rw [h]⟩
set_option maxHeartbeats 1000000 in
theorem ok_larg {f : Addr} {fd : FuncData} (F : Fun K "_law_is_arg" "_law_is_arg" s_L_is_arg f fd) (mI : mg "isinstance" = none) (mT : mg "tuple" = none) (mL : mg "len" = none) (cN : Cal P w K mg base 1 "_law_is_name" spLName) (cO : Cal P w K mg base 2 "_law_is_open" spOpen) : FnOk P w K mg base CX0 3 f fd ["value"] spLArg := by
  refine F.ok scLArg (fun vs H Q E h => ?_) (fun cdv A outer s H vs Q E hr h => ?_)
  · obtain ⟨v, d, rfl, _⟩ := h
    rfl
  · obtain ⟨v, d, rfl, r, q⟩ := h
    refine ⟨_, (pss_cons (ps_if (PW.pt (pw_or (pt_not (pt_val (pe_callB call_isi (by rfl) mI (by decide +kernel) (pa_cons (pv 0) (pa_cons (pe_bltn (by rfl) mT (by decide +kernel) (v := .ty "tuple") rfl) pa_nil)))))
          (pw_or (pt_cmpR op_lt (pe_callB call_len_seq (by rfl) mL PySem.boot_len (pa_cons (pv 0) pa_nil)) pe_int (nomark _)) (pw_or1 (pt_cmpR (op_notInS (roomI hr)) (pe_ix ix_tup (pv 0) pe_int (fun _ _ => rfl)) (pe_tup (pa_cons (pe_str) (pa_cons (pe_str) pa_nil))) (by rfl)))))) (pss_one (ps_ret pe_bl)) pss_nil)
      (pss_cons (ps_if (pt_cmpR op_eq (pe_ix ix_tup (pv 0) pe_int (fun _ _ => rfl)) pe_str (nomark _)) (pss_one (ps_ret (pe_and (pe_cmpR op_eq (pe_callB call_len_seq (by rfl) mL PySem.boot_len (pa_cons (pv 0) pa_nil)) pe_int (nomark _)) (pe_one (C8.pe_c cN hr (by omega) (by rfl) (pa_cons (pe_ix ix_tup (pv 0) pe_int (fun _ _ => rfl)) pa_nil)))))) pss_nil)
      (pss_one (ps_ret (pe_and (pe_cmpR op_eq (pe_callB call_len_seq (by rfl) mL PySem.boot_len (pa_cons (pv 0) pa_nil)) pe_int (nomark _)) (pe_and (C8.pe_c cN hr (by omega) (by rfl) (pa_cons (pe_ix ix_tup (pv 0) pe_int (fun _ _ => rfl)) pa_nil)) (pe_one (C8.pe_c cO hr (by omega) (by rfl) (pa_cons (pe_ix ix_tup (pv 0) pe_int (fun _ _ => rfl)) pa_nil))))))))), ?_⟩
    obtain ⟨t, ty, ks⟩ := rep_tuple (K := K) r
    refine ⟨_, rfl, v, .ty "tuple", _, _, isTupD d, rfl, .ty _, ty, ks, _, rfl, ?_⟩
    cases d with
    | txt z => exact iteT (q H (.refl H))
    | oth => exact iteT (q H (.refl H))
    | tup ds =>
      refine iteF ?_
      cases r with
      | tup e l ra =>
        rename_i a xs
        have ll := ra.length
        refine ⟨_, rfl, a, xs, rfl, .inr (.inl (.inl e)), _, _, rfl, rfl, _, rfl, ite2 (fun h => ?_) (fun h => ?_)⟩
        · have fin := q H (.refl H)
          have h := of_decide_eq_true h
          match ds, ll with
          | [], _ => exact fin
          | [d0], _ =>
            have e7 : argD (.tup [d0]) = false := by
              cases hb : argD (.tup [d0]) with
              | false => rfl
              | true =>
                obtain ⟨g, e8, _⟩ := arg_inv hb
                cases g <;> cases e8
            rw [e7] at fin
            exact fin
          | d0 :: d1 :: dr, ll =>
            rw [List.length_cons, List.length_cons] at ll
            omega
        · have hl : ¬ ((xs.length : Int) < 2) := fun z => h (decide_eq_true z)
          cases ra with
          | nil => exact absurd (show (0 : Int) < 2 by decide) hl
          | cons h0 ra =>
            cases ra with
            | nil => exact absurd (show (1 : Int) < 2 by decide) hl
            | cons h1 ra =>
                rename_i x0 d0 x1 xr d1 dr
                have qa : SqT K H a (x0 :: x1 :: xr) := .inl (.inl e)
                refine ⟨_, rfl, a, _, 0, x0, rfl, rfl, qa, atI_nat (j := 0) rfl, (show 2 ≤ sizeLine by decide), fun p np => ⟨p, [Str.ofString "lend", Str.ofString "move"], rfl, .inl (.inl upd_same), dat_x (h0.dat.same (same_upd np)), _, rfl, ?_⟩⟩
                have s1 := same_upd (o := HO.tup ([Str.ofString "lend", Str.ofString "move"].map V.str)) np
                rw [inTxt_rep h0]
                cases hi : inD [Str.ofString "lend", Str.ofString "move"] d0 with
                | false =>
                  have fin := q _ s1
                  rw [argD_no hi] at fin
                  exact iteT fin
                | true =>
                  obtain ⟨z, rfl, hz⟩ := inD_true hi
                  cases h0
                  have qa1 := sqT_same s1 qa
                  have fin := fun H' k => q H' (Same.trans s1 k)
                  refine iteF ⟨_, rfl, a, _, 0, .str z, rfl, rfl, qa1, atI_nat (j := 0) rfl, rfl, _, rfl, ?_⟩
                  rw [strEq]
                  by_cases hm : z = Str.ofString "move"
                  · rw [decide_eq_true hm]
                    refine iteT ⟨_, rfl, a, _, rfl, .inr qa1, rfl, _, rfl, ?_⟩
                    subst hm
                    rw [show decide (V.int ((V.str (Str.ofString "move") :: x1 :: xr).length : Int) = V.int 2) = decide ((V.str (Str.ofString "move") :: x1 :: xr).length = 2) from intEq _ 2, ll]
                    cases dr with
                    | nil =>
                      refine iteT ⟨_, rfl, a, _, 1, x1, rfl, rfl, qa1, atI_nat (j := 1) rfl, x1, d1, rfl, Rep.same s1 _ _ h1, fun H2 s2 => ?_⟩
                      have fin := fin H2 s2
                      have e7 : argD (.tup [.txt (Str.ofString "move"), d1]) = nameD d1 := by
                        show (flatRole (Str.ofString "variable") d1 && true) = _
                        rw [flat_var, Bool.and_true]
                      rw [e7] at fin
                      exact fin
                    | cons d2 dr =>
                      refine iteF ?_
                      have fin := fin _ (.refl _)
                      have e7 : argD (.tup (.txt (Str.ofString "move") :: d1 :: d2 :: dr)) = false := by
                        show (decide ((Dt.txt (Str.ofString "move") :: d1 :: d2 :: dr).length = 2) && ((d1 :: d2 :: dr).zip [Str.ofString "variable"]).all fun p => flatRole p.2 p.1) = false
                        rw [decide_eq_false (by simp only [List.length_cons]; omega), Bool.false_and]
                      rw [e7] at fin
                      exact fin
                  · rw [decide_eq_false hm]
                    have hz : z = Str.ofString "lend" := by
                      rcases List.mem_cons.mp hz with h | h
                      · exact h
                      · exact absurd (List.mem_singleton.mp h) hm
                    refine iteF ⟨_, rfl, a, _, rfl, .inr qa1, rfl, _, rfl, ?_⟩
                    subst hz
                    rw [show decide (V.int ((V.str (Str.ofString "lend") :: x1 :: xr).length : Int) = V.int 3) = decide ((V.str (Str.ofString "lend") :: x1 :: xr).length = 3) from intEq _ 3, ll]
                    cases ra with
                    | nil =>
                      refine iteF ?_
                      have fin := fin _ (.refl _)
                      rw [show argD (.tup [.txt (Str.ofString "lend"), d1]) = false from rfl] at fin
                      exact fin
                    | cons h2 ra =>
                      cases ra with
                      | nil =>
                        rename_i x2 d2
                        refine iteT ⟨_, rfl, a, _, 1, x1, rfl, rfl, qa1, atI_nat (j := 1) rfl, x1, d1, rfl, Rep.same s1 _ _ h1, fun H2 s2 => ⟨_, rfl, ?_⟩⟩
                        have e7 : argD (.tup [.txt (Str.ofString "lend"), d1, d2]) = (nameD d1 && openD d2) := by
                          show (flatRole (Str.ofString "variable") d1 && (flatRole (Str.ofString "part") d2 && true)) = _
                          rw [flat_var, flat_part, Bool.and_true]
                        rw [e7] at fin
                        cases hn : nameD d1 with
                        | false =>
                          rw [hn] at fin
                          exact iteF (fin H2 s2)
                        | true =>
                          rw [hn] at fin
                          exact iteT ⟨_, rfl, a, _, 2, x2, rfl, rfl, sqT_same s2 qa1, atI_nat (j := 2) rfl, x2, d2, rfl, Rep.same (s1.trans s2) _ _ h2, fun H3 s3 => fin H3 (s2.trans s3)⟩
                      | cons h3 ra =>
                        rename_i d2 x3 xr d3 dr
                        have e7 : argD (.tup (.txt (Str.ofString "lend") :: d1 :: d2 :: d3 :: dr)) = false := by
                          show (decide ((Dt.txt (Str.ofString "lend") :: d1 :: d2 :: d3 :: dr).length = 3) && ((d1 :: d2 :: d3 :: dr).zip [Str.ofString "variable", Str.ofString "part"]).all fun p => flatRole p.2 p.1) = false
                          rw [decide_eq_false (by simp only [List.length_cons]; omega), Bool.false_and]
                        have e9 : decide ((Dt.txt (Str.ofString "lend") :: d1 :: d2 :: d3 :: dr).length = 3) = false := decide_eq_false (by simp only [List.length_cons]; omega)
                        rw [e9]
                        refine iteF ?_
                        have fin := fin _ (.refl _)
                        rw [e7] at fin
                        exact fin
theorem scLArgs : FnScope ["value", "arg"] ["value"] (defScope s_L_are_args) := ⟨rfl, rfl, rfl, by decide +kernel, rfl, by decide +kernel, by decide +kernel⟩
def spLArgs : Sp := fun vs H Q _ => ∃ (v : V) (d : Dt), vs = [v] ∧ Rep H v d ∧ ∀ H', Same H H' → Q (.bl (argsD d)) H'
theorem ok_largs {f : Addr} {fd : FuncData} (F : Fun K "_law_are_args" "_law_are_args" s_L_are_args f fd) (mI : mg "isinstance" = none) (mT : mg "tuple" = none) (mL : mg "len" = none) (cA : Cal P w K mg base 3 "_law_is_arg" spLArg) : FnOk P w K mg base CX0 4 f fd ["value"] spLArgs := by
  refine F.ok scLArgs (fun vs H Q E h => ?_) (fun cdv A outer s H vs Q E hr h => ?_)
  · obtain ⟨v, d, rfl, _⟩ := h
    rfl
  · obtain ⟨v, d, rfl, r, q⟩ := h
    refine ⟨_, (pss_cons (ps_if (PW.pt (pw_or (pt_not (pt_val (pe_callB call_isi (by rfl) mI (by decide +kernel) (pa_cons (pv 0) (pa_cons (pe_bltn (by rfl) mT (by decide +kernel) (v := .ty "tuple") rfl) pa_nil)))))
          (pw_or1 (pt_cmpR op_gt (pe_callB call_len_seq (by rfl) mL PySem.boot_len (pa_cons (pv 0) pa_nil)) pe_int (nomark _))))) (pss_one (ps_ret pe_bl)) pss_nil)
      (pss_one (ps_ret (pe_cmpR (op_eqNilL (roomN hr)) (pe_lc (own := [("arg", 1)]) (g := gName 1) rfl scLArgs.nd (pi_tup (pv 0)) (blkOk_by (N := ["value", "arg"]) (sc := defScope s_L_are_args) (by decide +kernel))
          (fun _ _ _ _ _ => pg_name (i := 1) scLArgs.nd rfl (Or.inl rfl)) (fun _ _ _ _ _ => pts_one (pt_not (pt_val (C8.pe_c cA hr (by omega) (by rfl) (pa_cons (pv 1) pa_nil))))) (fun _ _ _ _ _ => pv 1)) (pe_lst pa_nil) (nomark _))))), ?_⟩
    obtain ⟨t, ty, ks⟩ := rep_tuple (K := K) r
    refine ⟨_, rfl, v, .ty "tuple", _, _, isTupD d, rfl, .ty _, ty, ks, _, rfl, ?_⟩
    cases d with
    | txt z => exact iteT (q H (.refl H))
    | oth => exact iteT (q H (.refl H))
    | tup ds =>
      refine iteF ?_
      cases r with
      | tup e l ra =>
        rename_i a xs
        have ll := ra.length
        have q : ∀ H', Same H H' → Q (.bl (decide (ds.length ≤ 3) && ds.all argD)) H' := q
        refine ⟨_, rfl, a, xs, rfl, .inr (.inl (.inl e)), _, _, rfl, rfl, _, rfl, ite2 (fun h => ?_) (fun h => ?_)⟩
        · have fin := q H (.refl H)
          have h := of_decide_eq_true h
          rw [decide_eq_false (by omega), Bool.false_and] at fin
          exact fin
        · have h3 : ds.length ≤ 3 := by
            have : ¬ ((xs.length : Int) > 3) := fun z => h (decide_eq_true z)
            omega
          rw [decide_eq_true h3, Bool.true_and] at q
          have hq : SqT K H a xs := .inl (.inl e)
          refine ⟨.ref a, rfl, a, rfl, ⟨xs, hq⟩, fun D nD => ?_⟩
          refine lc_gen walk_tup (fun i => ((xs.zip ds).take i).filterMap fun p => if argD p.2 = true then none else some p.1) rfl (fun i hi => ?_) nD (fun H' sm => sqT_same sm hq) (fun i x H4 H5 Ky Kn hi sm y k1 k0 => ?_) (fun H4 s4 e4 => ?_)
          · have := List.length_filterMap_le (fun p : V × Dt => if argD p.2 = true then none else some p.1) ((xs.zip ds).take i)
            rw [List.length_take] at this
            omega
          · obtain ⟨rfl, hx⟩ := y
            obtain ⟨d, hd, rd⟩ := ra.at hx
            have tk : (xs.zip ds).take (i + 1) = (xs.zip ds).take i ++ [(x, d)] := by
              rw [List.take_add_one, show (xs.zip ds)[i]? = some (x, d) from List.getElem?_zip_eq_some.mpr ⟨hx, hd⟩]
              rfl
            refine ⟨rfl, _, rfl, x, d, rfl, Rep.same sm d x rd, fun H6 s6 => ⟨_, rfl, ?_⟩⟩
            cases ha : argD d with
            | true =>
              refine iteF (k0 _ s6 ?_)
              rw [tk, List.filterMap_append, List.filterMap_cons, if_pos ha]
              exact List.append_nil _
            | false =>
              refine iteT ⟨_, rfl, k1 _ _ s6 ?_⟩
              rw [tk, List.filterMap_append, List.filterMap_cons, if_neg (by rw [ha]; exact Bool.false_ne_true)]
              rfl
          · rw [show xs.length = (xs.zip ds).length by rw [List.length_zip]; omega, List.take_length] at e4
            refine ⟨Nat.zero_le _, fun p np => ⟨D, p, _, rfl, rfl, .inl (.inl (same_upd np _ _ e4)), .inl (.inl upd_same), ?_⟩⟩
            have fin := q _ (s4.trans (same_upd (o := HO.lst []) np))
            have e7 : ((xs.zip ds).filterMap fun p => if argD p.2 = true then none else some p.1).isEmpty = ds.all argD := by
              rw [Bool.eq_iff_iff, List.isEmpty_iff, List.filterMap_eq_nil_iff, List.all_eq_true]
              constructor
              · intro h d hd
                obtain ⟨i, hi⟩ := List.getElem?_of_mem hd
                have hlt := (List.getElem?_eq_some_iff.mp hi).1
                have hz : (xs.zip ds)[i]? = some (xs[i]'(by omega), d) := List.getElem?_zip_eq_some.mpr ⟨List.getElem?_eq_getElem _, hi⟩
                have := h _ (List.mem_of_getElem? hz)
                cases ha : argD d with
                | true => rfl
                | false =>
                  rw [if_neg (show ¬ argD (xs[i]'(by omega), d).2 = true by rw [show argD (xs[i]'(by omega), d).2 = argD d from rfl, ha]; exact Bool.false_ne_true)] at this
                  cases this
              · intro h p hp
                rw [if_pos (h p.2 (List.of_mem_zip hp).2)]
            rw [e7]
            exact fin
/-! ### _law_is_step -/
abbrev lstepN : List Str := ["value", "shapes", "others", "shape", "spot", "sign", "item"]
theorem scLStep : FnScope lstepN ["value"] (defScope s_L_is_step) := ⟨rfl, rfl, rfl, by decide +kernel, rfl, by decide +kernel, by decide +kernel⟩
def spLStep : Sp := fun vs H Q _ => ∃ (v : V) (d : Dt), vs = [v] ∧ Rep H v d ∧ ∀ H' b, Same H H' → (b = true ↔ GoodD d) → Q (.bl b) H'
theorem no_good {d : Dt} (h : ∀ ds, d ≠ .tup ds) : (false = true ↔ GoodD d) := ⟨fun e => (nomatch e), fun ⟨f, e, _⟩ => by
  cases f <;> exact absurd e (h _)⟩
theorem no_step {ds : List Dt} (h : stepD ds = false) : (false = true ↔ GoodD (.tup ds)) := by rw [← stepD_iff, h]
/-- up to i the items suit -/
def UpTo (sh : List Nat) (r : List Dt) (i : Nat) : Prop := ∀ j, j < i → ∀ c d, sh[j]? = some c → r[j]? = some d → signOk c d (r.headD .oth) = true
theorem upTo_all {sh : List Nat} {r : List Dt} (hl : sh.length = r.length) (h : UpTo sh r sh.length) : (sh.zip r).all (fun p => signOk p.1 p.2 (r.headD .oth)) = true := by
  rw [List.all_eq_true]
  intro p hp
  obtain ⟨j, hj⟩ := List.getElem?_of_mem hp
  obtain ⟨h1, h2⟩ := List.getElem?_zip_eq_some.mp hj
  exact h j (List.getElem?_eq_some_iff.mp h1).1 _ _ h1 h2
theorem upTo_bad {sh : List Nat} {r : List Dt} {i c : Nat} {d : Dt} (h1 : sh[i]? = some c) (h2 : r[i]? = some d) (h : signOk c d (r.headD .oth) = false) : (sh.zip r).all (fun p => signOk p.1 p.2 (r.headD .oth)) = false := by
  rw [Bool.eq_false_iff]
  intro hall
  have := List.all_eq_true.mp hall (c, d) (List.mem_of_getElem? (List.getElem?_zip_eq_some.mpr ⟨h1, h2⟩))
  rw [show signOk (c, d).1 (c, d).2 (r.headD .oth) = signOk c d (r.headD .oth) from rfl, h] at this
  cases this
theorem UpTo.next {sh : List Nat} {r : List Dt} {i c : Nat} {d : Dt} (u : UpTo sh r i) (h1 : sh[i]? = some c) (h2 : r[i]? = some d) (h : signOk c d (r.headD .oth) = true) : UpTo sh r (i + 1) := by
  intro j hj c' d' e1 e2
  by_cases hlt : j < i
  · exact u j hlt c' d' e1 e2
  · obtain rfl : j = i := by omega
    rw [h1] at e1
    rw [h2] at e2
    cases e1
    cases e2
    exact h
theorem stepD_shape {z sh : Str} {r : List Dt} (e : shapeOf z = some sh) : stepD (.txt z :: r) = (decide ((cs sh).length = r.length) && ((cs sh).zip r).all fun p => signOk p.1 p.2 (r.headD .oth)) := by
  show (match shapeOf z with | none => false | some sh => decide ((cs sh).length = r.length) && ((cs sh).zip r).all fun p => signOk p.1 p.2 (r.headD .oth)) = _
  rw [e]
theorem stepD_none {z : Str} {r : List Dt} (e : shapeOf z = none) : stepD (.txt z :: r) = false := by
  show (match shapeOf z with | none => false | some sh => decide ((cs sh).length = r.length) && ((cs sh).zip r).all fun p => signOk p.1 p.2 (r.headD .oth)) = _
  rw [e]
set_option maxHeartbeats 2000000 in
theorem ok_lstep {f : Addr} {fd : FuncData} (F : Fun K "_law_is_step" "_law_is_step" s_L_is_step f fd) (mI : mg "isinstance" = none) (mT : mg "tuple" = none) (mS : mg "str" = none) (mL : mg "len" = none) (mE : mg "enumerate" = none)
    (cN : Cal P w K mg base 1 "_law_is_name" spLName) (cO : Cal P w K mg base 2 "_law_is_open" spOpen) (cY : Cal P w K mg base 1 "_law_is_way" spLWay) (cA : Cal P w K mg base 4 "_law_are_args" spLArgs) : FnOk P w K mg base CX0 5 f fd ["value"] spLStep := by
  refine F.ok scLStep (fun vs H Q E h => ?_) (fun cdv A outer s H vs Q E hr h => ?_)
  · obtain ⟨v, d, rfl, _⟩ := h
    rfl
  · obtain ⟨v, d, rfl, r, q⟩ := h
    refine ⟨_, (pss_cons (ps_if (PW.pt (pw_or (pt_not (pt_val (pe_callB call_isi (by rfl) mI (by decide +kernel) (pa_cons (pv 0) (pa_cons (pe_bltn (by rfl) mT (by decide +kernel) (v := .ty "tuple") rfl) pa_nil)))))
          (pw_or (pt_cmpR (op_eqNilT (roomN hr)) (pv 0) (pe_tup pa_nil) (nomark _)) (pw_or1 (pt_not (pt_val (pe_callB call_isi (by rfl) mI (by decide +kernel) (pa_cons (pe_ix ix_tup (pv 0) pe_int (fun _ _ => rfl)) (pa_cons (pe_bltn (by rfl) mS (by decide +kernel) (v := .ty "str") rfl) pa_nil))))))))) (pss_one (ps_ret pe_bl)) pss_nil)
      (pss_cons (ps_set (i := 1) scLStep.nd rfl (.inl rfl) (pe_disp (pps_cons pe_str pe_str (pps_cons pe_str pe_str (pps_cons pe_str pe_str (pps_cons pe_str pe_str (pps_cons pe_str pe_str (pps_cons pe_str pe_str (pps_cons pe_str pe_str pps_nil))))))) (by rfl) (by rfl) (fun z => by cases z) (by decide)))
      (pss_cons (ps_set (i := 2) scLStep.nd rfl (.inl rfl) (pe_disp (pps_cons pe_str pe_str (pps_cons pe_str pe_str (pps_cons pe_str pe_str (pps_cons pe_str pe_str pps_nil)))) (by rfl) (by rfl) (fun z => by cases z) (by decide)))
      (Evl.pss_cut (ps_if (PW.pt (pw_and (pt_cmp (pc_dnotin (roomI hr) (pe_ix ix_tup (pv 0) pe_int (fun _ _ => rfl)) (pv 1))) (pw_and1 (pt_cmp (pc_dnotin (roomI hr) (pe_ix ix_tup (pv 0) pe_int (fun _ _ => rfl)) (pv 2)))))) (pss_one (ps_ret pe_bl)) pss_nil)
      (pss_cons (ps_set (i := 3) scLStep.nd rfl (.inl rfl) (pe_dget2 (roomI hr) (pv 1) (pe_ix ix_tup (pv 0) pe_int (fun _ _ => rfl)) (pe_dget2 (roomI hr) (pv 2) (pe_ix ix_tup (pv 0) pe_int (fun _ _ => rfl)) pe_str ⟨rfl, rfl, rfl, rfl⟩) ⟨rfl, rfl, rfl, rfl⟩))
      (pss_cons (ps_if (pt_cmpR op_ne (pe_callB call_len_str (by rfl) mL PySem.boot_len (pa_cons (pv 3) pa_nil)) (pe_op op_sub (pe_callB call_len_seq (by rfl) mL PySem.boot_len (pa_cons (pv 0) pa_nil)) pe_int) (nomark _)) (pss_one (ps_ret pe_bl)) pss_nil)
      (pss_cons (ps_for PassesOwn.never rfl (pi_enumS (by rfl) mE (pa_cons (pv 3) pa_nil)) (pg_tup (by rfl) (pgs_cons (pg_name (i := 4) scLStep.nd rfl (Or.inl rfl)) (pgs_cons (pg_name (i := 5) scLStep.nd rfl (Or.inl rfl)) pgs_nil))) (pss_cons (ps_set (i := 6) scLStep.nd rfl (.inl rfl) (pe_ix ix_tup (pv 0) (pe_op op_add (pv 4) pe_int) (fun _ _ => rfl)))
      (pss_cons (ps_if (PW.pt (pw_or (PW.pt (pw_and (pt_cmpR op_in_sign (pv 5) pe_str (by rfl)) (pw_and1 (pt_not (pt_val (C8.pe_c cN hr (by omega) (by rfl) (pa_cons (pv 6) pa_nil)))))))
          (pw_or1 (PW.pt (pw_and (pt_cmpR op_in_sign (pv 5) pe_str (by rfl)) (pw_and1 (pt_not (pt_val (C8.pe_c cO hr (by omega) (by rfl) (pa_cons (pv 6) pa_nil)))))))))) (pss_one (ps_ret pe_bl)) pss_nil)
      (pss_cons (ps_if (PW.pt (pw_or (PW.pt (pw_and (pt_cmpR op_eq (pv 5) pe_str (nomark _)) (pw_and1 (pt_cmpR op_eq (pv 6) (pe_ix ix_tup (pv 0) pe_int (fun _ _ => rfl)) (nomark _)))))
          (pw_or1 (PW.pt (pw_and (pt_cmpR op_eq (pv 5) pe_str (nomark _)) (pw_and1 (pt_not (pt_val (C8.pe_c cY hr (by omega) (by rfl) (pa_cons (pv 6) pa_nil)))))))))) (pss_one (ps_ret pe_bl)) pss_nil)
      (pss_one (ps_if (PW.pt (pw_and (pt_cmpR op_eq (pv 5) pe_str (nomark _)) (pw_and1 (pt_not (pt_val (C8.pe_c cA hr (by omega) (by rfl) (pa_cons (pv 6) pa_nil))))))) (pss_one (ps_ret pe_bl)) pss_nil))))))
      (pss_one (ps_ret pe_bl))))))))), ?_⟩
    obtain ⟨t, ty, ks⟩ := rep_tuple (K := K) r
    refine ⟨_, rfl, v, .ty "tuple", _, _, isTupD d, rfl, .ty _, ty, ks, _, rfl, ?_⟩
    cases d with
    | txt z => exact iteT (q H false (.refl H) (no_good fun ds e => nomatch e))
    | oth => exact iteT (q H false (.refl H) (no_good fun ds e => nomatch e))
    | tup ds =>
      refine iteF ?_
      cases r with
      | tup e l ra =>
        rename_i a xs
        refine ⟨_, rfl, Nat.zero_le _, fun p0 np0 => ⟨a, p0, xs, rfl, rfl, .inl (.inl (same_upd np0 _ _ e)), .inl (.inl upd_same), _, rfl, ?_⟩⟩
        have s0 := same_upd (o := HO.tup []) np0
        cases ra with
        | nil => exact iteT (q _ false s0 (no_step rfl))
        | cons h0 ra =>
          rename_i x0 xr d0 r
          refine iteF ?_
          have e0 := s0 _ _ e
          obtain ⟨t0, ty0, _, _, k0⟩ := dat_is (K := K) (Rep.same s0 _ _ h0).dat
          refine ⟨_, rfl, a, _, 0, x0, rfl, rfl, .inl (.inl e0), atI_nat (j := 0) rfl, x0, .ty "str", _, _, isTxt x0, rfl, .ty _, ty0, k0, _, rfl, ?_⟩
          cases d0 with
          | tup ds => 
            cases h0
            exact iteT (q _ false s0 (no_step rfl))
          | oth =>
            have hv : isTxt x0 = false := by cases h0 <;> rfl
            rw [hv]
            exact iteT (q _ false s0 (no_step rfl))
          | txt z =>
            cases h0 with
            | txt lz =>
              refine iteF ?_
              refine fun p1 np1 => ⟨upd_same, rowK shapesL, rfl, (show 7 ≤ 15 by decide), fun p2 np2 => ⟨upd_same, rowK othersL, rfl, (show 4 ≤ 15 by decide), ?_⟩⟩
              rw [merge_others, merge_shapes] at *
              generalize hG : L2.upd (L2.upd (L2.upd (L2.upd _ p1 _) p1 _) p2 _) p2 _ = H1 at *
              have n12 : p2 ≠ p1 := fun e => by
                rw [e, upd_same] at np2
                cases np2
              have hd1 : H1 p1 = some (.dK (rowK shapesL)) := by rw [← hG, upd_ne (Ne.symm n12), upd_ne (Ne.symm n12), upd_same]
              have hd2 : H1 p2 = some (.dK (rowK othersL)) := by rw [← hG, upd_same]
              have s1 : Same H H1 := s0.trans fun b o eb => by
                have h1 : b ≠ p1 := ne_of_none eb np1
                have h2 : b ≠ p2 := fun h => by
                  rw [upd_ne n12, upd_ne n12, ← h, eb] at np2
                  cases np2
                rw [← hG, upd_ne h2, upd_ne h2, upd_ne h1, upd_ne h1]
                exact eb
              clear hG np1 np2 n12
              have qa : SqT K H1 a (V.str z :: xr) := .inl (.inl (s1 _ _ e))
              have ra1 := RepAll.same s1 _ _ ra
              have q := fun H' b k => q H' b (Same.trans s1 k)
              refine ⟨fun σ1 H2 => σ1 = [some (.ref a), some (.ref p1), some (.ref p2), none, none, none, none] ∧ H2 = H1 ∧ ∃ sh, shapeOf z = some sh, ?_, ?_⟩
              · refine ⟨_, rfl, a, _, 0, .str z, rfl, rfl, qa, atI_nat (j := 0) rfl, _, rfl, p1, _, rfl, DGet.k (k := Sum.inr z) hd1, _, rfl, ?_⟩
                rw [valV_row]
                cases e1 : shapesL.lookup z with
                | some sh => exact iteF ⟨rfl, rfl, sh, by unfold shapeOf; rw [e1]; rfl⟩
                | none =>
                  refine iteT ⟨_, rfl, a, _, 0, .str z, rfl, rfl, qa, atI_nat (j := 0) rfl, _, rfl, p2, _, rfl, DGet.k (k := Sum.inr z) hd2, _, rfl, ?_⟩
                  rw [valV_row]
                  cases e2 : othersL.lookup z with
                  | some sh => exact iteF ⟨rfl, rfl, sh, by unfold shapeOf; rw [e1, e2]; rfl⟩
                  | none => exact iteT (q H1 false (.refl _) (no_step (stepD_none (by unfold shapeOf; rw [e1, e2]; rfl))))
              · rintro σ1 H2 ⟨rfl, rfl, sh, esh⟩
                refine ⟨_, rfl, p1, rfl, .inl ⟨_, .inl hd1⟩, _, rfl, a, _, 0, .str z, rfl, rfl, qa, atI_nat (j := 0) rfl, _, rfl, p2, rfl, .inl ⟨_, .inl hd2⟩, _, rfl, a, _, 0, .str z, rfl, rfl, qa, atI_nat (j := 0) rfl, _, DGet.k (k := Sum.inr z) hd2, _, DGet.k (k := Sum.inr z) hd1, ?_⟩
                have ev : (valV (rowK shapesL) (Sum.inr z)).getD ((valV (rowK othersL) (Sum.inr z)).getD (V.str (Str.ofString ""))) = V.str sh := by
                  rw [valV_row, valV_row]
                  unfold shapeOf at esh
                  cases e1 : shapesL.lookup z with
                  | some sh' =>
                    rw [e1] at esh
                    cases esh
                    rfl
                  | none =>
                    rw [e1] at esh
                    have esh : othersL.lookup z = some sh := esh
                    rw [esh]
                    rfl
                rw [ev]
                obtain ⟨c6, l3, hm⟩ := shape_signs _ (shape_mem esh)
                have c6 : ∀ c ∈ cs sh, c ∈ [110, 109, 112, 111, 119, 97] := c6
                have l3 : (cs sh).length ≤ 3 := l3
                have hm : ∀ i, i < (cs sh).length → (cs sh)[i]? = some 109 → 1 ≤ i ∧ (cs sh)[0]? = some 110 := hm
                have lsh : sh.length ≤ sizeLine := by
                  rw [cs_len]
                  exact Nat.le_trans l3 (by decide)
                have lr := ra1.length
                refine ⟨_, rfl, sh, rfl, lsh, _, rfl, a, _, rfl, .inr qa, _, _, rfl, rfl, rfl, _, rfl, ?_⟩
                have key : (!decide (V.int (sh.length : Int) = V.int (((V.str z :: xr).length : Int) - 1))) = !decide ((cs sh).length = r.length) := by
                  congr 1
                  refine decide_eq_decide.mpr ⟨fun h => ?_, fun h => ?_⟩
                  · have := V.int.inj h
                    rw [List.length_cons] at this
                    rw [← cs_len]
                    omega
                  · congr 1
                    rw [List.length_cons]
                    rw [← cs_len] at h
                    omega
                rw [key]
                by_cases hl : ¬ (cs sh).length = r.length
                · rw [decide_eq_false hl]
                  exact iteT (q _ false (.refl _) (no_step (by rw [stepD_shape esh, decide_eq_false hl]; rfl)))
                have hl := Decidable.not_not.mp hl
                rw [decide_eq_true hl]
                refine iteF ⟨_, rfl, sh, rfl, for_it walk_enumS (fun i σ H' => ∃ o4 o5 o6 : Option V, σ = [some (.ref a), some (.ref p1), some (.ref p2), some (.str sh), o4, o5, o6] ∧ Same H2 H' ∧ UpTo (cs sh) r i)
                  ⟨none, none, none, rfl, .refl _, fun j h => absurd h (Nat.not_lt_zero _)⟩ (fun _ _ _ _ _ => trivial) ?_ ?_⟩
                · rintro i y σ H3 H4 hi ⟨o4, o5, o6, rfl, sm, u⟩ ⟨T, c, rfl, nT, rfl, hc⟩
                  have s4 := sm.trans (same_upd (o := HO.tup [.int (i : Nat), .str ⟨#[c]⟩]) nT)
                  refine ⟨T, _, rfl, .inl (.inl upd_same), rfl, _, _, rfl, _, _, rfl, rfl, ?_⟩
                  have hir : i < r.length := by omega
                  obtain ⟨x, hx⟩ : ∃ x, xr[i]? = some x := ⟨_, List.getElem?_eq_getElem (by omega)⟩
                  obtain ⟨d, hd, rd⟩ := ra1.at hx
                  have rd := Rep.same s4 _ _ rd
                  have qa4 := sqT_same s4 qa
                  have q := fun H' b k => q H' b (Same.trans s4 k)
                  have hcs := c6 c (List.mem_of_getElem? hc)
                  have bad : signOk c d (r.headD .oth) = false → (false = true ↔ GoodD (.tup (.txt z :: r))) := fun hb => no_step (by
                    rw [stepD_shape esh, upTo_bad hc hd hb, Bool.and_false])
                  generalize hG : L2.upd H3 T _ = H4 at *
                  refine ⟨_, rfl, _, rfl, _, _, rfl, rfl, a, _, ((i + 1 : Nat) : Int), x, rfl, rfl, qa4, atI_nat (j := i + 1) hx, ?_⟩
                  simp only [List.mem_cons, List.not_mem_nil, or_false] at hcs
                  rcases hcs with rfl | rfl | rfl | rfl | rfl | rfl
                  · refine ⟨_, rfl, 110, _, rfl, rfl, _, rfl, ?_⟩
                    rw [show decide (110 ∈ (Str.ofString "nm").cps.toList) = true from by decide +kernel]
                    refine iteT ⟨_, rfl, x, d, rfl, rd, fun H5 s5 => ⟨_, rfl, ?_⟩⟩
                    cases hn : nameD d with
                    | false => exact iteT (q H5 false s5 (bad (by rw [sgn_n, hn])))
                    | true =>
                      refine iteF ⟨_, rfl, 110, _, rfl, rfl, _, rfl, ?_⟩
                      rw [show decide (110 ∈ (Str.ofString "po").cps.toList) = false from by decide +kernel]
                      refine iteF ⟨_, rfl, rfl, _, rfl, ?_⟩
                      rw [strEq, show decide ((⟨#[110]⟩ : Str) = Str.ofString "m") = false from by decide +kernel]
                      refine iteF ⟨_, rfl, rfl, _, rfl, ?_⟩
                      rw [strEq, show decide ((⟨#[110]⟩ : Str) = Str.ofString "w") = false from by decide +kernel]
                      refine iteF ⟨_, rfl, rfl, _, rfl, ?_⟩
                      rw [strEq, show decide ((⟨#[110]⟩ : Str) = Str.ofString "a") = false from by decide +kernel]
                      exact iteF ⟨_, _, _, rfl, s4.trans s5, u.next hc hd (by rw [sgn_n]; exact hn)⟩
                  · refine ⟨_, rfl, 109, _, rfl, rfl, _, rfl, ?_⟩
                    rw [show decide (109 ∈ (Str.ofString "nm").cps.toList) = true from by decide +kernel]
                    refine iteT ⟨_, rfl, x, d, rfl, rd, fun H5 s5 => ⟨_, rfl, ?_⟩⟩
                    cases hn : nameD d with
                    | false => exact iteT (q H5 false s5 (bad (by rw [sgn_m, hn]; rfl)))
                    | true =>
                      refine iteF ⟨_, rfl, 109, _, rfl, rfl, _, rfl, ?_⟩
                      rw [show decide (109 ∈ (Str.ofString "po").cps.toList) = false from by decide +kernel]
                      refine iteF ⟨_, rfl, rfl, _, rfl, ?_⟩
                      rw [strEq, show decide ((⟨#[109]⟩ : Str) = Str.ofString "m") = true from by decide +kernel]
                      obtain ⟨yn, rfl, hyn⟩ := nameD_inv hn
                      obtain ⟨i1, h0n⟩ := hm i (by omega) hc
                      obtain ⟨x0, hx0⟩ : ∃ x, xr[0]? = some x := ⟨_, List.getElem?_eq_getElem (by omega)⟩
                      obtain ⟨d0, hd0, rd0⟩ := ra1.at hx0
                      have o0 := u 0 i1 110 d0 h0n hd0
                      rw [sgn_n] at o0
                      obtain ⟨zn, rfl, hzn⟩ := nameD_inv o0
                      have hh : r.headD .oth = .txt zn := by
                        cases r with
                        | nil => cases hd0
                        | cons d0' r' => exact Option.some.inj hd0
                      rw [hh] at bad
                      cases rd0
                      cases rd
                      refine iteT ⟨_, rfl, _, rfl, a, _, 1, .str zn, rfl, rfl, sqT_same s5 qa4, atI_nat (j := 1) hx0, rfl, _, rfl, ?_⟩
                      rw [strEq]
                      by_cases he : yn = zn
                      · rw [decide_eq_true he]
                        exact iteT (q H5 false s5 (bad (by rw [sgn_m, he]; show (nameD (.txt zn) && !sameT (.txt zn) (.txt zn)) = false; rw [show sameT (.txt zn) (.txt zn) = true from decide_eq_true rfl]; exact Bool.and_false _)))
                      rw [decide_eq_false he]
                      refine iteF ⟨_, rfl, rfl, _, rfl, ?_⟩
                      rw [strEq, show decide ((⟨#[109]⟩ : Str) = Str.ofString "w") = false from by decide +kernel]
                      refine iteF ⟨_, rfl, rfl, _, rfl, ?_⟩
                      rw [strEq, show decide ((⟨#[109]⟩ : Str) = Str.ofString "a") = false from by decide +kernel]
                      exact iteF ⟨_, _, _, rfl, s4.trans s5, u.next hc hd (by rw [sgn_m, hh, hn, Bool.true_and]; exact sameT_ne he)⟩
                  · refine ⟨_, rfl, 112, _, rfl, rfl, _, rfl, ?_⟩
                    rw [show decide (112 ∈ (Str.ofString "nm").cps.toList) = false from by decide +kernel]
                    refine iteF ⟨_, rfl, 112, _, rfl, rfl, _, rfl, ?_⟩
                    rw [show decide (112 ∈ (Str.ofString "po").cps.toList) = true from by decide +kernel]
                    refine iteT ⟨_, rfl, x, d, rfl, rd, fun H5 s5 => ⟨_, rfl, ?_⟩⟩
                    cases hn : openD d with
                    | false => exact iteT (q H5 false s5 (bad (by rw [sgn_p]; exact hn)))
                    | true =>
                      refine iteF ⟨_, rfl, rfl, _, rfl, ?_⟩
                      rw [strEq, show decide ((⟨#[112]⟩ : Str) = Str.ofString "m") = false from by decide +kernel]
                      refine iteF ⟨_, rfl, rfl, _, rfl, ?_⟩
                      rw [strEq, show decide ((⟨#[112]⟩ : Str) = Str.ofString "w") = false from by decide +kernel]
                      refine iteF ⟨_, rfl, rfl, _, rfl, ?_⟩
                      rw [strEq, show decide ((⟨#[112]⟩ : Str) = Str.ofString "a") = false from by decide +kernel]
                      exact iteF ⟨_, _, _, rfl, s4.trans s5, u.next hc hd (by rw [sgn_p]; exact hn)⟩
                  · refine ⟨_, rfl, 111, _, rfl, rfl, _, rfl, ?_⟩
                    rw [show decide (111 ∈ (Str.ofString "nm").cps.toList) = false from by decide +kernel]
                    refine iteF ⟨_, rfl, 111, _, rfl, rfl, _, rfl, ?_⟩
                    rw [show decide (111 ∈ (Str.ofString "po").cps.toList) = true from by decide +kernel]
                    refine iteT ⟨_, rfl, x, d, rfl, rd, fun H5 s5 => ⟨_, rfl, ?_⟩⟩
                    cases hn : openD d with
                    | false => exact iteT (q H5 false s5 (bad (by rw [sgn_o]; exact hn)))
                    | true =>
                      refine iteF ⟨_, rfl, rfl, _, rfl, ?_⟩
                      rw [strEq, show decide ((⟨#[111]⟩ : Str) = Str.ofString "m") = false from by decide +kernel]
                      refine iteF ⟨_, rfl, rfl, _, rfl, ?_⟩
                      rw [strEq, show decide ((⟨#[111]⟩ : Str) = Str.ofString "w") = false from by decide +kernel]
                      refine iteF ⟨_, rfl, rfl, _, rfl, ?_⟩
                      rw [strEq, show decide ((⟨#[111]⟩ : Str) = Str.ofString "a") = false from by decide +kernel]
                      exact iteF ⟨_, _, _, rfl, s4.trans s5, u.next hc hd (by rw [sgn_o]; exact hn)⟩
                  · refine ⟨_, rfl, 119, _, rfl, rfl, _, rfl, ?_⟩
                    rw [show decide (119 ∈ (Str.ofString "nm").cps.toList) = false from by decide +kernel]
                    refine iteF ⟨_, rfl, 119, _, rfl, rfl, _, rfl, ?_⟩
                    rw [show decide (119 ∈ (Str.ofString "po").cps.toList) = false from by decide +kernel]
                    refine iteF ⟨_, rfl, rfl, _, rfl, ?_⟩
                    rw [strEq, show decide ((⟨#[119]⟩ : Str) = Str.ofString "m") = false from by decide +kernel]
                    refine iteF ⟨_, rfl, rfl, _, rfl, ?_⟩
                    rw [strEq, show decide ((⟨#[119]⟩ : Str) = Str.ofString "w") = true from by decide +kernel]
                    refine iteT ⟨_, rfl, x, d, rfl, rd, fun H5 s5 => ⟨_, rfl, ?_⟩⟩
                    cases hn : wayD d with
                    | false => exact iteT (q H5 false s5 (bad (by rw [sgn_w]; exact hn)))
                    | true =>
                      refine iteF ⟨_, rfl, rfl, _, rfl, ?_⟩
                      rw [strEq, show decide ((⟨#[119]⟩ : Str) = Str.ofString "a") = false from by decide +kernel]
                      exact iteF ⟨_, _, _, rfl, s4.trans s5, u.next hc hd (by rw [sgn_w]; exact hn)⟩
                  · refine ⟨_, rfl, 97, _, rfl, rfl, _, rfl, ?_⟩
                    rw [show decide (97 ∈ (Str.ofString "nm").cps.toList) = false from by decide +kernel]
                    refine iteF ⟨_, rfl, 97, _, rfl, rfl, _, rfl, ?_⟩
                    rw [show decide (97 ∈ (Str.ofString "po").cps.toList) = false from by decide +kernel]
                    refine iteF ⟨_, rfl, rfl, _, rfl, ?_⟩
                    rw [strEq, show decide ((⟨#[97]⟩ : Str) = Str.ofString "m") = false from by decide +kernel]
                    refine iteF ⟨_, rfl, rfl, _, rfl, ?_⟩
                    rw [strEq, show decide ((⟨#[97]⟩ : Str) = Str.ofString "w") = false from by decide +kernel]
                    refine iteF ⟨_, rfl, rfl, _, rfl, ?_⟩
                    rw [strEq, show decide ((⟨#[97]⟩ : Str) = Str.ofString "a") = true from by decide +kernel]
                    refine iteT ⟨_, rfl, x, d, rfl, rd, fun H5 s5 => ⟨_, rfl, ?_⟩⟩
                    cases hn : argsD d with
                    | false => exact iteT (q H5 false s5 (bad (by rw [sgn_a]; exact hn)))
                    | true => exact iteF ⟨_, _, _, rfl, s4.trans s5, u.next hc hd (by rw [sgn_a]; exact hn)⟩
                · rintro σ H3 ⟨o4, o5, o6, rfl, sm, u⟩
                  refine q H3 true sm ⟨fun _ => ?_, fun _ => rfl⟩
                  rw [← stepD_iff, stepD_shape esh, decide_eq_true hl, upTo_all hl u]
                  rfl
/-! ### _law_place, _law_arg_text, _law_text -/
theorem scLPlace : FnScope ["name", "part"] ["name", "part"] (defScope s_L_place) := ⟨rfl, rfl, rfl, by decide +kernel, rfl, by decide +kernel, by decide +kernel⟩
theorem ok_lplace {f : Addr} {fd : FuncData} (F : Fun K "_law_place" "_law_place" s_L_place f fd) : FnOk P w K mg base CX0 1 f fd ["name", "part"] spPlace := by
  refine F.ok scLPlace (fun vs H Q E h => ?_) (fun cdv A outer s H vs Q E hr h => ?_)
  · obtain ⟨a, p, rfl, _⟩ := h
    rfl
  · obtain ⟨a, p, rfl, la, lp, q⟩ := h
    refine ⟨_, (pss_one (ps_ret (pe_ifExp (pt_cmpR op_eq (pv 1) pe_str (nomark _)) (pv 0) (pe_op op_add_str (pe_op op_add_str (pv 0) pe_str) (pv 1))))), ?_⟩
    have one : (Str.ofString ".").length = 1 := rfl
    refine ⟨_, rfl, rfl, _, rfl, ?_⟩
    rw [strEq]
    by_cases hp : p = Str.ofString ""
    · rw [decide_eq_true hp]
      rw [show placeS a p = a from if_pos hp] at q
      exact iteT ⟨_, rfl, q⟩
    · rw [decide_eq_false hp]
      rw [show placeS a p = a ++ Str.ofString "." ++ p from if_neg hp] at q
      exact iteF ⟨_, rfl, _, _, rfl, rfl, small1000 (by omega), _, rfl, _, _, rfl, rfl, small1000 (by rw [len_cat, one]; omega), q⟩
theorem scLArgT : FnScope ["arg"] ["arg"] (defScope s_L_arg_text) := ⟨rfl, rfl, rfl, by decide +kernel, rfl, by decide +kernel, by decide +kernel⟩
theorem ok_largt {f : Addr} {fd : FuncData} (F : Fun K "_law_arg_text" "_law_arg_text" s_L_arg_text f fd) (cP : Cal P w K mg base 1 "_law_place" spPlace) : FnOk P w K mg base CX0 2 f fd ["arg"] spWArg := by
  refine F.ok scLArgT (fun vs H Q E h => ?_) (fun cdv A outer s H vs Q E hr h => ?_)
  · obtain ⟨v, f, rfl, _⟩ := h
    rfl
  · obtain ⟨v, f, rfl, r, ok, q⟩ := h
    refine ⟨_, (pss_one (ps_ret (pe_ifExp (pt_cmpR op_eq (pe_ix ix_tup (pv 0) pe_int (fun _ _ => rfl)) pe_str (nomark _)) (pe_op op_add_str pe_str (pe_ix ix_tup (pv 0) pe_int (fun _ _ => rfl)))
      (pe_op op_add_str pe_str (C8.pe_c cP hr (by omega) (by rfl) (pa_cons (pe_ix ix_tup (pv 0) pe_int (fun _ _ => rfl)) (pa_cons (pe_ix ix_tup (pv 0) pe_int (fun _ _ => rfl)) pa_nil))))))), ?_⟩
    have l5 : (Str.ofString "move ").length = 5 := rfl
    have l6 : (Str.ofString "lend ").length = 5 := rfl
    cases f with
    | lend x p =>
      have r : Rep H v (.tup ([Str.ofString "lend", x, p].map Dt.txt)) := r
      have ok : (isName x && openS p) = true := ok
      rw [Bool.and_eq_true] at ok
      have l_x := (name_size ok.1).2
      have l_p := openS_len ok.2
      have l_q := place_len l_x l_p
      cases r with
      | tup ea lx ra =>
        rename_i a xs
        obtain rfl := rep_txts ra
        have qa : SqT K H a ([Str.ofString "lend", x, p].map V.str) := .inl (.inl ea)
        refine ⟨_, rfl, a, _, 0, .str (Str.ofString "lend"), rfl, rfl, qa, atI_nat (j := 0) rfl, rfl, _, rfl, ?_⟩
        rw [strEq, show decide (Str.ofString "lend" = Str.ofString "move") = false from by decide]
        exact iteF ⟨_, rfl, a, _, 1, .str x, rfl, rfl, qa, atI_nat (j := 1) rfl, _, rfl, a, _, 2, .str p, rfl, rfl, qa, atI_nat (j := 2) rfl, x, p, rfl, l_x, l_p, _, _, rfl, rfl, small1000 (by omega), q⟩
    | move x =>
      have r : Rep H v (.tup ([Str.ofString "move", x].map Dt.txt)) := r
      have l_x := (name_size (show isName x = true from ok)).2
      cases r with
      | tup ea lx ra =>
        rename_i a xs
        obtain rfl := rep_txts ra
        have qa : SqT K H a ([Str.ofString "move", x].map V.str) := .inl (.inl ea)
        refine ⟨_, rfl, a, _, 0, .str (Str.ofString "move"), rfl, rfl, qa, atI_nat (j := 0) rfl, rfl, _, rfl, ?_⟩
        rw [strEq, show decide (Str.ofString "move" = Str.ofString "move") = true from by decide]
        exact iteT ⟨_, rfl, a, _, 1, .str x, rfl, rfl, qa, atI_nat (j := 1) rfl, _, _, rfl, rfl, small1000 (by omega), q⟩
abbrev ltN : List Str := ["step", "word", "inside", "start", "arg"]
theorem scLText : FnScope ltN ["step"] (defScope s_L_text) := ⟨rfl, rfl, rfl, by decide +kernel, rfl, by decide +kernel, by decide +kernel⟩
set_option maxHeartbeats 2000000 in
theorem ok_ltext {f : Addr} {fd : FuncData} (F : Fun K "_law_text" "_law_text" s_L_text f fd) (cP : Cal P w K mg base 1 "_law_place" spPlace) (cA : Cal P w K mg base 2 "_law_arg_text" spWArg) : FnOk P w K mg base CX0 3 f fd ["step"] spWrite := by
  refine F.ok scLText (fun vs H Q E h => ?_) (fun cdv A outer s H vs Q E hr h => ?_)
  · obtain ⟨v, f, rfl, _⟩ := h
    rfl
  · obtain ⟨v, f, rfl, r1, good, q⟩ := h
    refine ⟨_, (pss_cons (ps_set (i := 1) scLText.nd rfl (.inl rfl) (pe_ix ix_tup (pv 0) pe_int (fun _ _ => rfl)))
      (pss_cons (ps_if (pt_cmpR op_in_seq (pv 1) (pe_tup (pa_cons (pe_str) (pa_cons (pe_str) (pa_cons (pe_str) pa_nil)))) (by rfl)) (pss_one (ps_ret (pe_op op_add_str (pe_op op_add_str (pe_op op_add_str (pe_op op_add_str (pv 1) (pe_str)) (pe_ix ix_tup (pv 0) pe_int (fun _ _ => rfl))) (pe_str)) (C8.pe_c cP hr (by omega) (by rfl) (pa_cons (pe_ix ix_tup (pv 0) pe_int (fun _ _ => rfl)) (pa_cons (pe_ix ix_tup (pv 0) pe_int (fun _ _ => rfl)) pa_nil)))))) pss_nil)
      (pss_cons (ps_if (pt_cmpR op_eq (pv 1) pe_str (nomark _)) (pss_one (ps_ret (pe_op op_add_str (pe_op op_add_str (pe_op op_add_str (pe_str) (C8.pe_c cP hr (by omega) (by rfl) (pa_cons (pe_ix ix_tup (pv 0) pe_int (fun _ _ => rfl)) (pa_cons (pe_ix ix_tup (pv 0) pe_int (fun _ _ => rfl)) pa_nil)))) (pe_str)) (pe_ix ix_tup (pv 0) pe_int (fun _ _ => rfl))))) pss_nil)
      (pss_cons (ps_if (pt_cmpR op_eq (pv 1) pe_str (nomark _)) (pss_one (ps_ret (pe_op op_add_str (pe_op op_add_str (pe_op op_add_str (pe_str) (pe_ix ix_tup (pv 0) pe_int (fun _ _ => rfl))) (pe_str)) (pe_ix ix_tup (pv 0) pe_int (fun _ _ => rfl))))) pss_nil)
      (pss_cons (ps_if (pt_cmpR op_eq (pv 1) pe_str (nomark _)) (pss_one (ps_ret (pe_op op_add_str (pe_op op_add_str (pe_op op_add_str (pe_str) (C8.pe_c cP hr (by omega) (by rfl) (pa_cons (pe_ix ix_tup (pv 0) pe_int (fun _ _ => rfl)) (pa_cons (pe_ix ix_tup (pv 0) pe_int (fun _ _ => rfl)) pa_nil)))) (pe_str)) (pe_ix ix_tup (pv 0) pe_int (fun _ _ => rfl))))) pss_nil)
      (pss_cons (ps_if (pt_cmpR op_eq (pv 1) pe_str (nomark _)) (pss_cons (ps_set (i := 2) scLText.nd rfl (.inl rfl) (pe_join pe_str (pe_lc (own := [("arg", 4)]) (g := gName 4) (tt := tYes) rfl scLText.nd (pi_tup (pe_ix ix_tup (pv 0) pe_int (fun _ _ => rfl))) (blkOk_by (N := ltN) (sc := defScope s_L_text) (by decide +kernel))
          (fun _ _ _ _ _ => pg_name (i := 4) scLText.nd rfl (Or.inl rfl)) (fun _ _ _ _ _ => pts_nil) (fun _ _ _ _ _ => C8.pe_c cA hr (by omega) (by rfl) (pa_cons (pv 4) pa_nil)))))
      (Evl.pss_cut (ps_set (i := 3) scLText.nd rfl (.inl rfl) (pe_ifExp (pt_cmpR op_eq (pe_ix ix_tup (pv 0) pe_int (fun _ _ => rfl)) pe_str (nomark _)) pe_str (pe_op op_add_str (pe_ix ix_tup (pv 0) pe_int (fun _ _ => rfl)) (pe_str))))
      (pss_one (ps_ret (pe_op op_add_str (pe_op op_add_str (pe_op op_add_str (pe_op op_add_str (pe_op op_add_str (pe_str) (pv 3)) (pe_ix ix_tup (pv 0) pe_int (fun _ _ => rfl))) (pe_str)) (pv 2)) (pe_str)))))) pss_nil)
      (pss_one (ps_ret (pe_ifExp (PW.pt (pw_or (pt_cmpR op_eq (pv 1) pe_str (nomark _)) (pw_or1 (pt_cmpR op_eq (pe_ix ix_tup (pv 0) pe_int (fun _ _ => rfl)) pe_str (nomark _))))) (pv 1) (pe_op op_add_str (pe_op op_add_str (pv 1) (pe_str)) (pe_ix ix_tup (pv 0) pe_int (fun _ _ => rfl)))))))))))), ?_⟩
    have ok := good_ok good
    have l3 : (Str.ofString " = ").length = 3 := rfl
    have l1 : (Str.ofString " ").length = 1 := rfl
    cases f with
    | copy x y p =>
      have r1 : Rep H v (.tup ([Str.ofString "copy", x, y, p].map Dt.txt)) := r1
      have ok : (isName x && isName y && openS p) = true := ok
      simp only [Bool.and_eq_true] at ok
      have l_x := (name_size ok.1.1).2
      have l_y := (name_size ok.1.2).2
      have l_p := openS_len ok.2
      have l_q := place_len l_y l_p
      have lw : (Str.ofString "copy").length = 4 := rfl
      have lw2 : (Str.ofString "copy ").length = 5 := rfl
      cases r1 with
      | tup ea lx ra =>
        rename_i a xs
        obtain rfl := rep_txts ra
        have qa : SqT K H a ([Str.ofString "copy", x, y, p].map V.str) := .inl (.inl ea)
        refine ⟨_, rfl, a, _, 0, .str (Str.ofString "copy"), rfl, rfl, qa, atI_nat (j := 0) rfl, ?_⟩
        refine ⟨_, rfl, (show 3 ≤ sizeLine by decide), fun p1 np1 => ⟨p1, _, rfl, .inr (.inl (.inl upd_same)), rfl, rfl, _, rfl, ?_⟩⟩
        have s2 := same_upd (o := HO.tup ([Str.ofString "copy", Str.ofString "take", Str.ofString "lend"].map V.str)) np1
        have qa2 := sqT_same s2 qa
        have fin := q _ s2
        have t1 : inV (V.str (Str.ofString "copy")) [V.str (Str.ofString "copy"), V.str (Str.ofString "take"), V.str (Str.ofString "lend")] = true := rfl
        show if inV (V.str (Str.ofString "copy")) [V.str (Str.ofString "copy"), V.str (Str.ofString "take"), V.str (Str.ofString "lend")] = true then _ else _
        rw [t1]
        exact iteT ⟨_, rfl, _, _, rfl, rfl, small1000 (by simp only [len_cat, lw, lw2, l1, l3]; omega), _, rfl, a, _, 1, .str x, rfl, rfl, qa2, atI_nat (j := 1) rfl, _, _, rfl, rfl, small1000 (by simp only [len_cat, lw, lw2, l1, l3]; omega), _, _, rfl, rfl, small1000 (by simp only [len_cat, lw, lw2, l1, l3]; omega), _, rfl, a, _, 2, .str y, rfl, rfl, qa2, atI_nat (j := 2) rfl, _, rfl, a, _, 3, .str p, rfl, rfl, qa2, atI_nat (j := 3) rfl, y, p, rfl, l_y, l_p, _, _, rfl, rfl, small1000 (by simp only [len_cat, lw, lw2, l1, l3]; omega), fin⟩
    | take x y p =>
      have r1 : Rep H v (.tup ([Str.ofString "take", x, y, p].map Dt.txt)) := r1
      have ok : (isName x && isName y && openS p) = true := ok
      simp only [Bool.and_eq_true] at ok
      have l_x := (name_size ok.1.1).2
      have l_y := (name_size ok.1.2).2
      have l_p := openS_len ok.2
      have l_q := place_len l_y l_p
      have lw : (Str.ofString "take").length = 4 := rfl
      have lw2 : (Str.ofString "take ").length = 5 := rfl
      cases r1 with
      | tup ea lx ra =>
        rename_i a xs
        obtain rfl := rep_txts ra
        have qa : SqT K H a ([Str.ofString "take", x, y, p].map V.str) := .inl (.inl ea)
        refine ⟨_, rfl, a, _, 0, .str (Str.ofString "take"), rfl, rfl, qa, atI_nat (j := 0) rfl, ?_⟩
        refine ⟨_, rfl, (show 3 ≤ sizeLine by decide), fun p1 np1 => ⟨p1, _, rfl, .inr (.inl (.inl upd_same)), rfl, rfl, _, rfl, ?_⟩⟩
        have s2 := same_upd (o := HO.tup ([Str.ofString "copy", Str.ofString "take", Str.ofString "lend"].map V.str)) np1
        have qa2 := sqT_same s2 qa
        have fin := q _ s2
        have t1 : inV (V.str (Str.ofString "take")) [V.str (Str.ofString "copy"), V.str (Str.ofString "take"), V.str (Str.ofString "lend")] = true := rfl
        show if inV (V.str (Str.ofString "take")) [V.str (Str.ofString "copy"), V.str (Str.ofString "take"), V.str (Str.ofString "lend")] = true then _ else _
        rw [t1]
        exact iteT ⟨_, rfl, _, _, rfl, rfl, small1000 (by simp only [len_cat, lw, lw2, l1, l3]; omega), _, rfl, a, _, 1, .str x, rfl, rfl, qa2, atI_nat (j := 1) rfl, _, _, rfl, rfl, small1000 (by simp only [len_cat, lw, lw2, l1, l3]; omega), _, _, rfl, rfl, small1000 (by simp only [len_cat, lw, lw2, l1, l3]; omega), _, rfl, a, _, 2, .str y, rfl, rfl, qa2, atI_nat (j := 2) rfl, _, rfl, a, _, 3, .str p, rfl, rfl, qa2, atI_nat (j := 3) rfl, y, p, rfl, l_y, l_p, _, _, rfl, rfl, small1000 (by simp only [len_cat, lw, lw2, l1, l3]; omega), fin⟩
    | lend x y p =>
      have r1 : Rep H v (.tup ([Str.ofString "lend", x, y, p].map Dt.txt)) := r1
      have ok : (isName x && isName y && openS p) = true := ok
      simp only [Bool.and_eq_true] at ok
      have l_x := (name_size ok.1.1).2
      have l_y := (name_size ok.1.2).2
      have l_p := openS_len ok.2
      have l_q := place_len l_y l_p
      have lw : (Str.ofString "lend").length = 4 := rfl
      have lw2 : (Str.ofString "lend ").length = 5 := rfl
      cases r1 with
      | tup ea lx ra =>
        rename_i a xs
        obtain rfl := rep_txts ra
        have qa : SqT K H a ([Str.ofString "lend", x, y, p].map V.str) := .inl (.inl ea)
        refine ⟨_, rfl, a, _, 0, .str (Str.ofString "lend"), rfl, rfl, qa, atI_nat (j := 0) rfl, ?_⟩
        refine ⟨_, rfl, (show 3 ≤ sizeLine by decide), fun p1 np1 => ⟨p1, _, rfl, .inr (.inl (.inl upd_same)), rfl, rfl, _, rfl, ?_⟩⟩
        have s2 := same_upd (o := HO.tup ([Str.ofString "copy", Str.ofString "take", Str.ofString "lend"].map V.str)) np1
        have qa2 := sqT_same s2 qa
        have fin := q _ s2
        have t1 : inV (V.str (Str.ofString "lend")) [V.str (Str.ofString "copy"), V.str (Str.ofString "take"), V.str (Str.ofString "lend")] = true := rfl
        show if inV (V.str (Str.ofString "lend")) [V.str (Str.ofString "copy"), V.str (Str.ofString "take"), V.str (Str.ofString "lend")] = true then _ else _
        rw [t1]
        exact iteT ⟨_, rfl, _, _, rfl, rfl, small1000 (by simp only [len_cat, lw, lw2, l1, l3]; omega), _, rfl, a, _, 1, .str x, rfl, rfl, qa2, atI_nat (j := 1) rfl, _, _, rfl, rfl, small1000 (by simp only [len_cat, lw, lw2, l1, l3]; omega), _, _, rfl, rfl, small1000 (by simp only [len_cat, lw, lw2, l1, l3]; omega), _, rfl, a, _, 2, .str y, rfl, rfl, qa2, atI_nat (j := 2) rfl, _, rfl, a, _, 3, .str p, rfl, rfl, qa2, atI_nat (j := 3) rfl, y, p, rfl, l_y, l_p, _, _, rfl, rfl, small1000 (by simp only [len_cat, lw, lw2, l1, l3]; omega), fin⟩
    | put x p y =>
      have r1 : Rep H v (.tup ([Str.ofString "put", x, p, y].map Dt.txt)) := r1
      have ok : (isName x && openS p && isName y) = true := ok
      simp only [Bool.and_eq_true] at ok
      have l_x := (name_size ok.1.1).2
      have l_p := openS_len ok.1.2
      have l_y := (name_size ok.2).2
      have l_q := place_len l_x l_p
      have lw : (Str.ofString "put").length = 3 := rfl
      have lw2 : (Str.ofString "put ").length = 4 := rfl
      cases r1 with
      | tup ea lx ra =>
        rename_i a xs
        obtain rfl := rep_txts ra
        have qa : SqT K H a ([Str.ofString "put", x, p, y].map V.str) := .inl (.inl ea)
        refine ⟨_, rfl, a, _, 0, .str (Str.ofString "put"), rfl, rfl, qa, atI_nat (j := 0) rfl, ?_⟩
        refine ⟨_, rfl, (show 3 ≤ sizeLine by decide), fun p1 np1 => ⟨p1, _, rfl, .inr (.inl (.inl upd_same)), rfl, rfl, _, rfl, ?_⟩⟩
        have s2 := same_upd (o := HO.tup ([Str.ofString "copy", Str.ofString "take", Str.ofString "lend"].map V.str)) np1
        have qa2 := sqT_same s2 qa
        have fin := q _ s2
        have t1 : inV (V.str (Str.ofString "put")) [V.str (Str.ofString "copy"), V.str (Str.ofString "take"), V.str (Str.ofString "lend")] = false := rfl
        show if inV (V.str (Str.ofString "put")) [V.str (Str.ofString "copy"), V.str (Str.ofString "take"), V.str (Str.ofString "lend")] = true then _ else _
        rw [t1]
        refine iteF ?_
        refine ⟨_, rfl, rfl, _, rfl, ?_⟩
        rw [strEq, show decide (Str.ofString "put" = Str.ofString "put") = true from by decide]
        exact iteT ⟨_, rfl, a, _, 1, .str x, rfl, rfl, qa2, atI_nat (j := 1) rfl, _, rfl, a, _, 2, .str p, rfl, rfl, qa2, atI_nat (j := 2) rfl, x, p, rfl, l_x, l_p, _, _, rfl, rfl, small1000 (by simp only [len_cat, lw, lw2, l1, l3]; omega), _, _, rfl, rfl, small1000 (by simp only [len_cat, lw, lw2, l1, l3]; omega), _, rfl, a, _, 3, .str y, rfl, rfl, qa2, atI_nat (j := 3) rfl, _, _, rfl, rfl, small1000 (by simp only [len_cat, lw, lw2, l1, l3]; omega), fin⟩
    | move x y =>
      have r1 : Rep H v (.tup ([Str.ofString "move", x, y].map Dt.txt)) := r1
      have ok : (isName x && isName y) = true := ok
      simp only [Bool.and_eq_true] at ok
      have l_x := (name_size ok.1).2
      have l_y := (name_size ok.2).2
      have lw : (Str.ofString "move").length = 4 := rfl
      have lw2 : (Str.ofString "move ").length = 5 := rfl
      cases r1 with
      | tup ea lx ra =>
        rename_i a xs
        obtain rfl := rep_txts ra
        have qa : SqT K H a ([Str.ofString "move", x, y].map V.str) := .inl (.inl ea)
        refine ⟨_, rfl, a, _, 0, .str (Str.ofString "move"), rfl, rfl, qa, atI_nat (j := 0) rfl, ?_⟩
        refine ⟨_, rfl, (show 3 ≤ sizeLine by decide), fun p1 np1 => ⟨p1, _, rfl, .inr (.inl (.inl upd_same)), rfl, rfl, _, rfl, ?_⟩⟩
        have s2 := same_upd (o := HO.tup ([Str.ofString "copy", Str.ofString "take", Str.ofString "lend"].map V.str)) np1
        have qa2 := sqT_same s2 qa
        have fin := q _ s2
        have t1 : inV (V.str (Str.ofString "move")) [V.str (Str.ofString "copy"), V.str (Str.ofString "take"), V.str (Str.ofString "lend")] = false := rfl
        show if inV (V.str (Str.ofString "move")) [V.str (Str.ofString "copy"), V.str (Str.ofString "take"), V.str (Str.ofString "lend")] = true then _ else _
        rw [t1]
        refine iteF ?_
        refine ⟨_, rfl, rfl, _, rfl, ?_⟩
        rw [strEq, show decide (Str.ofString "move" = Str.ofString "put") = false from by decide]
        refine iteF ?_
        refine ⟨_, rfl, rfl, _, rfl, ?_⟩
        rw [strEq, show decide (Str.ofString "move" = Str.ofString "move") = true from by decide]
        exact iteT ⟨_, rfl, a, _, 1, .str x, rfl, rfl, qa2, atI_nat (j := 1) rfl, _, _, rfl, rfl, small1000 (by simp only [len_cat, lw, lw2, l1, l3]; omega), _, _, rfl, rfl, small1000 (by simp only [len_cat, lw, lw2, l1, l3]; omega), _, rfl, a, _, 2, .str y, rfl, rfl, qa2, atI_nat (j := 2) rfl, _, _, rfl, rfl, small1000 (by simp only [len_cat, lw, lw2, l1, l3]; omega), fin⟩
    | touch x p y =>
      have r1 : Rep H v (.tup ([Str.ofString "touch", x, p, y].map Dt.txt)) := r1
      have ok : (isName x && openS p && wayS y) = true := ok
      simp only [Bool.and_eq_true] at ok
      have l_x := (name_size ok.1.1).2
      have l_p := openS_len ok.1.2
      have l_y : y.length ≤ 8 := by
        have h := ok.2
        unfold wayS at h
        rw [decide_eq_true_eq] at h
        rcases h with rfl | rfl <;> decide
      have l_q := place_len l_x l_p
      have lw : (Str.ofString "touch").length = 5 := rfl
      have lw2 : (Str.ofString "touch ").length = 6 := rfl
      cases r1 with
      | tup ea lx ra =>
        rename_i a xs
        obtain rfl := rep_txts ra
        have qa : SqT K H a ([Str.ofString "touch", x, p, y].map V.str) := .inl (.inl ea)
        refine ⟨_, rfl, a, _, 0, .str (Str.ofString "touch"), rfl, rfl, qa, atI_nat (j := 0) rfl, ?_⟩
        refine ⟨_, rfl, (show 3 ≤ sizeLine by decide), fun p1 np1 => ⟨p1, _, rfl, .inr (.inl (.inl upd_same)), rfl, rfl, _, rfl, ?_⟩⟩
        have s2 := same_upd (o := HO.tup ([Str.ofString "copy", Str.ofString "take", Str.ofString "lend"].map V.str)) np1
        have qa2 := sqT_same s2 qa
        have fin := q _ s2
        have t1 : inV (V.str (Str.ofString "touch")) [V.str (Str.ofString "copy"), V.str (Str.ofString "take"), V.str (Str.ofString "lend")] = false := rfl
        show if inV (V.str (Str.ofString "touch")) [V.str (Str.ofString "copy"), V.str (Str.ofString "take"), V.str (Str.ofString "lend")] = true then _ else _
        rw [t1]
        refine iteF ?_
        refine ⟨_, rfl, rfl, _, rfl, ?_⟩
        rw [strEq, show decide (Str.ofString "touch" = Str.ofString "put") = false from by decide]
        refine iteF ?_
        refine ⟨_, rfl, rfl, _, rfl, ?_⟩
        rw [strEq, show decide (Str.ofString "touch" = Str.ofString "move") = false from by decide]
        refine iteF ?_
        refine ⟨_, rfl, rfl, _, rfl, ?_⟩
        rw [strEq, show decide (Str.ofString "touch" = Str.ofString "touch") = true from by decide]
        exact iteT ⟨_, rfl, a, _, 1, .str x, rfl, rfl, qa2, atI_nat (j := 1) rfl, _, rfl, a, _, 2, .str p, rfl, rfl, qa2, atI_nat (j := 2) rfl, x, p, rfl, l_x, l_p, _, _, rfl, rfl, small1000 (by simp only [len_cat, lw, lw2, l1, l3]; omega), _, _, rfl, rfl, small1000 (by simp only [len_cat, lw, lw2, l1, l3]; omega), _, rfl, a, _, 3, .str y, rfl, rfl, qa2, atI_nat (j := 3) rfl, _, _, rfl, rfl, small1000 (by simp only [len_cat, lw, lw2, l1, l3]; omega), fin⟩
    | new x =>
      have r1 : Rep H v (.tup ([Str.ofString "new", x].map Dt.txt)) := r1
      have l_x := (name_size (show isName x = true from ok)).2
      have lw : (Str.ofString "new").length = 3 := rfl
      have lw2 : (Str.ofString "new ").length = 4 := rfl
      cases r1 with
      | tup ea lx ra =>
        rename_i a xs
        obtain rfl := rep_txts ra
        have qa : SqT K H a ([Str.ofString "new", x].map V.str) := .inl (.inl ea)
        refine ⟨_, rfl, a, _, 0, .str (Str.ofString "new"), rfl, rfl, qa, atI_nat (j := 0) rfl, ?_⟩
        refine ⟨_, rfl, (show 3 ≤ sizeLine by decide), fun p1 np1 => ⟨p1, _, rfl, .inr (.inl (.inl upd_same)), rfl, rfl, _, rfl, ?_⟩⟩
        have s2 := same_upd (o := HO.tup ([Str.ofString "copy", Str.ofString "take", Str.ofString "lend"].map V.str)) np1
        have qa2 := sqT_same s2 qa
        have fin := q _ s2
        have t1 : inV (V.str (Str.ofString "new")) [V.str (Str.ofString "copy"), V.str (Str.ofString "take"), V.str (Str.ofString "lend")] = false := rfl
        show if inV (V.str (Str.ofString "new")) [V.str (Str.ofString "copy"), V.str (Str.ofString "take"), V.str (Str.ofString "lend")] = true then _ else _
        rw [t1]
        refine iteF ?_
        refine ⟨_, rfl, rfl, _, rfl, ?_⟩
        rw [strEq, show decide (Str.ofString "new" = Str.ofString "put") = false from by decide]
        refine iteF ?_
        refine ⟨_, rfl, rfl, _, rfl, ?_⟩
        rw [strEq, show decide (Str.ofString "new" = Str.ofString "move") = false from by decide]
        refine iteF ?_
        refine ⟨_, rfl, rfl, _, rfl, ?_⟩
        rw [strEq, show decide (Str.ofString "new" = Str.ofString "touch") = false from by decide]
        refine iteF ?_
        refine ⟨_, rfl, rfl, _, rfl, ?_⟩
        rw [strEq, show decide (Str.ofString "new" = Str.ofString "call") = false from by decide]
        refine iteF ?_
        refine ⟨_, rfl, rfl, _, rfl, ?_⟩
        rw [strEq, show decide (Str.ofString "new" = Str.ofString "skip") = false from by decide]
        refine iteF ⟨_, rfl, a, _, 1, .str x, rfl, rfl, qa2, atI_nat (j := 1) rfl, rfl, _, rfl, ?_⟩
        rw [strEq]
        have hx : x ≠ Str.ofString "" := fun e => by
          have := (name_size (show isName x = true from ok)).1
          rw [e] at this
          exact absurd this (by decide)
        rw [decide_eq_false hx]
        exact iteF ⟨_, rfl, _, _, rfl, rfl, small1000 (by simp only [len_cat, lw, lw2, l1, l3]; omega), _, rfl, a, _, 1, .str x, rfl, rfl, qa2, atI_nat (j := 1) rfl, _, _, rfl, rfl, small1000 (by simp only [len_cat, lw, lw2, l1, l3]; omega), fin⟩
    | drop x =>
      have r1 : Rep H v (.tup ([Str.ofString "drop", x].map Dt.txt)) := r1
      have l_x := (name_size (show isName x = true from ok)).2
      have lw : (Str.ofString "drop").length = 4 := rfl
      have lw2 : (Str.ofString "drop ").length = 5 := rfl
      cases r1 with
      | tup ea lx ra =>
        rename_i a xs
        obtain rfl := rep_txts ra
        have qa : SqT K H a ([Str.ofString "drop", x].map V.str) := .inl (.inl ea)
        refine ⟨_, rfl, a, _, 0, .str (Str.ofString "drop"), rfl, rfl, qa, atI_nat (j := 0) rfl, ?_⟩
        refine ⟨_, rfl, (show 3 ≤ sizeLine by decide), fun p1 np1 => ⟨p1, _, rfl, .inr (.inl (.inl upd_same)), rfl, rfl, _, rfl, ?_⟩⟩
        have s2 := same_upd (o := HO.tup ([Str.ofString "copy", Str.ofString "take", Str.ofString "lend"].map V.str)) np1
        have qa2 := sqT_same s2 qa
        have fin := q _ s2
        have t1 : inV (V.str (Str.ofString "drop")) [V.str (Str.ofString "copy"), V.str (Str.ofString "take"), V.str (Str.ofString "lend")] = false := rfl
        show if inV (V.str (Str.ofString "drop")) [V.str (Str.ofString "copy"), V.str (Str.ofString "take"), V.str (Str.ofString "lend")] = true then _ else _
        rw [t1]
        refine iteF ?_
        refine ⟨_, rfl, rfl, _, rfl, ?_⟩
        rw [strEq, show decide (Str.ofString "drop" = Str.ofString "put") = false from by decide]
        refine iteF ?_
        refine ⟨_, rfl, rfl, _, rfl, ?_⟩
        rw [strEq, show decide (Str.ofString "drop" = Str.ofString "move") = false from by decide]
        refine iteF ?_
        refine ⟨_, rfl, rfl, _, rfl, ?_⟩
        rw [strEq, show decide (Str.ofString "drop" = Str.ofString "touch") = false from by decide]
        refine iteF ?_
        refine ⟨_, rfl, rfl, _, rfl, ?_⟩
        rw [strEq, show decide (Str.ofString "drop" = Str.ofString "call") = false from by decide]
        refine iteF ?_
        refine ⟨_, rfl, rfl, _, rfl, ?_⟩
        rw [strEq, show decide (Str.ofString "drop" = Str.ofString "skip") = false from by decide]
        refine iteF ⟨_, rfl, a, _, 1, .str x, rfl, rfl, qa2, atI_nat (j := 1) rfl, rfl, _, rfl, ?_⟩
        rw [strEq]
        have hx : x ≠ Str.ofString "" := fun e => by
          have := (name_size (show isName x = true from ok)).1
          rw [e] at this
          exact absurd this (by decide)
        rw [decide_eq_false hx]
        exact iteF ⟨_, rfl, _, _, rfl, rfl, small1000 (by simp only [len_cat, lw, lw2, l1, l3]; omega), _, rfl, a, _, 1, .str x, rfl, rfl, qa2, atI_nat (j := 1) rfl, _, _, rfl, rfl, small1000 (by simp only [len_cat, lw, lw2, l1, l3]; omega), fin⟩
    | skip =>
      have r1 : Rep H v (.tup ([Str.ofString "skip"].map Dt.txt)) := r1
      have lw : (Str.ofString "skip").length = 4 := rfl
      have lw2 : (Str.ofString "skip ").length = 5 := rfl
      cases r1 with
      | tup ea lx ra =>
        rename_i a xs
        obtain rfl := rep_txts ra
        have qa : SqT K H a ([Str.ofString "skip"].map V.str) := .inl (.inl ea)
        refine ⟨_, rfl, a, _, 0, .str (Str.ofString "skip"), rfl, rfl, qa, atI_nat (j := 0) rfl, ?_⟩
        refine ⟨_, rfl, (show 3 ≤ sizeLine by decide), fun p1 np1 => ⟨p1, _, rfl, .inr (.inl (.inl upd_same)), rfl, rfl, _, rfl, ?_⟩⟩
        have s2 := same_upd (o := HO.tup ([Str.ofString "copy", Str.ofString "take", Str.ofString "lend"].map V.str)) np1
        have qa2 := sqT_same s2 qa
        have fin := q _ s2
        have t1 : inV (V.str (Str.ofString "skip")) [V.str (Str.ofString "copy"), V.str (Str.ofString "take"), V.str (Str.ofString "lend")] = false := rfl
        show if inV (V.str (Str.ofString "skip")) [V.str (Str.ofString "copy"), V.str (Str.ofString "take"), V.str (Str.ofString "lend")] = true then _ else _
        rw [t1]
        refine iteF ?_
        refine ⟨_, rfl, rfl, _, rfl, ?_⟩
        rw [strEq, show decide (Str.ofString "skip" = Str.ofString "put") = false from by decide]
        refine iteF ?_
        refine ⟨_, rfl, rfl, _, rfl, ?_⟩
        rw [strEq, show decide (Str.ofString "skip" = Str.ofString "move") = false from by decide]
        refine iteF ?_
        refine ⟨_, rfl, rfl, _, rfl, ?_⟩
        rw [strEq, show decide (Str.ofString "skip" = Str.ofString "touch") = false from by decide]
        refine iteF ?_
        refine ⟨_, rfl, rfl, _, rfl, ?_⟩
        rw [strEq, show decide (Str.ofString "skip" = Str.ofString "call") = false from by decide]
        refine iteF ?_
        refine ⟨_, rfl, rfl, _, rfl, ?_⟩
        rw [strEq, show decide (Str.ofString "skip" = Str.ofString "skip") = true from by decide]
        exact iteT (iteT ⟨_, rfl, fin⟩)
    | ret x =>
      have r1 : Rep H v (.tup ([Str.ofString "return", x].map Dt.txt)) := r1
      have l_x := openS_len (show openS x = true from ok)
      have lw : (Str.ofString "return").length = 6 := rfl
      have lw2 : (Str.ofString "return ").length = 7 := rfl
      cases r1 with
      | tup ea lx ra =>
        rename_i a xs
        obtain rfl := rep_txts ra
        have qa : SqT K H a ([Str.ofString "return", x].map V.str) := .inl (.inl ea)
        refine ⟨_, rfl, a, _, 0, .str (Str.ofString "return"), rfl, rfl, qa, atI_nat (j := 0) rfl, ?_⟩
        refine ⟨_, rfl, (show 3 ≤ sizeLine by decide), fun p1 np1 => ⟨p1, _, rfl, .inr (.inl (.inl upd_same)), rfl, rfl, _, rfl, ?_⟩⟩
        have s2 := same_upd (o := HO.tup ([Str.ofString "copy", Str.ofString "take", Str.ofString "lend"].map V.str)) np1
        have qa2 := sqT_same s2 qa
        have fin := q _ s2
        have t1 : inV (V.str (Str.ofString "return")) [V.str (Str.ofString "copy"), V.str (Str.ofString "take"), V.str (Str.ofString "lend")] = false := rfl
        show if inV (V.str (Str.ofString "return")) [V.str (Str.ofString "copy"), V.str (Str.ofString "take"), V.str (Str.ofString "lend")] = true then _ else _
        rw [t1]
        refine iteF ?_
        refine ⟨_, rfl, rfl, _, rfl, ?_⟩
        rw [strEq, show decide (Str.ofString "return" = Str.ofString "put") = false from by decide]
        refine iteF ?_
        refine ⟨_, rfl, rfl, _, rfl, ?_⟩
        rw [strEq, show decide (Str.ofString "return" = Str.ofString "move") = false from by decide]
        refine iteF ?_
        refine ⟨_, rfl, rfl, _, rfl, ?_⟩
        rw [strEq, show decide (Str.ofString "return" = Str.ofString "touch") = false from by decide]
        refine iteF ?_
        refine ⟨_, rfl, rfl, _, rfl, ?_⟩
        rw [strEq, show decide (Str.ofString "return" = Str.ofString "call") = false from by decide]
        refine iteF ?_
        refine ⟨_, rfl, rfl, _, rfl, ?_⟩
        rw [strEq, show decide (Str.ofString "return" = Str.ofString "skip") = false from by decide]
        refine iteF ⟨_, rfl, a, _, 1, .str x, rfl, rfl, qa2, atI_nat (j := 1) rfl, rfl, _, rfl, ?_⟩
        rw [strEq]
        by_cases hx : x = Str.ofString ""
        · rw [decide_eq_true hx]
          rw [show (StepF.ret x).text = Str.ofString "return" from if_pos hx] at fin
          exact iteT ⟨_, rfl, fin⟩
        · rw [decide_eq_false hx]
          rw [show (StepF.ret x).text = Str.ofString "return " ++ x from if_neg hx] at fin
          exact iteF ⟨_, rfl, _, _, rfl, rfl, small1000 (by simp only [len_cat, lw, lw2, l1, l3]; omega), _, rfl, a, _, 1, .str x, rfl, rfl, qa2, atI_nat (j := 1) rfl, _, _, rfl, rfl, small1000 (by simp only [len_cat, lw, lw2, l1, l3]; omega), fin⟩
    | call rr g args =>
      have r1 : Rep H v (.tup [.txt (Str.ofString "call"), .txt rr, .txt g, .tup (args.map ArgF.dt)]) := r1
      have ok : (openS rr && isName g && decide (args.length ≤ 3) && args.all ArgF.ok) = true := ok
      simp only [Bool.and_eq_true, decide_eq_true_eq] at ok
      have l_r := openS_len ok.1.1.1
      have l_g := (name_size ok.1.1.2).2
      have l_j := args_len ok.2 ok.1.2
      have few := ok.1.2
      cases r1 with
      | tup ea lx ra =>
        rename_i a xs
        cases ra with
        | cons h0 ra =>
          cases h0
          cases ra with
          | cons h1 ra =>
            cases h1
            cases ra with
            | cons h2 ra =>
              cases h2
              cases ra with
              | cons h3 ra =>
                cases ra
                cases h3 with
                | tup eb ly rb =>
                  rename_i b ys
                  have qa : SqT K H a [.str (Str.ofString "call"), .str rr, .str g, .ref b] := .inl (.inl ea)
                  refine ⟨_, rfl, a, _, 0, .str (Str.ofString "call"), rfl, rfl, qa, atI_nat (j := 0) rfl, ?_⟩
                  refine ⟨_, rfl, (show 3 ≤ sizeLine by decide), fun p1 np1 => ⟨p1, _, rfl, .inr (.inl (.inl upd_same)), rfl, rfl, _, rfl, ?_⟩⟩
                  have s2 := same_upd (o := HO.tup ([Str.ofString "copy", Str.ofString "take", Str.ofString "lend"].map V.str)) np1
                  have qa2 := sqT_same s2 qa
                  have hb2 := s2 _ _ eb
                  have rb2 : RepAll _ ys (args.map ArgF.dt) := RepAll.same s2 _ _ rb
                  have t1 : inV (V.str (Str.ofString "call")) [V.str (Str.ofString "copy"), V.str (Str.ofString "take"), V.str (Str.ofString "lend")] = false := rfl
                  show if inV (V.str (Str.ofString "call")) [V.str (Str.ofString "copy"), V.str (Str.ofString "take"), V.str (Str.ofString "lend")] = true then _ else _
                  rw [t1]
                  refine iteF ?_
                  refine ⟨_, rfl, rfl, _, rfl, ?_⟩
                  rw [strEq, show decide (Str.ofString "call" = Str.ofString "put") = false from by decide]
                  refine iteF ?_
                  refine ⟨_, rfl, rfl, _, rfl, ?_⟩
                  rw [strEq, show decide (Str.ofString "call" = Str.ofString "move") = false from by decide]
                  refine iteF ?_
                  refine ⟨_, rfl, rfl, _, rfl, ?_⟩
                  rw [strEq, show decide (Str.ofString "call" = Str.ofString "touch") = false from by decide]
                  refine iteF ?_
                  refine ⟨_, rfl, rfl, _, rfl, ?_⟩
                  rw [strEq, show decide (Str.ofString "call" = Str.ofString "call") = true from by decide]
                  refine iteT ?_
                  have ll := rb2.length
                  rw [List.length_map] at ll
                  refine ⟨⟨_, rfl⟩, _, rfl, a, _, 3, .ref b, rfl, rfl, qa2, atI_nat (j := 3) rfl, b, rfl, ⟨ys, .inl (.inl hb2)⟩, fun D nD => ?_⟩
                  refine lc_gen walk_tup (fun i => ((args.take i).map ArgF.text).map V.str) rfl (fun i hi => ?_) nD (fun H' sm => .inl (.inl (sm _ _ hb2))) (fun i x H4 H5 Ky Kn hi sm y k1 k0 => ?_) (fun H4 s4 e4 => ?_)
                  · rw [List.length_map, List.length_map, List.length_take]
                    omega
                  · obtain ⟨rfl, hx⟩ := y
                    obtain ⟨d, hd, rd⟩ := rb2.at hx
                    rw [List.getElem?_map] at hd
                    obtain ⟨ar, har, rfl⟩ := Option.map_eq_some_iff.mp hd
                    refine ⟨rfl, _, rfl, x, ar, rfl, Rep.same sm _ _ rd, List.all_eq_true.mp ok.2 ar (List.mem_of_getElem? har), k1 _ _ (.refl _) ?_⟩
                    rw [List.take_add_one, har, List.map_append, List.map_append]
                    rfl
                  · rw [ll, List.take_length] at e4
                    have qa4 := sqT_same s4 qa2
                    have fin := q _ (s2.trans s4)
                    have ls := args_sum ok.2
                    have lc : (Str.ofString "call ").length = 5 := rfl
                    have lo : (Str.ofString "(").length = 1 := rfl
                    have lcl : (Str.ofString ")").length = 1 := rfl
                    refine ⟨Str.ofString ", ", D, args.map ArgF.text, rfl, rfl, .inl (.inl (.inl e4)), ?_, ?_⟩
                    · rw [List.length_map, show (Str.ofString ", ").length = 2 from rfl]
                      omega
                    obtain ⟨tg, htg, ltg⟩ : ∃ tg : Str, tg = (if rr = Str.ofString "" then Str.ofString "" else rr ++ Str.ofString " = ") ∧ tg.length ≤ 11 := by
                      refine ⟨_, rfl, ?_⟩
                      split
                      · decide
                      · rw [len_cat, l3]
                        omega
                    refine ⟨fun σ1 H5 => H5 = H4 ∧ σ1 = [some (.ref a), some (.str (Str.ofString "call")), some (.str (Txt.join (Str.ofString ", ") (args.map ArgF.text))), some (.str tg), none], ?_, ?_⟩
                    · refine ⟨_, rfl, a, _, 1, .str rr, rfl, rfl, qa4, atI_nat (j := 1) rfl, rfl, _, rfl, ?_⟩
                      rw [strEq]
                      by_cases hr0 : rr = Str.ofString ""
                      · rw [decide_eq_true hr0]
                        rw [if_pos hr0] at htg
                        subst htg
                        exact iteT ⟨rfl, rfl⟩
                      · rw [decide_eq_false hr0]
                        rw [if_neg hr0] at htg
                        subst htg
                        exact iteF ⟨_, rfl, a, _, 1, .str rr, rfl, rfl, qa4, atI_nat (j := 1) rfl, _, _, rfl, rfl, small1000 (by omega), rfl, rfl⟩
                    · rintro σ1 H5 ⟨rfl, rfl⟩
                      have e : Str.ofString "call " ++ tg ++ g ++ Str.ofString "(" ++ Txt.join (Str.ofString ", ") (args.map ArgF.text) ++ Str.ofString ")" = (StepF.call rr g args).text := by
                        rw [htg]
                        rfl
                      rw [← e] at fin
                      exact ⟨_, rfl, _, _, rfl, rfl, small1000 (by simp only [len_cat, lc]; omega), _, rfl, a, _, 2, .str g, rfl, rfl, qa4, atI_nat (j := 2) rfl, _, _, rfl, rfl, small1000 (by simp only [len_cat, lc]; omega), _, _, rfl, rfl, small1000 (by simp only [len_cat, lc, lo]; omega), _, rfl, _, _, rfl, rfl, small1000 (by simp only [len_cat, lc, lo]; omega), _, _, rfl, rfl, small1000 (by simp only [len_cat, lc, lo, lcl]; omega), fin⟩
/-! ### bag and data apart -/
def hide (b : Addr) (H : Hp) : Hp := fun a => if a = b then none else H a
theorem hide_at {b a : Addr} {H : Hp} (n : a ≠ b) : hide b H a = H a := if_neg n
theorem hide_keep {b : Addr} {H H' : Hp} (k : Keep b H H') : Same (hide b H) (hide b H') := fun a o e => by
  by_cases n : a = b
  · subst n
    unfold hide at e
    rw [if_pos rfl] at e
    cases e
  · rw [hide_at n] at e ⊢
    exact k a o n e
theorem hide_same {b : Addr} {H : Hp} : Same (hide b H) H := fun a o e => by
  by_cases n : a = b
  · subst n
    unfold hide at e
    rw [if_pos rfl] at e
    cases e
  · rw [hide_at n] at e
    exact e
theorem hide_upd {b D : Addr} {H : Hp} {o : HO} (n : D ≠ b) : hide b (L2.upd H D o) = L2.upd (hide b H) D o := by
  funext a
  by_cases e : a = D
  · subst e
    rw [hide_at n, upd_same, upd_same]
  · rw [upd_ne e]
    by_cases m : a = b
    · subst m
      unfold hide
      rw [if_pos rfl, if_pos rfl]
    · rw [hide_at m, hide_at m, upd_ne e]
/-! ### _law_form -/
theorem its_lst {K : PySem.W.Frag} {H : Hp} {b a : Addr} {n : Nat} {zs : List Str} (g : Bag H b n) (h : H a = some (.lst (zs.map V.str))) : Its K b H (.ref a) (zs.map V.str) := .inl ⟨a, rfl, g.strs h, .inl (.inl (.inl h))⟩
theorem its_put {K : PySem.W.Frag} {H : Hp} {b p : Addr} {n : Nat} {xs : List V} (g : Bag H b n) (np : H p = none) : Its K b (L2.upd H p (.lst xs)) (.ref p) xs := .inl ⟨p, rfl, fun e => by
  rw [e] at np
  exact absurd rfl (g.ne np), .inl (.inl (.inl upd_same))⟩
theorem mem_str {zs : List Str} {x : V} (h : x ∈ zs.map V.str) : ∃ z ∈ zs, x = .str z := by
  obtain ⟨z, hz, rfl⟩ := List.mem_map.mp h
  exact ⟨z, hz, rfl⟩
theorem others_len {x : Str} : ∀ {zs : List Str}, zs.Nodup → x ∈ zs → (zs.filter fun z => !decide (z = x)).length + 1 = zs.length
  | [], _, h => nomatch h
  | z :: r, nd, h => by
    obtain ⟨n1, n2⟩ := List.nodup_cons.mp nd
    rw [List.filter_cons]
    by_cases e : z = x
    · subst e
      have : (r.filter fun y => !decide (y = z)) = r := List.filter_eq_self.mpr fun y hy => by
        rw [decide_eq_false (fun e => n1 (by rw [← e]; exact hy))]
        rfl
      rw [decide_eq_true rfl, this]
      rfl
    · rw [decide_eq_false e]
      have h : x ∈ r := (List.mem_cons.mp h).resolve_left fun h => e h.symm
      have := others_len n2 h
      show (z :: _).length + 1 = _
      rw [List.length_cons, List.length_cons]
      omega
theorem rep_row {H : Hp} {b c : Addr} {n : Nat} {zs : List Str} (g : Bag H b n) (h : H c = some (.tup (zs.map V.str))) (l : zs.length ≤ 1000) (m : ∀ z ∈ zs, z.length ≤ 100000) : Rep (hide b H) (.ref c) (txs zs) :=
  rep_txs ((hide_at (g.tup h)).trans h) l m
def ArgF.row : ArgF → List Str
  | .lend a p => [Str.ofString "lend", a, p]
  | .move a => [Str.ofString "move", a]
theorem row_arg (f : ArgF) : f.dt = txs f.row := by cases f <;> rfl
theorem row_ok {f : ArgF} (ok : f.ok = true) : f.row.length ≤ 1000 ∧ ∀ z ∈ f.row, z.length ≤ 100000 := by
  have big : ∀ {k : Nat}, k ≤ 8 → k ≤ 100000 := fun h => Nat.le_trans h (by decide)
  cases f with
  | lend a p =>
    have ok : (isName a && openS p) = true := ok
    rw [Bool.and_eq_true] at ok
    refine ⟨(show 3 ≤ 1000 by decide), fun z hz => ?_⟩
    have hz : z ∈ [Str.ofString "lend", a, p] := hz
    simp only [List.mem_cons, List.not_mem_nil, or_false] at hz
    rcases hz with rfl | rfl | rfl
    · decide
    · exact big (name_size ok.1).2
    · exact big (openS_len ok.2)
  | move a =>
    refine ⟨(show 2 ≤ 1000 by decide), fun z hz => ?_⟩
    have hz : z ∈ [Str.ofString "move", a] := hz
    simp only [List.mem_cons, List.not_mem_nil, or_false] at hz
    rcases hz with rfl | rfl
    · decide
    · exact big (name_size (show isName z = true from ok)).2
theorem repAll_args {H : Hp} : ∀ (fs : List ArgF) (acc : List V), acc.length = fs.length → (∀ (j : Nat) (f : ArgF), fs[j]? = some f → ∃ c, acc[j]? = some (V.ref c) ∧ H c = some (HO.tup (f.row.map V.str))) → fs.all ArgF.ok = true → RepAll H acc (fs.map ArgF.dt)
  | [], [], _, _, _ => .nil
  | f :: fs, a :: acc, hl, hj, ok => by
    rw [List.all_cons, Bool.and_eq_true] at ok
    obtain ⟨c, e, hc⟩ := hj 0 f rfl
    obtain rfl : a = .ref c := Option.some.inj e
    obtain ⟨r1, r2⟩ := row_ok ok.1
    rw [List.map_cons, row_arg f]
    exact .cons (rep_txs hc r1 r2) (repAll_args fs acc (Nat.succ.inj hl) (fun j y h => hj (j + 1) y h) ok.2)
/-- a list of tuples that stand for arguments -/
def ArgsAt (H : Hp) (pa : Addr) (fs : List ArgF) : Prop := ∃ acc : List V, H pa = some (.lst acc) ∧ acc.length = fs.length ∧ ∀ (j : Nat) (f : ArgF), fs[j]? = some f → ∃ c, acc[j]? = some (V.ref c) ∧ H c = some (HO.tup (f.row.map V.str))
theorem ArgsAt.keep {b pa : Addr} {n : Nat} {H H' : Hp} {fs : List ArgF} (h : ArgsAt H pa fs) (g : Bag H b n) (n1 : pa ≠ b) (k : Keep b H H') : ArgsAt H' pa fs := by
  obtain ⟨acc, h1, h2, h3⟩ := h
  refine ⟨acc, k _ _ n1 h1, h2, fun j f e => ?_⟩
  obtain ⟨c, h4, h5⟩ := h3 j f e
  exact ⟨c, h4, k _ _ (g.tup h5) h5⟩
theorem ArgsAt.push {pa c : Addr} {H : Hp} {fs : List ArgF} {f : ArgF} (h : ArgsAt H pa fs) (hc : H c = some (HO.tup (f.row.map V.str))) : ∃ acc : List V, H pa = some (.lst acc) ∧ acc.length = fs.length ∧ ArgsAt (upd H pa (.lst (acc ++ [V.ref c]))) pa (fs ++ [f]) := by
  obtain ⟨acc, h1, h2, h3⟩ := h
  have nt : ∀ {d : Addr} {xs : List V}, H d = some (.tup xs) → d ≠ pa := fun {d xs} e z => by
    rw [z, h1] at e
    cases e
  refine ⟨acc, h1, h2, _, upd_same, by rw [List.length_append, List.length_append, h2]; rfl, fun j f' e => ?_⟩
  by_cases hj : j < fs.length
  · rw [List.getElem?_append_left hj] at e
    obtain ⟨d, h4, h5⟩ := h3 j f' e
    exact ⟨d, by rw [List.getElem?_append_left (by omega)]; exact h4, by rw [upd_ne (nt h5)]; exact h5⟩
  · rw [List.getElem?_append_right (by omega)] at e
    have ej : j - fs.length = 0 := by
      have := (List.getElem?_eq_some_iff.mp e).1
      rw [List.length_singleton] at this
      omega
    rw [ej] at e
    obtain rfl : f = f' := Option.some.inj e
    refine ⟨c, ?_, by rw [upd_ne (nt hc)]; exact hc⟩
    rw [List.getElem?_append_right (by omega), show j - acc.length = 0 by omega]
    rfl
abbrev lformN : List Str := ["bag", "names", "parts", "x", "spot", "a", "part", "way", "args", "turn", "arg", "name"]
theorem scLForm : FnScope lformN ["bag", "names", "parts"] (defScope s_L_form) := ⟨rfl, rfl, rfl, by decide +kernel, rfl, by decide +kernel, by decide +kernel⟩
def spLForm : Sp := fun vs H Q _ => ∃ (b a1 a2 : Addr) (n : Nat) (ns ps : List Str), vs = [.ref b, .ref a1, .ref a2] ∧ H a1 = some (.lst (ns.map V.str)) ∧ ns.length = 4 ∧ NamesOk ns ∧ H a2 = some (.lst (ps.map V.str)) ∧ ps.length = 4 ∧ (∀ p ∈ ps, openS p = true) ∧
  Bag H b n ∧ n + 1000 ≤ bagMost ∧ ∀ H' v f, Keep b H H' → Bag H' b (n + 100) → Rep (hide b H') v (StepF.dt f) → f.good = true → Q v H'
set_option maxHeartbeats 2000000 in
theorem ok_lform {f : Addr} {fd : FuncData} (F : Fun K "_law_form" "_law_form" s_L_form f fd) (mL : mg "len" = none) (mT : mg "tuple" = none) (mr : mg "range" = none) (cR : Cal P w K mg base 1 "_law_roll" spRoll) (cO : Cal P w K mg base 2 "_law_one" (spOne K)) : FnOk P w K mg base CX0 3 f fd ["bag", "names", "parts"] spLForm := by
  refine F.ok scLForm (fun vs H Q E h => ?_) (fun cdv A outer s H vs Q E hr h => ?_)
  · obtain ⟨b, a1, a2, n, ns, ps, rfl, _⟩ := h
    rfl
  · obtain ⟨b, a1, a2, n, ns, ps, rfl, h1, l1, ok1, h2, l2, ok2, g, nm, q⟩ := h
    refine ⟨_, (pss_cons (ps_asg (pe_tup (pa_cons (C8.pe_c cO hr (by omega) (by rfl) (pa_cons (pv 0) (pa_cons (pv 1) pa_nil))) (pa_cons (C8.pe_c cR hr (by omega) (by rfl) (pa_cons (pv 0) (pa_cons (pe_op op_sub (pe_callB call_len_seq (by rfl) mL PySem.boot_len (pa_cons (pv 1) pa_nil)) pe_int) pa_nil))) pa_nil))) (pg_tup (by rfl) (pgs_cons (pg_name (i := 3) scLForm.nd rfl (Or.inr rfl)) (pgs_cons (pg_name (i := 4) scLForm.nd rfl (Or.inl rfl)) pgs_nil))))
      (pss_cons (ps_set (i := 5) scLForm.nd rfl (.inl rfl) (pe_ix ix_list (pe_lc (own := [("name", 11)]) (g := gName 11) rfl scLForm.nd (pi_list (pv 1)) (blkOk_by (N := lformN) (sc := defScope s_L_form) (by decide +kernel))
        (fun _ _ _ _ _ => pg_name (i := 11) scLForm.nd rfl (Or.inl rfl)) (fun _ _ _ _ _ => pts_one (pt_cmpR op_ne (pv 11) (pv 3) (nomark _))) (fun _ _ _ _ _ => pv 11)) (pv 4) (fun _ _ => rfl)))
      (pss_cons (ps_par (i := 6) (j := 7) rfl scLForm.nd rfl rfl (by decide) rfl rfl (pa_cons (C8.pe_c cO hr (by omega) (by rfl) (pa_cons (pv 0) (pa_cons (pv 2) pa_nil))) (pa_cons (C8.pe_c cR hr (by omega) (by rfl) (pa_cons (pv 0) (pa_cons (pe_int) pa_nil))) pa_nil)) rfl)
      (pss_cons (ps_if (pt_cmpR op_lt (pv 7) pe_int (nomark _)) (pss_one (ps_ret (pe_ix ix_list (pe_lst (pa_cons (pe_tup (pa_cons (pe_str) (pa_cons (pv 3) pa_nil))) (pa_cons (pe_tup (pa_cons (pe_str) (pa_cons (pv 3) pa_nil))) (pa_cons (pe_tup (pa_cons (pe_str) pa_nil)) (pa_cons (pe_tup (pa_cons (pe_str) (pa_cons (pv 3) (pa_cons (pv 5) pa_nil)))) pa_nil))))) (pv 7) (fun _ _ => rfl)))) pss_nil)
      (pss_cons (ps_if (pt_cmpR op_lt (pv 7) pe_int (nomark _)) (pss_one (ps_ret (pe_tup (pa_cons (pe_ix ix_list (pe_lst (pa_cons (pe_str) (pa_cons (pe_str) pa_nil))) (pe_op op_sub (pv 7) pe_int) (fun _ _ => rfl)) (pa_cons (pv 3) (pa_cons (pv 5) (pa_cons (pv 6) pa_nil))))))) pss_nil)
      (pss_cons (ps_if (pt_cmpR op_lt (pv 7) pe_int (nomark _)) (pss_one (ps_ret (pe_ifExp (pt_cmpR op_eq (pv 7) pe_int (nomark _)) (pe_tup (pa_cons (pe_str) (pa_cons (pv 5) (pa_cons (pv 6) (pa_cons (pv 3) pa_nil)))))
        (pe_tup (pa_cons (pe_str) (pa_cons (pv 3) (pa_cons (C8.pe_c cO hr (by omega) (by rfl) (pa_cons (pv 0) (pa_cons (pe_lst (pa_cons (pv 5) (pa_cons (pv 5) (pa_cons (pv 3) pa_nil)))) pa_nil))) (pa_cons (pv 6) pa_nil)))))))) pss_nil)
      (pss_cons (ps_if (pt_cmpR op_eq (pv 7) pe_int (nomark _)) (pss_one (ps_ret (pe_tup (pa_cons (pe_str) (pa_cons (pv 5) (pa_cons (pv 6) (pa_cons (C8.pe_c cO hr (by omega) (by rfl) (pa_cons (pv 0) (pa_cons (pe_lst (pa_cons (pe_str) (pa_cons (pe_str) pa_nil))) pa_nil))) pa_nil))))))) pss_nil)
      (pss_cons (ps_if (pt_cmpR op_eq (pv 7) pe_int (nomark _)) (pss_one (ps_ret (pe_tup (pa_cons (pe_str) (pa_cons (C8.pe_c cO hr (by omega) (by rfl) (pa_cons (pv 0) (pa_cons (pe_op op_cat (pv 1) (pe_lst (pa_cons (pe_str) pa_nil))) pa_nil))) pa_nil))))) pss_nil)
      (pss_cons (ps_set (i := 8) scLForm.nd rfl (.inl rfl) (pe_lst pa_nil))
      (Evl.pss_cut (ps_for PassesOwn.never rfl (pi_range1 (by rfl) mr (pa_cons (C8.pe_c cR hr (by omega) (by rfl) (pa_cons (pv 0) (pa_cons (pe_int) pa_nil))) pa_nil)) (pg_name (i := 9) scLForm.nd rfl (Or.inl rfl)) (pss_cons (ps_set (i := 10) scLForm.nd rfl (.inl rfl) (pe_tup (pa_cons (pe_str) (pa_cons (C8.pe_c cO hr (by omega) (by rfl) (pa_cons (pv 0) (pa_cons (pv 1) pa_nil))) (pa_cons (C8.pe_c cO hr (by omega) (by rfl) (pa_cons (pv 0) (pa_cons (pv 2) pa_nil))) pa_nil)))))
      (pss_one (ps_expr (pe_bm PySem.F.plainAttrs_list PySem.F.slot_list_append PySem.F.type_list_append mt_append (pv 8) (pa_cons (pe_ifExp (pt_cmpR op_gt (C8.pe_c cR hr (by omega) (by rfl) (pa_cons (pv 0) (pa_cons (pe_int) pa_nil))) pe_int (nomark _)) (pv 10) (pe_tup (pa_cons (pe_str) (pa_cons (C8.pe_c cO hr (by omega) (by rfl) (pa_cons (pv 0) (pa_cons (pv 1) pa_nil))) pa_nil)))) pa_nil))))))
      (pss_one (ps_ret (pe_tup (pa_cons (pe_str) (pa_cons (C8.pe_c cO hr (by omega) (by rfl) (pa_cons (pv 0) (pa_cons (pe_op op_cat (pv 1) (pe_lst (pa_cons (pe_str) (pa_cons (pe_str) pa_nil)))) pa_nil))) (pa_cons (C8.pe_c cO hr (by omega) (by rfl) (pa_cons (pv 0) (pa_cons (pv 1) pa_nil))) (pa_cons (pe_callTy call_tuple_of (by rfl) mT (by decide +kernel) (pa_cons (pv 8) pa_nil)) pa_nil))))))))))))))))), ?_⟩
    have na1 := g.strs h1
    have na2 := g.strs h2
    have ne1 : ns.map V.str ≠ [] := fun e => by
      have h : (ns.map V.str).length = 0 := by rw [e]; rfl
      rw [List.length_map] at h
      omega
    have ne2 : ps.map V.str ≠ [] := fun e => by
      have h : (ps.map V.str).length = 0 := by rw [e]; rfl
      rw [List.length_map] at h
      omega
    have nN : ∀ {z : Str}, z ∈ ns → z.length ≤ 100000 := fun h => Nat.le_trans (name_size (ok1.names h)).2 (by decide)
    have nP : ∀ {z : Str}, z ∈ ps → z.length ≤ 100000 := fun h => Nat.le_trans (openS_len (ok2 _ h)) (by decide)
    refine ⟨_, rfl, _, rfl, b, .ref a1, _, n, rfl, its_lst g h1, ne1, by rw [List.length_map]; omega, g, by omega, fun H1 xv kp1 g1 hx0 => ?_⟩
    obtain ⟨x, hx, rfl⟩ := mem_str hx0
    clear hx0
    have h11 := kp1 _ _ na1 h1
    refine ⟨_, rfl, _, rfl, a1, _, rfl, .inl (.inl (.inl h11)), _, _, rfl, rfl, b, _, _, rfl, by rw [List.length_map]; omega, by rw [List.length_map]; omega, g1, by omega, fun H2 sp kp2 g2 sp0 sp1 => ?_⟩
    rw [List.length_map] at sp1
    refine ⟨(show 2 ≤ sizeLine by decide), fun p np => ⟨p, _, rfl, .inl (.inl upd_same), rfl, _, _, rfl, _, _, rfl, rfl, ?_⟩⟩
    have s3 := same_upd (o := HO.tup [V.str x, V.int sp]) np
    have g3 := g2.same s3
    have kp3 := (kp1.trans kp2).trans (.of s3)
    generalize hG : L2.upd H2 p _ = H3 at *
    clear hG np
    have h13 := kp3 _ _ na1 h1
    refine ⟨.ref a1, rfl, a1, rfl, ⟨_, .inl (.inl h13)⟩, fun D nD => ?_⟩
    refine lc_vals (vals := ns.map V.str) walk_list (fun y => match y with | .str z => !decide (z = x) | _ => false) id (by rw [List.length_map]; omega) nD (fun H' sm => .inl (.inl (sm _ _ h13))) (fun x0 H4 Ky Kn hx0 sm k1 k0 => ?_) (fun H4 s4 e4 => ?_)
    · obtain ⟨z, hzm, rfl⟩ := mem_str hx0
      refine ⟨rfl, _, rfl, _, rfl, rfl, _, rfl, ?_⟩
      rw [strEq]
      by_cases hz : z = x
      · rw [decide_eq_true hz]
        exact iteF (k0 _ (.refl _) (by show (!decide (z = x)) = false; rw [decide_eq_true hz]; rfl))
      · rw [decide_eq_false hz]
        exact iteT ⟨_, rfl, k1 _ (.refl _) (by show (!decide (z = x)) = true; rw [decide_eq_false hz]; rfl)⟩
    have e5 : ((ns.map V.str).filter fun y => match y with | .str z => !decide (z = x) | _ => false).map id = (ns.filter fun z => !decide (z = x)).map V.str := by
      rw [List.map_id, List.filter_map]
      rfl
    rw [e5] at e4
    have lo := others_len ok1.nodup hx
    obtain ⟨j, rfl⟩ : ∃ j : Nat, sp = (j : Int) := ⟨sp.toNat, by omega⟩
    obtain ⟨y, hy⟩ : ∃ y, (ns.filter fun z => !decide (z = x))[j]? = some y := ⟨_, List.getElem?_eq_getElem (by omega)⟩
    have hym := List.mem_filter.mp (List.mem_of_getElem? hy)
    have yx : y ≠ x := fun e => by
      have := hym.2
      rw [decide_eq_true e] at this
      cases this
    have hy1 := hym.1
    refine ⟨_, rfl, D, _, _, .str y, rfl, rfl, .inl (.inl e4), atI_nat (j := j) (by rw [List.getElem?_map, hy]; rfl), ?_⟩
    have kp4 := kp3.trans (.of s4)
    have g4 := g3.same s4
    have h24 := kp4 _ _ na2 h2
    refine ⟨_, rfl, _, rfl, b, .ref a2, _, _, rfl, its_lst g4 h24, ne2, by rw [List.length_map]; omega, g4, by omega, fun H5 pv kp5 g5 hp => ?_⟩
    obtain ⟨pt, hpt, rfl⟩ := mem_str hp
    refine ⟨_, rfl, b, 13, _, rfl, by decide, by decide, g5, by omega, fun H6 way kp6 g6 w0 w1 => ⟨_, _, rfl, ?_⟩⟩
    have kp := kp4.trans (kp5.trans kp6)
    have q := fun H' v f k => q H' v f (Keep.trans kp k)
    have h16 := kp _ _ na1 h1
    have h26 := kp _ _ na2 h2
    clear kp1 kp2 kp3 kp4 kp5 kp6 s3 s4 e4 h11 h13 h24 g g1 g2 g3 g4 g5
    have nx := ok1.names hx
    have ny := ok1.names hy1
    have op := ok2 _ hpt
    have lx := nN hx
    have ly := nN hy1
    have lp := nP hpt
    have small : ∀ z : Str, z.length ≤ 8 → z.length ≤ 100000 := fun z h => Nat.le_trans h (by decide)
    refine ⟨_, rfl, _, _, rfl, rfl, _, rfl, ?_⟩
    by_cases w4 : way < 4
    · rw [decide_eq_true w4]
      refine iteT ?_
      refine ⟨_, rfl, (show 2 ≤ sizeLine by decide), fun p1 np1 => ⟨_, rfl, (show 2 ≤ sizeLine by decide), fun p2 np2 => ⟨(show 1 ≤ sizeLine by decide), fun p3 np3 => ⟨_, rfl, _, rfl, (show 3 ≤ sizeLine by decide), fun p4 np4 => ⟨(show 4 ≤ sizeLine by decide), fun p5 np5 => ?_⟩⟩⟩⟩⟩
      have t1 := same_upd (o := HO.tup [V.str (Str.ofString "new"), V.str x]) np1
      have t2 := same_upd (o := HO.tup [V.str (Str.ofString "drop"), V.str x]) np2
      have t3 := same_upd (o := HO.tup [V.str (Str.ofString "skip")]) np3
      have t4 := same_upd (o := HO.tup [V.str (Str.ofString "move"), V.str x, V.str y]) np4
      have t5 := same_upd (o := HO.lst [V.ref p1, V.ref p2, V.ref p3, V.ref p4]) np5
      have all := t1.trans (t2.trans (t3.trans (t4.trans t5)))
      have g7 := g6.same all
      have e1 := (t2.trans (t3.trans (t4.trans t5))) _ _ (upd_same (H := H6) (a := p1) (o := HO.tup [V.str (Str.ofString "new"), V.str x]))
      have e2 := (t3.trans (t4.trans t5)) p2 _ upd_same
      have e3 := (t4.trans t5) p3 _ upd_same
      have e4 := t5 p4 _ upd_same
      obtain ⟨w, rfl⟩ : ∃ w : Nat, way = (w : Int) := ⟨way.toNat, by omega⟩
      have fin := fun v f r gd => q _ v f (.of all) (g7.mono (by omega)) r gd
      have hw : w = 0 ∨ w = 1 ∨ w = 2 ∨ w = 3 := by omega
      rcases hw with rfl | rfl | rfl | rfl
      · refine ⟨_, rfl, p5, _, _, .ref p1, rfl, rfl, .inl (.inl upd_same), atI_nat (j := 0) rfl, fin _ (.new x) (rep_row (zs := [Str.ofString "new", x]) g7 e1 (show 2 ≤ 1000 by decide) ?_) (good_of nx (.inr (nodup1 x)))⟩
        intro z hz
        simp only [List.mem_cons, List.not_mem_nil, or_false] at hz
        rcases hz with rfl | rfl
        · decide
        · exact lx
      · refine ⟨_, rfl, p5, _, _, .ref p2, rfl, rfl, .inl (.inl upd_same), atI_nat (j := 1) rfl, fin _ (.drop x) (rep_row (zs := [Str.ofString "drop", x]) g7 e2 (show 2 ≤ 1000 by decide) ?_) (good_of nx (.inr (nodup1 x)))⟩
        intro z hz
        simp only [List.mem_cons, List.not_mem_nil, or_false] at hz
        rcases hz with rfl | rfl
        · decide
        · exact lx
      · refine ⟨_, rfl, p5, _, _, .ref p3, rfl, rfl, .inl (.inl upd_same), atI_nat (j := 2) rfl, fin _ .skip (rep_row (zs := [Str.ofString "skip"]) g7 e3 (show 1 ≤ 1000 by decide) ?_) rfl⟩
        intro z hz
        rw [List.mem_singleton.mp hz]
        decide
      · refine ⟨_, rfl, p5, _, _, .ref p4, rfl, rfl, .inl (.inl upd_same), atI_nat (j := 3) rfl, fin _ (.move x y) (rep_row (zs := [Str.ofString "move", x, y]) g7 e4 (show 3 ≤ 1000 by decide) ?_) (good_of (show (isName x && isName y) = true by rw [nx, ny]; rfl) (.inr (nodup2 (Ne.symm yx))))⟩
        intro z hz
        simp only [List.mem_cons, List.not_mem_nil, or_false] at hz
        rcases hz with rfl | rfl | rfl
        · decide
        · exact lx
        · exact ly
    rw [decide_eq_false w4]
    refine iteF ⟨_, rfl, _, _, rfl, rfl, _, rfl, ?_⟩
    by_cases w6 : way < 6
    · rw [decide_eq_true w6]
      refine iteT ?_
      obtain ⟨w, rfl⟩ : ∃ w : Nat, way = (w : Int) := ⟨way.toNat, by omega⟩
      have hw : w = 4 ∨ w = 5 := by omega
      refine ⟨(show 2 ≤ sizeLine by decide), fun p1 np1 => ?_⟩
      have t1 := same_upd (o := HO.lst [V.str (Str.ofString "copy"), V.str (Str.ofString "take")]) np1
      rcases hw with rfl | rfl
      · refine ⟨_, rfl, _, _, rfl, rfl, p1, _, _, .str (Str.ofString "copy"), rfl, rfl, .inl (.inl upd_same), atI_nat (j := 0) rfl, _, rfl, _, rfl, _, rfl, (show 4 ≤ sizeLine by decide), fun p2 np2 => ?_⟩
        have all := t1.trans (same_upd (o := HO.tup [V.str (Str.ofString "copy"), V.str x, V.str y, V.str pt]) np2)
        have g7 := g6.same all
        refine q _ _ (.copy x y pt) (.of all) (g7.mono (by omega)) (rep_row (zs := [Str.ofString "copy", x, y, pt]) g7 upd_same (show 4 ≤ 1000 by decide) ?_) (good_of (show (isName x && isName y && openS pt) = true by rw [nx, ny, op]; rfl) (.inr (nodup2 (Ne.symm yx))))
        intro z hz
        simp only [List.mem_cons, List.not_mem_nil, or_false] at hz
        rcases hz with rfl | rfl | rfl | rfl
        · decide
        · exact lx
        · exact ly
        · exact lp
      · refine ⟨_, rfl, _, _, rfl, rfl, p1, _, _, .str (Str.ofString "take"), rfl, rfl, .inl (.inl upd_same), atI_nat (j := 1) rfl, _, rfl, _, rfl, _, rfl, (show 4 ≤ sizeLine by decide), fun p2 np2 => ?_⟩
        have all := t1.trans (same_upd (o := HO.tup [V.str (Str.ofString "take"), V.str x, V.str y, V.str pt]) np2)
        have g7 := g6.same all
        refine q _ _ (.take x y pt) (.of all) (g7.mono (by omega)) (rep_row (zs := [Str.ofString "take", x, y, pt]) g7 upd_same (show 4 ≤ 1000 by decide) ?_) (good_of (show (isName x && isName y && openS pt) = true by rw [nx, ny, op]; rfl) (.inr (nodup2 (Ne.symm yx))))
        intro z hz
        simp only [List.mem_cons, List.not_mem_nil, or_false] at hz
        rcases hz with rfl | rfl | rfl | rfl
        · decide
        · exact lx
        · exact ly
        · exact lp
    rw [decide_eq_false w6]
    refine iteF ⟨_, rfl, _, _, rfl, rfl, _, rfl, ?_⟩
    by_cases w8 : way < 8
    · rw [decide_eq_true w8]
      refine iteT ⟨_, rfl, rfl, _, rfl, ite2 (fun _ => ?_) (fun _ => ?_)⟩
      · refine ⟨_, rfl, _, rfl, _, rfl, (show 4 ≤ sizeLine by decide), fun p2 np2 => ?_⟩
        have all := same_upd (o := HO.tup [V.str (Str.ofString "put"), V.str y, V.str pt, V.str x]) np2
        have g7 := g6.same all
        refine q _ _ (.put y pt x) (.of all) (g7.mono (by omega)) (rep_row (zs := [Str.ofString "put", y, pt, x]) g7 upd_same (show 4 ≤ 1000 by decide) ?_) (good_of (show (isName y && openS pt && isName x) = true by rw [nx, ny, op]; rfl) (.inr (nodup2 yx)))
        intro z hz
        simp only [List.mem_cons, List.not_mem_nil, or_false] at hz
        rcases hz with rfl | rfl | rfl | rfl
        · decide
        · exact ly
        · exact lp
        · exact lx
      · refine ⟨_, rfl, _, rfl, _, rfl, _, rfl, _, rfl, (show 3 ≤ sizeLine by decide), fun p1 np1 => ⟨b, .ref p1, _, _, rfl, its_put g6 np1, by simp, by simp, g6.new np1, by omega, fun H7 rv kp7 g7 hrv => ⟨_, rfl, (show 4 ≤ sizeLine by decide), fun p2 np2 => ?_⟩⟩⟩
        obtain ⟨z, hz, rfl⟩ := mem_str (zs := [y, y, x]) hrv
        have nz : isName z = true := by
          simp only [List.mem_cons, List.not_mem_nil, or_false] at hz
          rcases hz with rfl | rfl | rfl
          · exact ny
          · exact ny
          · exact nx
        have t2 := same_upd (o := HO.tup [V.str (Str.ofString "lend"), V.str x, V.str z, V.str pt]) np2
        have g8 := g7.same t2
        refine q _ _ (.lend x z pt) ((keep_new np1).trans (kp7.trans (.of t2))) (g8.mono (by omega)) (rep_row (zs := [Str.ofString "lend", x, z, pt]) g8 upd_same (show 4 ≤ 1000 by decide) ?_) (good_of (show (isName x && isName z && openS pt) = true by rw [nx, nz, op]; rfl) (.inl rfl))
        intro u hu
        simp only [List.mem_cons, List.not_mem_nil, or_false] at hu
        rcases hu with rfl | rfl | rfl | rfl
        · decide
        · exact lx
        · exact small _ (name_size nz).2
        · exact lp
    rw [decide_eq_false w8]
    refine iteF ⟨_, rfl, rfl, _, rfl, ?_⟩
    by_cases w88 : way = 8
    · rw [decide_eq_true (show V.int way = V.int 8 by rw [w88])]
      refine iteT ⟨_, rfl, _, rfl, _, rfl, (show 2 ≤ sizeLine by decide), fun p1 np1 => ⟨b, .ref p1, _, _, rfl, its_put g6 np1, by simp, by simp, g6.new np1, by omega, fun H7 rv kp7 g7 hrv => ⟨(show 4 ≤ sizeLine by decide), fun p2 np2 => ?_⟩⟩⟩
      obtain ⟨z, hz, rfl⟩ := mem_str (zs := [Str.ofString "full", Str.ofString "look"]) hrv
      have nz : wayS z = true := by
        simp only [List.mem_cons, List.not_mem_nil, or_false] at hz
        exact decide_eq_true hz
      have t2 := same_upd (o := HO.tup [V.str (Str.ofString "touch"), V.str y, V.str pt, V.str z]) np2
      have g8 := g7.same t2
      refine q _ _ (.touch y pt z) ((keep_new np1).trans (kp7.trans (.of t2))) (g8.mono (by omega)) (rep_row (zs := [Str.ofString "touch", y, pt, z]) g8 upd_same (show 4 ≤ 1000 by decide) ?_) (good_of (show (isName y && openS pt && wayS z) = true by rw [ny, nz, op]; rfl) (.inr (nodup1 y)))
      intro u hu
      simp only [List.mem_cons, List.not_mem_nil, or_false] at hu hz
      rcases hu with rfl | rfl | rfl | rfl
      · decide
      · exact ly
      · exact lp
      · rcases hz with rfl | rfl <;> decide
    rw [decide_eq_false (fun h => w88 (V.int.inj h))]
    refine iteF ⟨_, rfl, rfl, _, rfl, ?_⟩
    by_cases w9 : way = 9
    · rw [decide_eq_true (show V.int way = V.int 9 by rw [w9])]
      refine iteT ⟨_, rfl, _, rfl, (show 1 ≤ sizeLine by decide), fun p1 np1 => ⟨a1, p1, _, _, rfl, rfl, same_upd np1 _ _ h16, upd_same, ?_, fun p3 np3 => ?_⟩⟩
      · rw [List.length_map, l1]
        exact (show 4 + 1 ≤ sizeLine by decide)
      have t1 := same_upd (o := HO.lst [V.str (Str.ofString "")]) np1
      refine ⟨b, .ref p3, _, _, rfl, its_put (g6.same t1) np3, by simp, by rw [List.length_append, List.length_map, l1]; exact (show 4 + 1 ≤ 100000 by decide), (g6.same t1).new np3, by omega, fun H7 rv kp7 g7 hrv => ⟨(show 2 ≤ sizeLine by decide), fun p2 np2 => ?_⟩⟩
      have hrv : rv ∈ (ns ++ [Str.ofString ""]).map V.str := by
        rw [List.map_append]
        exact hrv
      obtain ⟨z, hz, rfl⟩ := mem_str hrv
      have nz : openS z = true := by
        rcases List.mem_append.mp hz with h | h
        · show (_ || _) = true
          rw [ok1.names h, Bool.or_true]
        · rw [List.mem_singleton.mp h]
          rfl
      have t2 := same_upd (o := HO.tup [V.str (Str.ofString "return"), V.str z]) np2
      have g8 := g7.same t2
      refine q _ _ (.ret z) ((Keep.of t1).trans ((keep_new np3).trans (kp7.trans (.of t2)))) (g8.mono (by omega)) (rep_row (zs := [Str.ofString "return", z]) g8 upd_same (show 2 ≤ 1000 by decide) ?_) (good_of nz (.inr (List.Nodup.sublist List.filter_sublist (nodup1 z))))
      intro u hu
      simp only [List.mem_cons, List.not_mem_nil, or_false] at hu
      rcases hu with rfl | rfl
      · decide
      · exact small _ (openS_len nz)
    rw [decide_eq_false (fun h => w9 (V.int.inj h))]
    refine iteF ?_
    refine ⟨(show 0 ≤ sizeLine by decide), fun pa npa => ?_⟩
    have nab : pa ≠ b := fun e => by
      rw [e] at npa
      exact absurd rfl (g6.ne npa)
    refine ⟨fun σ1 H' => ∃ (fs : List ArgF) (o9 o10 : Option V), σ1 = [some (.ref b), some (.ref a1), some (.ref a2), some (.str x), some (.int (j : Int)), some (.str y), some (.str pt), some (.int way), some (.ref pa), o9, o10, none] ∧
      fs.length ≤ 3 ∧ fs.all ArgF.ok = true ∧ ArgsAt H' pa fs ∧ Keep b H6 H' ∧ Bag H' b (n + 30), ?_, ?_⟩
    · refine ⟨_, rfl, b, 4, _, rfl, by decide, by decide, g6.new npa, by omega, fun H7 m kp7 g7 m0 m4 => ?_⟩
      refine ⟨_, rfl, by omega, by omega, ?_⟩
      refine for_range (n := m.toNat) (fun i σ1 H' => ∃ (fs : List ArgF) (o9 o10 : Option V), σ1 = [some (.ref b), some (.ref a1), some (.ref a2), some (.str x), some (.int (j : Int)), some (.str y), some (.str pt), some (.int way), some (.ref pa), o9, o10, none] ∧
        fs.length = i ∧ fs.all ArgF.ok = true ∧ ArgsAt H' pa fs ∧ Keep b H6 H' ∧ Bag H' b (n + 10 + 5 * i))
        ⟨[], none, none, rfl, rfl, rfl, ⟨[], kp7 _ _ nab upd_same, rfl, fun _ _ h => nomatch h⟩, (keep_new npa).trans kp7, g7.mono (by omega)⟩ (fun i σ1 H' hi hP => ?_) (fun σ1 H' hP => ?_)
      · obtain ⟨fs, o9, o10, rfl, el, okf, at_, kp, g'⟩ := hP
        have i3 : i < 3 := by omega
        refine ⟨_, rfl, _, rfl, b, .ref a1, _, _, rfl, its_lst g' (kp _ _ na1 h16), ne1, by rw [List.length_map]; omega, g', by omega, fun H8 rv kp8 g8 hrv => ?_⟩
        obtain ⟨u, hu, rfl⟩ := mem_str hrv
        refine ⟨_, rfl, _, rfl, b, .ref a2, _, _, rfl, its_lst g8 (kp8 _ _ na2 (kp _ _ na2 h26)), ne2, by rw [List.length_map]; omega, g8, by omega, fun H9 pv kp9 g9 hpv => ?_⟩
        obtain ⟨v, hv, rfl⟩ := mem_str hpv
        refine ⟨(show 3 ≤ sizeLine by decide), fun c nc => ?_⟩
        have s9 := same_upd (o := HO.tup [V.str (Str.ofString "lend"), V.str u, V.str v]) nc
        have g10 := g9.same s9
        have kpA := kp8.trans (kp9.trans (.of s9))
        have at10 := at_.keep g' nab kpA
        have hc : L2.upd H9 c (HO.tup [V.str (Str.ofString "lend"), V.str u, V.str v]) c = some (HO.tup ((ArgF.lend u v).row.map V.str)) := upd_same
        generalize hG : L2.upd H9 c _ = H10 at *
        clear hG nc s9
        have ha10 := at10
        obtain ⟨acc, hpa, hacc, _⟩ := ha10
        refine ⟨.ref pa, rfl, .inl ⟨rfl, _, .inl (.inl hpa)⟩, ?_⟩
        refine ⟨_, rfl, b, 3, _, rfl, by decide, by decide, g10, by omega, fun H11 r kp11 g11 r0 r3 => ⟨_, _, rfl, rfl, _, rfl, ite2 (fun _ => ?_) (fun _ => ?_)⟩⟩
        · have hc11 := kp11 _ _ (g10.tup hc) hc
          obtain ⟨acc', hp', hl', at11⟩ := (at10.keep g10 nab kp11).push (f := .lend u v) hc11
          refine ⟨_, rfl, pa, acc', _, rfl, rfl, hp', by rw [hl', el]; exact Nat.lt_of_lt_of_le i3 (by decide), fs ++ [.lend u v], _, _, rfl, by rw [List.length_append, el]; rfl, ?_, at11, keep_put (kp.trans (kpA.trans kp11)) npa, (g11.put (Ne.symm nab)).mono (by omega)⟩
          rw [List.all_append, okf]
          show (true && ((isName u && openS v) && true)) = true
          rw [ok1.names hu, ok2 _ hv]
          rfl
        · have kpB := kp.trans (kpA.trans kp11)
          refine ⟨_, rfl, _, rfl, b, .ref a1, _, _, rfl, its_lst g11 (kpB _ _ na1 h16), ne1, by rw [List.length_map]; omega, g11, by omega, fun H12 rv2 kp12 g12 hrv2 => ⟨(show 2 ≤ sizeLine by decide), fun c2 nc2 => ?_⟩⟩
          obtain ⟨u2, hu2, rfl⟩ := mem_str hrv2
          have s12 := same_upd (o := HO.tup [V.str (Str.ofString "move"), V.str u2]) nc2
          have hc2 : L2.upd H12 c2 (HO.tup [V.str (Str.ofString "move"), V.str u2]) c2 = some (HO.tup ((ArgF.move u2).row.map V.str)) := upd_same
          have kpC := kp11.trans (kp12.trans (.of s12))
          obtain ⟨acc', hp', hl', at12⟩ := (at10.keep g10 nab kpC).push (f := .move u2) hc2
          refine ⟨pa, acc', _, rfl, rfl, hp', by rw [hl', el]; exact Nat.lt_of_lt_of_le i3 (by decide), fs ++ [.move u2], _, _, rfl, by rw [List.length_append, el]; rfl, ?_, at12, keep_put (kp.trans (kpA.trans kpC)) npa, ((g12.same s12).put (Ne.symm nab)).mono (by omega)⟩
          rw [List.all_append, okf]
          show (true && (isName u2 && true)) = true
          rw [ok1.names hu2]
          rfl
      · obtain ⟨fs, o9, o10, rfl, el, okf, at_, kp, g'⟩ := hP
        exact ⟨fs, o9, o10, rfl, by omega, okf, at_, kp, g'.mono (by omega)⟩
    · rintro σ1 H7 ⟨fs, o9, o10, rfl, l3, okf, at_, kp7, g7⟩
      have h17 := kp7 _ _ na1 h16
      refine ⟨_, rfl, _, rfl, (show 2 ≤ sizeLine by decide), fun p1 np1 => ⟨a1, p1, _, _, rfl, rfl, same_upd np1 _ _ h17, upd_same, ?_, fun p3 np3 => ?_⟩⟩
      · rw [List.length_map, l1]
        exact (show 4 + 2 ≤ sizeLine by decide)
      have t1 := same_upd (o := HO.lst [V.str (Str.ofString ""), V.str (Str.ofString "")]) np1
      refine ⟨b, .ref p3, _, _, rfl, its_put (g7.same t1) np3, by simp, by rw [List.length_append, List.length_map, l1]; exact (show 4 + 2 ≤ 100000 by decide), (g7.same t1).new np3, by omega, fun H8 rv kp8 g8 hrv => ?_⟩
      have hrv : rv ∈ (ns ++ [Str.ofString "", Str.ofString ""]).map V.str := by
        rw [List.map_append]
        exact hrv
      obtain ⟨z, hz, rfl⟩ := mem_str hrv
      have nz : openS z = true := by
        rcases List.mem_append.mp hz with h | h
        · show (_ || _) = true
          rw [ok1.names h, Bool.or_true]
        · simp only [List.mem_cons, List.not_mem_nil, or_false, or_self] at h
          rw [h]
          rfl
      have kpA := (Keep.of t1).trans ((keep_new np3).trans kp8)
      refine ⟨_, rfl, _, rfl, b, .ref a1, _, _, rfl, its_lst g8 (kpA _ _ na1 h17), ne1, by rw [List.length_map]; omega, g8, by omega, fun H9 gv kp9 g9 hgv => ?_⟩
      obtain ⟨gg, hgg, rfl⟩ := mem_str hgv
      have at9 := at_.keep g7 nab (kpA.trans kp9)
      obtain ⟨acc, hpa, hacc, hj⟩ := at9
      refine ⟨_, rfl, pa, acc, rfl, .inl ⟨.inl (.inl hpa), fun t nt => ⟨(show 4 ≤ sizeLine by decide), fun p5 np5 => ?_⟩⟩⟩
      have t9 := same_upd (o := HO.tup acc) nt
      have t5 := same_upd (o := HO.tup [V.str (Str.ofString "call"), V.str z, V.str gg, V.ref t]) np5
      have g11 := (g9.same t9).same t5
      refine q _ _ (.call z gg fs) ((kp7.trans (kpA.trans kp9)).trans (.of (t9.trans t5))) (g11.mono (by omega)) ?_ (good_of (show (openS z && isName gg && decide (fs.length ≤ 3) && fs.all ArgF.ok) = true by rw [nz, ok1.names hgg, decide_eq_true l3, okf]; rfl) (.inl rfl))
      have hid : ∀ {c : Addr} {xs : List V}, (L2.upd (L2.upd H9 t (HO.tup acc)) p5 (HO.tup [V.str (Str.ofString "call"), V.str z, V.str gg, V.ref t])) c = some (.tup xs) → hide b (L2.upd (L2.upd H9 t (HO.tup acc)) p5 (HO.tup [V.str (Str.ofString "call"), V.str z, V.str gg, V.ref t])) c = some (.tup xs) := fun e => (hide_at (g11.tup e)).trans e
      refine .tup (hid upd_same) (show 4 ≤ 1000 by decide) (.cons (.txt (show 4 ≤ 100000 by decide)) (.cons (.txt (small _ (openS_len nz))) (.cons (.txt (nN hgg)) (.cons (.tup (hid (t5 _ _ upd_same)) (by omega) ?_) .nil))))
      refine repAll_args fs acc hacc (fun j f e => ?_) okf
      obtain ⟨c, e1, e2⟩ := hj j f e
      exact ⟨c, e1, hid ((t9.trans t5) _ _ e2)⟩
/-! ### _law_odd -/
def LenD (k : Nat) (d : Dt) : Prop := ∀ ds, d = .tup ds → ds.length ≤ k
theorem scLOdd : FnScope ["bag", "names", "some"] ["bag", "names"] (defScope s_L_odd) := ⟨rfl, rfl, rfl, by decide +kernel, rfl, by decide +kernel, by decide +kernel⟩
def spLOdd : Sp := fun vs H Q _ => ∃ (b a1 : Addr) (n : Nat) (ns : List Str), vs = [.ref b, .ref a1] ∧ H a1 = some (.lst (ns.map V.str)) ∧ ns.length = 4 ∧ NamesOk ns ∧ Bag H b n ∧ n + 1000 ≤ bagMost ∧
  ∀ H' v d, Keep b H H' → Bag H' b (n + 100) → Rep (hide b H') v d → LenD 4 d → Q v H'
set_option maxHeartbeats 2000000 in
theorem ok_lodd {f : Addr} {fd : FuncData} (F : Fun K "_law_odd" "_law_odd" s_L_odd f fd) (cO : Cal P w K mg base 2 "_law_one" (spOne K)) : FnOk P w K mg base CX0 3 f fd ["bag", "names"] spLOdd := by
  refine F.ok scLOdd (fun vs H Q E h => ?_) (fun cdv A outer s H vs Q E hr h => ?_)
  · obtain ⟨b, a1, n, ns, rfl, _⟩ := h
    rfl
  · obtain ⟨b, a1, n, ns, rfl, h1, l1, ok1, g, nm, q⟩ := h
    refine ⟨_, (pss_cons (ps_set (i := 2) scLOdd.nd rfl (.inl rfl) (pe_lst (pa_cons (pe_str) (pa_cons (pe_str) (pa_cons (pe_str) (pa_cons (pe_str) (pa_cons (pe_str) (pa_cons (pe_op op_repS pe_str pe_int) (pa_cons (pe_non) (pa_cons (pe_int) (pa_cons (pe_bl) (pa_cons (pe_tup pa_nil) (pa_cons (pe_tup (pa_cons (pe_str) (pa_cons (pe_ix ix_list (pv 1) pe_int (fun _ _ => rfl)) pa_nil))) (pa_cons (pe_lst (pa_cons (pe_str) pa_nil)) pa_nil))))))))))))))
      (pss_cons (ps_set (i := 2) scLOdd.nd rfl (.inl rfl) (pe_op op_cat (pv 2) (pe_lst (pa_cons (pe_tup (pa_cons (pe_tup (pa_cons (pe_str) (pa_cons (pe_ix ix_list (pv 1) pe_int (fun _ _ => rfl)) pa_nil))) pa_nil)) (pa_cons (pe_op op_repT (pe_tup (pa_cons (pe_tup (pa_cons (pe_str) (pa_cons (pe_ix ix_list (pv 1) pe_int (fun _ _ => rfl)) (pa_cons (pe_str) pa_nil)))) pa_nil)) pe_int) (pa_cons (pe_str) (pa_cons (pe_tup (pa_cons (pe_str) (pa_cons (pe_ix ix_list (pv 1) pe_int (fun _ _ => rfl)) pa_nil))) pa_nil)))))))
      (pss_one (ps_ret (C8.pe_c cO hr (by omega) (by rfl) (pa_cons (pv 0) (pa_cons (pe_op op_cat (pv 2) (pe_lst (pa_cons (pe_ix ix_list (pv 1) pe_int (fun _ _ => rfl)) (pa_cons (pe_ix ix_list (pv 1) pe_int (fun _ _ => rfl)) (pa_cons (pe_dnewK) (pa_cons (pe_tup (pa_cons (pe_tup (pa_cons (pe_str) (pa_cons (pe_str) pa_nil))) pa_nil)) pa_nil)))))) pa_nil))))))), ?_⟩
    obtain ⟨z0, z1, z2, z3, rfl⟩ : ∃ z0 z1 z2 z3, ns = [z0, z1, z2, z3] := by
      match ns, l1 with
      | [z0, z1, z2, z3], _ => exact ⟨z0, z1, z2, z3, rfl⟩
    have n0 := ok1.names (z := z0) (by simp)
    have n1 := ok1.names (z := z1) (by simp)
    have n2 := ok1.names (z := z2) (by simp)
    have small : ∀ {z : Str}, isName z = true → z.length ≤ 100000 := fun h => Nat.le_trans (name_size h).2 (by decide)
    have na1 := g.strs h1
    refine ⟨_, 9, rfl, rfl, by decide, by decide, by decide +kernel, by decide +kernel, (show 0 ≤ sizeLine by decide), fun p1 np1 => ?_⟩
    have s1 := same_upd (o := HO.tup []) np1
    have g1 := g.same s1
    have all := s1
    have h1 := s1 _ _ h1
    have ep1 := upd_same (H := H) (a := p1) (o := HO.tup [])
    generalize hG1 : L2.upd H p1 (HO.tup []) = H1 at *
    clear hG1 s1 np1
    refine ⟨_, rfl, a1, _, _, .str z0, rfl, rfl, .inl (.inl h1), atI_nat (j := 0) rfl, (show 2 ≤ sizeLine by decide), fun p2 np2 => ?_⟩
    have s2 := same_upd (o := HO.tup [V.str (Str.ofString "move"), V.str z0]) np2
    have g2 := g1.same s2
    have all := all.trans s2
    have h1 := s2 _ _ h1
    have ep2 := upd_same (H := H1) (a := p2) (o := HO.tup [V.str (Str.ofString "move"), V.str z0])
    have ep1 := s2 _ _ ep1
    generalize hG2 : L2.upd H1 p2 (HO.tup [V.str (Str.ofString "move"), V.str z0]) = H2 at *
    clear hG2 s2 np2
    refine ⟨(show 1 ≤ sizeLine by decide), fun p3 np3 => ?_⟩
    have s3 := same_upd (o := HO.lst [V.str (Str.ofString "a")]) np3
    have g3 := g2.same s3
    have all := all.trans s3
    have h1 := s3 _ _ h1
    have ep3 := upd_same (H := H2) (a := p3) (o := HO.lst [V.str (Str.ofString "a")])
    have ep1 := s3 _ _ ep1
    have ep2 := s3 _ _ ep2
    generalize hG3 : L2.upd H2 p3 (HO.lst [V.str (Str.ofString "a")]) = H3 at *
    clear hG3 s3 np3
    refine ⟨(show 12 ≤ sizeLine by decide), fun p4 np4 => ?_⟩
    have s4 := same_upd (o := HO.lst [V.str (Str.ofString ""), V.str (Str.ofString "call"), V.str (Str.ofString "full"), V.str (Str.ofString "A"), V.str (Str.ofString "a.b"), V.str (txtRep (Str.ofString "a") 9), V.non, V.int 1, V.bl true, V.ref p1, V.ref p2, V.ref p3]) np4
    have g4 := g3.same s4
    have all := all.trans s4
    have h1 := s4 _ _ h1
    have ep4 := upd_same (H := H3) (a := p4) (o := HO.lst [V.str (Str.ofString ""), V.str (Str.ofString "call"), V.str (Str.ofString "full"), V.str (Str.ofString "A"), V.str (Str.ofString "a.b"), V.str (txtRep (Str.ofString "a") 9), V.non, V.int 1, V.bl true, V.ref p1, V.ref p2, V.ref p3])
    have ep1 := s4 _ _ ep1
    have ep2 := s4 _ _ ep2
    have ep3 := s4 _ _ ep3
    generalize hG4 : L2.upd H3 p4 (HO.lst [V.str (Str.ofString ""), V.str (Str.ofString "call"), V.str (Str.ofString "full"), V.str (Str.ofString "A"), V.str (Str.ofString "a.b"), V.str (txtRep (Str.ofString "a") 9), V.non, V.int 1, V.bl true, V.ref p1, V.ref p2, V.ref p3]) = H4 at *
    clear hG4 s4 np4
    refine ⟨_, rfl, _, rfl, a1, _, _, .str z1, rfl, rfl, .inl (.inl h1), atI_nat (j := 1) rfl, (show 2 ≤ sizeLine by decide), fun q1 nq1 => ?_⟩
    have s5 := same_upd (o := HO.tup [V.str (Str.ofString "move"), V.str z1]) nq1
    have g5 := g4.same s5
    have all := all.trans s5
    have h1 := s5 _ _ h1
    have eq1 := upd_same (H := H4) (a := q1) (o := HO.tup [V.str (Str.ofString "move"), V.str z1])
    have ep1 := s5 _ _ ep1
    have ep2 := s5 _ _ ep2
    have ep3 := s5 _ _ ep3
    have ep4 := s5 _ _ ep4
    generalize hG5 : L2.upd H4 q1 (HO.tup [V.str (Str.ofString "move"), V.str z1]) = H5 at *
    clear hG5 s5 nq1
    refine ⟨(show 1 ≤ sizeLine by decide), fun q2 nq2 => ?_⟩
    have s6 := same_upd (o := HO.tup [V.ref q1]) nq2
    have g6 := g5.same s6
    have all := all.trans s6
    have h1 := s6 _ _ h1
    have eq2 := upd_same (H := H5) (a := q2) (o := HO.tup [V.ref q1])
    have ep1 := s6 _ _ ep1
    have ep2 := s6 _ _ ep2
    have ep3 := s6 _ _ ep3
    have ep4 := s6 _ _ ep4
    have eq1 := s6 _ _ eq1
    generalize hG6 : L2.upd H5 q2 (HO.tup [V.ref q1]) = H6 at *
    clear hG6 s6 nq2
    refine ⟨_, rfl, a1, _, _, .str z0, rfl, rfl, .inl (.inl h1), atI_nat (j := 0) rfl, (show 3 ≤ sizeLine by decide), fun r1 nr1 => ?_⟩
    have s7 := same_upd (o := HO.tup [V.str (Str.ofString "lend"), V.str z0, V.str (Str.ofString "")]) nr1
    have g7 := g6.same s7
    have all := all.trans s7
    have h1 := s7 _ _ h1
    have er1 := upd_same (H := H6) (a := r1) (o := HO.tup [V.str (Str.ofString "lend"), V.str z0, V.str (Str.ofString "")])
    have ep1 := s7 _ _ ep1
    have ep2 := s7 _ _ ep2
    have ep3 := s7 _ _ ep3
    have ep4 := s7 _ _ ep4
    have eq1 := s7 _ _ eq1
    have eq2 := s7 _ _ eq2
    generalize hG7 : L2.upd H6 r1 (HO.tup [V.str (Str.ofString "lend"), V.str z0, V.str (Str.ofString "")]) = H7 at *
    clear hG7 s7 nr1
    refine ⟨(show 1 ≤ sizeLine by decide), fun r2 nr2 => ?_⟩
    have s8 := same_upd (o := HO.tup [V.ref r1]) nr2
    have g8 := g7.same s8
    have all := all.trans s8
    have h1 := s8 _ _ h1
    have er2 := upd_same (H := H7) (a := r2) (o := HO.tup [V.ref r1])
    have ep1 := s8 _ _ ep1
    have ep2 := s8 _ _ ep2
    have ep3 := s8 _ _ ep3
    have ep4 := s8 _ _ ep4
    have eq1 := s8 _ _ eq1
    have eq2 := s8 _ _ eq2
    have er1 := s8 _ _ er1
    generalize hG8 : L2.upd H7 r2 (HO.tup [V.ref r1]) = H8 at *
    clear hG8 s8 nr2
    refine ⟨r2, 4, [V.ref r1], rfl, rfl, .inl (.inl er2), by simp, by decide, by decide, (show 1 ≤ 1000 by decide), fun r3 nr3 => ?_⟩
    have s9 := same_upd (o := HO.tup (List.replicate (Int.toNat 4) [V.ref r1]).flatten) nr3
    have g9 := g8.same s9
    have all := all.trans s9
    have h1 := s9 _ _ h1
    have er3 := upd_same (H := H8) (a := r3) (o := HO.tup (List.replicate (Int.toNat 4) [V.ref r1]).flatten)
    have ep1 := s9 _ _ ep1
    have ep2 := s9 _ _ ep2
    have ep3 := s9 _ _ ep3
    have ep4 := s9 _ _ ep4
    have eq1 := s9 _ _ eq1
    have eq2 := s9 _ _ eq2
    have er1 := s9 _ _ er1
    have er2 := s9 _ _ er2
    generalize hG9 : L2.upd H8 r3 (HO.tup (List.replicate (Int.toNat 4) [V.ref r1]).flatten) = H9 at *
    clear hG9 s9 nr3
    refine ⟨_, rfl, a1, _, _, .str z0, rfl, rfl, .inl (.inl h1), atI_nat (j := 0) rfl, (show 2 ≤ sizeLine by decide), fun s1 ns1 => ?_⟩
    have s10 := same_upd (o := HO.tup [V.str (Str.ofString "lend"), V.str z0]) ns1
    have g10 := g9.same s10
    have all := all.trans s10
    have h1 := s10 _ _ h1
    have es1 := upd_same (H := H9) (a := s1) (o := HO.tup [V.str (Str.ofString "lend"), V.str z0])
    have ep1 := s10 _ _ ep1
    have ep2 := s10 _ _ ep2
    have ep3 := s10 _ _ ep3
    have ep4 := s10 _ _ ep4
    have eq1 := s10 _ _ eq1
    have eq2 := s10 _ _ eq2
    have er1 := s10 _ _ er1
    have er2 := s10 _ _ er2
    have er3 := s10 _ _ er3
    generalize hG10 : L2.upd H9 s1 (HO.tup [V.str (Str.ofString "lend"), V.str z0]) = H10 at *
    clear hG10 s10 ns1
    refine ⟨(show 4 ≤ sizeLine by decide), fun l2 nl2 => ?_⟩
    have s11 := same_upd (o := HO.lst [V.ref q2, V.ref r3, V.str (Str.ofString "own"), V.ref s1]) nl2
    have g11 := g10.same s11
    have all := all.trans s11
    have h1 := s11 _ _ h1
    have el2 := upd_same (H := H10) (a := l2) (o := HO.lst [V.ref q2, V.ref r3, V.str (Str.ofString "own"), V.ref s1])
    have ep1 := s11 _ _ ep1
    have ep2 := s11 _ _ ep2
    have ep3 := s11 _ _ ep3
    have ep4 := s11 _ _ ep4
    have eq1 := s11 _ _ eq1
    have eq2 := s11 _ _ eq2
    have er1 := s11 _ _ er1
    have er2 := s11 _ _ er2
    have er3 := s11 _ _ er3
    have es1 := s11 _ _ es1
    generalize hG11 : L2.upd H10 l2 (HO.lst [V.ref q2, V.ref r3, V.str (Str.ofString "own"), V.ref s1]) = H11 at *
    clear hG11 s11 nl2
    refine ⟨p4, l2, _, _, rfl, rfl, ep4, el2, (show 12 + 4 ≤ sizeLine by decide), fun lc nlc => ?_⟩
    have s12 := same_upd (o := HO.lst ([V.str (Str.ofString ""), V.str (Str.ofString "call"), V.str (Str.ofString "full"), V.str (Str.ofString "A"), V.str (Str.ofString "a.b"), V.str (txtRep (Str.ofString "a") 9), V.non, V.int 1, V.bl true, V.ref p1, V.ref p2, V.ref p3] ++ [V.ref q2, V.ref r3, V.str (Str.ofString "own"), V.ref s1])) nlc
    have g12 := g11.same s12
    have all := all.trans s12
    have h1 := s12 _ _ h1
    have elc := upd_same (H := H11) (a := lc) (o := HO.lst ([V.str (Str.ofString ""), V.str (Str.ofString "call"), V.str (Str.ofString "full"), V.str (Str.ofString "A"), V.str (Str.ofString "a.b"), V.str (txtRep (Str.ofString "a") 9), V.non, V.int 1, V.bl true, V.ref p1, V.ref p2, V.ref p3] ++ [V.ref q2, V.ref r3, V.str (Str.ofString "own"), V.ref s1]))
    have ep1 := s12 _ _ ep1
    have ep2 := s12 _ _ ep2
    have ep3 := s12 _ _ ep3
    have ep4 := s12 _ _ ep4
    have eq1 := s12 _ _ eq1
    have eq2 := s12 _ _ eq2
    have er1 := s12 _ _ er1
    have er2 := s12 _ _ er2
    have er3 := s12 _ _ er3
    have es1 := s12 _ _ es1
    have el2 := s12 _ _ el2
    generalize hG12 : L2.upd H11 lc (HO.lst ([V.str (Str.ofString ""), V.str (Str.ofString "call"), V.str (Str.ofString "full"), V.str (Str.ofString "A"), V.str (Str.ofString "a.b"), V.str (txtRep (Str.ofString "a") 9), V.non, V.int 1, V.bl true, V.ref p1, V.ref p2, V.ref p3] ++ [V.ref q2, V.ref r3, V.str (Str.ofString "own"), V.ref s1])) = H12 at *
    clear hG12 s12 nlc
    refine ⟨_, rfl, _, rfl, _, rfl, a1, _, _, .str z2, rfl, rfl, .inl (.inl h1), atI_nat (j := 2) rfl, _, rfl, a1, _, _, .str z0, rfl, rfl, .inl (.inl h1), atI_nat (j := 0) rfl, fun d1 nd1 => ?_⟩
    have s13 := same_upd (o := HO.dK []) nd1
    have g13 := g12.same s13
    have all := all.trans s13
    have h1 := s13 _ _ h1
    have ed1 := upd_same (H := H12) (a := d1) (o := HO.dK [])
    have ep1 := s13 _ _ ep1
    have ep2 := s13 _ _ ep2
    have ep3 := s13 _ _ ep3
    have ep4 := s13 _ _ ep4
    have eq1 := s13 _ _ eq1
    have eq2 := s13 _ _ eq2
    have er1 := s13 _ _ er1
    have er2 := s13 _ _ er2
    have er3 := s13 _ _ er3
    have es1 := s13 _ _ es1
    have el2 := s13 _ _ el2
    have elc := s13 _ _ elc
    generalize hG13 : L2.upd H12 d1 (HO.dK []) = H13 at *
    clear hG13 s13 nd1
    refine ⟨(show 2 ≤ sizeLine by decide), fun u1 nu1 => ?_⟩
    have s14 := same_upd (o := HO.tup [V.str (Str.ofString "move"), V.str (Str.ofString "new")]) nu1
    have g14 := g13.same s14
    have all := all.trans s14
    have h1 := s14 _ _ h1
    have eu1 := upd_same (H := H13) (a := u1) (o := HO.tup [V.str (Str.ofString "move"), V.str (Str.ofString "new")])
    have ep1 := s14 _ _ ep1
    have ep2 := s14 _ _ ep2
    have ep3 := s14 _ _ ep3
    have ep4 := s14 _ _ ep4
    have eq1 := s14 _ _ eq1
    have eq2 := s14 _ _ eq2
    have er1 := s14 _ _ er1
    have er2 := s14 _ _ er2
    have er3 := s14 _ _ er3
    have es1 := s14 _ _ es1
    have el2 := s14 _ _ el2
    have elc := s14 _ _ elc
    have ed1 := s14 _ _ ed1
    generalize hG14 : L2.upd H13 u1 (HO.tup [V.str (Str.ofString "move"), V.str (Str.ofString "new")]) = H14 at *
    clear hG14 s14 nu1
    refine ⟨(show 1 ≤ sizeLine by decide), fun u2 nu2 => ?_⟩
    have s15 := same_upd (o := HO.tup [V.ref u1]) nu2
    have g15 := g14.same s15
    have all := all.trans s15
    have h1 := s15 _ _ h1
    have eu2 := upd_same (H := H14) (a := u2) (o := HO.tup [V.ref u1])
    have ep1 := s15 _ _ ep1
    have ep2 := s15 _ _ ep2
    have ep3 := s15 _ _ ep3
    have ep4 := s15 _ _ ep4
    have eq1 := s15 _ _ eq1
    have eq2 := s15 _ _ eq2
    have er1 := s15 _ _ er1
    have er2 := s15 _ _ er2
    have er3 := s15 _ _ er3
    have es1 := s15 _ _ es1
    have el2 := s15 _ _ el2
    have elc := s15 _ _ elc
    have ed1 := s15 _ _ ed1
    have eu1 := s15 _ _ eu1
    generalize hG15 : L2.upd H14 u2 (HO.tup [V.ref u1]) = H15 at *
    clear hG15 s15 nu2
    refine ⟨(show 4 ≤ sizeLine by decide), fun l3 nl3 => ?_⟩
    have s16 := same_upd (o := HO.lst [V.str z2, V.str z0, V.ref d1, V.ref u2]) nl3
    have g16 := g15.same s16
    have all := all.trans s16
    have h1 := s16 _ _ h1
    have el3 := upd_same (H := H15) (a := l3) (o := HO.lst [V.str z2, V.str z0, V.ref d1, V.ref u2])
    have ep1 := s16 _ _ ep1
    have ep2 := s16 _ _ ep2
    have ep3 := s16 _ _ ep3
    have ep4 := s16 _ _ ep4
    have eq1 := s16 _ _ eq1
    have eq2 := s16 _ _ eq2
    have er1 := s16 _ _ er1
    have er2 := s16 _ _ er2
    have er3 := s16 _ _ er3
    have es1 := s16 _ _ es1
    have el2 := s16 _ _ el2
    have elc := s16 _ _ elc
    have ed1 := s16 _ _ ed1
    have eu1 := s16 _ _ eu1
    have eu2 := s16 _ _ eu2
    generalize hG16 : L2.upd H15 l3 (HO.lst [V.str z2, V.str z0, V.ref d1, V.ref u2]) = H16 at *
    clear hG16 s16 nl3
    refine ⟨lc, l3, _, _, rfl, rfl, elc, el3, (show 16 + 4 ≤ sizeLine by decide), fun lf nlf => ?_⟩
    refine ⟨b, .ref lf, _, _, rfl, its_put g16 nlf, by simp, by simp, g16.new nlf, by omega, fun H' x kp gg hx => ?_⟩
    have kq := (keep_new (b := b) nlf).trans kp
    have fin := fun d r l => q H' x d ((Keep.of all).trans kq) (gg.mono (by omega)) r l
    have tp : ∀ {c : Addr} {xs : List V}, H16 c = some (.tup xs) → hide b H' c = some (.tup xs) := fun e => (hide_at (g16.tup e)).trans (kq _ _ (g16.tup e) e)
    have w2 : ∀ {z : Str} {k : Str}, z.length ≤ 100000 → k.length ≤ 100000 → ∀ u ∈ [k, z], u.length ≤ 100000 := fun h h' u hu => by
      simp only [List.mem_cons, List.not_mem_nil, or_false] at hu
      rcases hu with rfl | rfl
      · exact h'
      · exact h
    have notT : ∀ {d : Dt}, (∀ ds, d ≠ .tup ds) → LenD 4 d := fun h ds e => absurd e (h ds)
    have one : ∀ {ds : List Dt}, ds.length ≤ 4 → LenD 4 (.tup ds) := fun h ds e => by cases e; exact h
    have rs1 : Rep (hide b H') (.ref s1) (txs [Str.ofString "lend", z0]) := rep_txs (tp es1) (show 2 ≤ 1000 by decide) (w2 (small n0) (by decide))
    have rp2 : Rep (hide b H') (.ref p2) (txs [Str.ofString "move", z0]) := rep_txs (tp ep2) (show 2 ≤ 1000 by decide) (w2 (small n0) (by decide))
    have rq1 : Rep (hide b H') (.ref q1) (txs [Str.ofString "move", z1]) := rep_txs (tp eq1) (show 2 ≤ 1000 by decide) (w2 (small n1) (by decide))
    have ru1 : Rep (hide b H') (.ref u1) (txs [Str.ofString "move", Str.ofString "new"]) := rep_txs (tp eu1) (show 2 ≤ 1000 by decide) (w2 (by decide) (by decide))
    have rr1 : Rep (hide b H') (.ref r1) (txs [Str.ofString "lend", z0, Str.ofString ""]) := rep_txs (tp er1) (show 3 ≤ 1000 by decide) (fun u hu => by
      simp only [List.mem_cons, List.not_mem_nil, or_false] at hu
      rcases hu with rfl | rfl | rfl
      · decide
      · exact small n0
      · decide)
    simp only [List.mem_append, List.mem_cons, List.not_mem_nil, or_false] at hx
    rcases hx with ((rfl | rfl | rfl | rfl | rfl | rfl | rfl | rfl | rfl | rfl | rfl | rfl) | (rfl | rfl | rfl | rfl)) | (rfl | rfl | rfl | rfl)
    · exact fin _ (.txt (by decide)) (notT fun ds e => nomatch e)
    · exact fin _ (.txt (by decide)) (notT fun ds e => nomatch e)
    · exact fin _ (.txt (by decide)) (notT fun ds e => nomatch e)
    · exact fin _ (.txt (by decide)) (notT fun ds e => nomatch e)
    · exact fin _ (.txt (by decide)) (notT fun ds e => nomatch e)
    · exact fin _ (.txt (by decide +kernel)) (notT fun ds e => nomatch e)
    · exact fin _ .non (notT fun ds e => nomatch e)
    · exact fin _ .int (notT fun ds e => nomatch e)
    · exact fin _ .bl (notT fun ds e => nomatch e)
    · exact fin _ (.tup (tp ep1) (show 0 ≤ 1000 by decide) .nil) (one (show 0 ≤ 4 by decide))
    · exact fin _ rp2 (one (show 2 ≤ 4 by decide))
    · exact fin _ (.lst ((hide_at (g16.strs (zs := [Str.ofString "a"]) ep3)).trans (kq _ _ (g16.strs (zs := [Str.ofString "a"]) ep3) ep3))) (notT fun ds e => nomatch e)
    · exact fin _ (.tup (tp eq2) (show 1 ≤ 1000 by decide) (.cons rq1 .nil)) (one (show 1 ≤ 4 by decide))
    · exact fin _ (.tup (tp er3) (show 4 ≤ 1000 by decide) (.cons rr1 (.cons rr1 (.cons rr1 (.cons rr1 .nil))))) (one (show 4 ≤ 4 by decide))
    · exact fin _ (.txt (by decide)) (notT fun ds e => nomatch e)
    · exact fin _ rs1 (one (show 2 ≤ 4 by decide))
    · exact fin _ (.txt (small n2)) (notT fun ds e => nomatch e)
    · exact fin _ (.txt (small n0)) (notT fun ds e => nomatch e)
    · exact fin _ (.dct ((hide_at (g16.dk ed1)).trans (kq _ _ (g16.dk ed1) ed1))) (notT fun ds e => nomatch e)
    · exact fin _ (.tup (tp eu2) (show 1 ≤ 1000 by decide) (.cons ru1 .nil)) (one (show 1 ≤ 4 by decide))
/-! ### _law_spoiled -/
theorem repAll_cut {H : Hp} {xs : List V} {ds : List Dt} (r : RepAll H xs ds) (lo hi : Option Int) : ∃ es, RepAll H (cutV xs lo hi) es ∧ es.length ≤ ds.length := by
  unfold cutV
  refine ⟨_, (r.drop _).take _, ?_⟩
  rw [List.length_take, List.length_drop]
  omega
abbrev lspN : List Str := ["bag", "step", "names", "spot", "way", "words"]
theorem scLSp : FnScope lspN ["bag", "step", "names"] (defScope s_L_spoiled) := ⟨rfl, rfl, rfl, by decide +kernel, rfl, by decide +kernel, by decide +kernel⟩
def spLSp : Sp := fun vs H Q _ => ∃ (b a1 : Addr) (v : V) (n : Nat) (ns : List Str) (ds : List Dt), vs = [.ref b, v, .ref a1] ∧ Rep (hide b H) v (.tup ds) ∧ ds ≠ [] ∧ ds.length ≤ 100 ∧ H a1 = some (.lst (ns.map V.str)) ∧ ns.length = 4 ∧ NamesOk ns ∧ Bag H b n ∧ n + 2000 ≤ bagMost ∧
  ∀ H' v d, Keep b H H' → Bag H' b (n + 200) → Rep (hide b H') v d → LenD (2 * ds.length + 1) d → Q v H'
set_option maxHeartbeats 2000000 in
theorem ok_lsp {f : Addr} {fd : FuncData} (F : Fun K "_law_spoiled" "_law_spoiled" s_L_spoiled f fd) (mL : mg "len" = none) (mi : mg "list" = none) (cR : Cal P w K mg base 1 "_law_roll" spRoll) (cO : Cal P w K mg base 2 "_law_one" (spOne K)) (cD : Cal P w K mg base 3 "_law_odd" spLOdd) : FnOk P w K mg base CX0 4 f fd ["bag", "step", "names"] spLSp := by
  refine F.ok scLSp (fun vs H Q E h => ?_) (fun cdv A outer s H vs Q E hr h => ?_)
  · obtain ⟨b, a1, v, n, ns, ds, rfl, _⟩ := h
    rfl
  · obtain ⟨b, a1, v, n, ns, ds, rfl, r, nds, lds, h1, l1, ok1, g, nm, q⟩ := h
    refine ⟨_, (pss_cons (ps_par (i := 3) (j := 4) rfl scLSp.nd rfl rfl (by decide) rfl rfl (pa_cons (C8.pe_c cR hr (by omega) (by rfl) (pa_cons (pv 0) (pa_cons (pe_callB call_len_seq (by rfl) mL PySem.boot_len (pa_cons (pv 1) pa_nil)) pa_nil))) (pa_cons (C8.pe_c cR hr (by omega) (by rfl) (pa_cons (pv 0) (pa_cons (pe_int) pa_nil))) pa_nil)) rfl)
      (pss_cons (ps_if (pt_cmpR op_eq (pv 4) pe_int (nomark _)) (pss_one (ps_ret (pe_op op_catU (pe_op op_catU (pe_slice sl_tupU (pv 1) po_none (po_some (pv 3))) (pe_tup (pa_cons (C8.pe_c cD hr (by omega) (by rfl) (pa_cons (pv 0) (pa_cons (pv 2) pa_nil))) pa_nil))) (pe_slice sl_tupU (pv 1) (po_some (pe_op op_add (pv 3) pe_int)) po_none)))) pss_nil)
      (pss_cons (ps_if (pt_cmpR op_eq (pv 4) pe_int (nomark _)) (pss_one (ps_ret (pe_op op_catU (pe_slice sl_tupU (pv 1) po_none (po_some (pv 3))) (pe_slice sl_tupU (pv 1) (po_some (pe_op op_add (pv 3) pe_int)) po_none)))) pss_nil)
      (pss_cons (ps_if (pt_cmpR op_eq (pv 4) pe_int (nomark _)) (pss_one (ps_ret (pe_op op_catU (pv 1) (pe_tup (pa_cons (C8.pe_c cD hr (by omega) (by rfl) (pa_cons (pv 0) (pa_cons (pv 2) pa_nil))) pa_nil))))) pss_nil)
      (pss_cons (ps_if (pt_cmpR op_eq (pv 4) pe_int (nomark _)) (pss_cons (ps_set (i := 5) scLSp.nd rfl (.inl rfl) (pe_lst (pa_cons (pe_str) (pa_cons (pe_str) (pa_cons (pe_str) (pa_cons (pe_str) (pa_cons (pe_str) (pa_cons (pe_str) (pa_cons (pe_str) (pa_cons (pe_str) (pa_cons (pe_str) (pa_cons (pe_str) (pa_cons (pe_str) (pa_cons (pe_str) pa_nil))))))))))))))
      (pss_one (ps_ret (pe_op op_catU (pe_tup (pa_cons (C8.pe_c cO hr (by omega) (by rfl) (pa_cons (pv 0) (pa_cons (pv 5) pa_nil))) pa_nil)) (pe_slice sl_tupU (pv 1) (po_some pe_int) po_none))))) pss_nil)
      (pss_cons (ps_if (PW.pt (pw_and (pt_cmpR op_eq (pv 4) pe_int (nomark _)) (pw_and1 (pt_cmpR op_gt (pe_callB call_len_seq (by rfl) mL PySem.boot_len (pa_cons (pv 1) pa_nil)) pe_int (nomark _)))))
        (pss_one (ps_ret (pe_op op_catU (pe_op op_catU (pe_slice sl_tupU (pv 1) po_none (po_some pe_int)) (pe_tup (pa_cons (pe_ix ix_tup (pv 1) pe_int (fun _ _ => rfl)) pa_nil))) (pe_slice sl_tupU (pv 1) (po_some pe_int) po_none)))) pss_nil)
      (pss_one (ps_ret (pe_ifExp (pt_cmpR op_eq (pv 4) pe_int (nomark _)) (pe_callTy call_list_of (by rfl) mi (by decide +kernel) (pa_cons (pv 1) pa_nil)) (pv 1)))))))))), ?_⟩
    cases r with
    | tup e l ra =>
      rename_i a xs
      obtain ⟨nab, ha⟩ : a ≠ b ∧ H a = some (.tup xs) := by
        by_cases n : a = b
        · subst n
          unfold hide at e
          rw [if_pos rfl] at e
          cases e
        · rw [hide_at n] at e
          exact ⟨n, e⟩
      have ll := ra.length
      have pos : 1 ≤ xs.length := by
        rw [ll]
        cases ds with
        | nil => exact absurd rfl nds
        | cons d r => exact Nat.le_add_left _ _
      have na1 := g.strs h1
      refine ⟨_, rfl, _, rfl, a, xs, rfl, .inr (.inl (.inl ha)), b, _, _, rfl, by omega, by omega, g, by omega, fun H1 sp kp1 g1 sp0 sp1 => ?_⟩
      refine ⟨_, rfl, b, 6, _, rfl, by decide, by decide, g1, by omega, fun H2 way kp2 g2 _ _ => ⟨_, _, rfl, ?_⟩⟩
      have kp := kp1.trans kp2
      have q := fun H' v d k => q H' v d (Keep.trans kp k)
      have ha2 := kp _ _ nab ha
      have h12 := kp _ _ na1 h1
      have ra2 := RepAll.same (hide_keep kp) _ _ ra
      clear kp1 kp2 e ha h1 ra g g1
      have mk : ∀ {H' : Hp} {c : Addr} {ys : List V} {es : List Dt} {k : Nat}, Keep b H2 H' → Bag H' b k → k ≤ n + 200 → H' c = some (.tup ys) → RepAll (hide b H') ys es → es.length ≤ 2 * ds.length + 1 → Q (.ref c) H' := fun {H' c ys es k} k1 gk hk hc rr hl =>
        q _ _ (.tup es) k1 (gk.mono hk) (.tup ((hide_at (gk.tup hc)).trans hc) (by rw [rr.length]; omega) rr) fun ds e => by
          cases e
          exact hl
      have up : ∀ {H' : Hp} {ys : List V} {es : List Dt}, Keep b H2 H' → RepAll (hide b H2) ys es → RepAll (hide b H') ys es := fun k r => RepAll.same (hide_keep k) _ _ r
      refine ⟨_, rfl, rfl, _, rfl, ite2 (fun _ => ?_) (fun _ => ?_)⟩
      · refine ⟨_, rfl, _, rfl, _, rfl, a, xs, rfl, ha2, fun c1 H4 s4 h4 => ?_⟩
        have g4 := g2.same s4
        refine ⟨_, rfl, _, rfl, b, a1, _, ns, rfl, s4 _ _ h12, l1, ok1, g4, by omega, fun H5 v5 d5 kp5 g5 r5 len5 => ⟨(show 1 ≤ sizeLine by decide), fun p6 np6 => ?_⟩⟩
        have s6 := same_upd (o := HO.tup [v5]) np6
        have h5 := s6 _ _ (kp5 _ _ (g4.tup h4) h4)
        refine ⟨c1, p6, _, _, rfl, rfl, h5, upd_same, ?_, fun c7 H7 s7 h7 => ?_⟩
        · have := (cutV_sub xs none (some sp)).2
          rw [List.length_singleton]
          exact small1000 (by omega)
        have kp7 := (((Keep.of s4).trans kp5).trans (.of s6)).trans (.of s7)
        refine ⟨_, rfl, _, rfl, _, _, rfl, rfl, _, rfl, a, xs, rfl, kp7 _ _ nab ha2, fun c8 H8 s8 h8 => ?_⟩
        refine ⟨c7, c8, _, _, rfl, rfl, s8 _ _ h7, h8, ?_, fun c9 H9 s9 h9 => ?_⟩
        · have h1 := (cutV_sub xs none (some sp)).2
          have h2 := (cutV_sub xs (some (sp + 1)) none).2
          rw [List.length_append, List.length_singleton]
          exact small1000 (by omega)
        have kp9 := kp7.trans ((Keep.of s8).trans (.of s9))
        obtain ⟨e1, r1, b1⟩ := repAll_cut ra2 none (some sp)
        obtain ⟨e2, r2, b2⟩ := repAll_cut ra2 (some (sp + 1)) none
        have r5' := Rep.same (hide_keep ((Keep.of s6).trans ((Keep.of s7).trans ((Keep.of s8).trans (.of s9))))) _ _ r5
        refine mk kp9 ((((g5.same s6).same s7).same s8).same s9) (by omega) h9 (((up kp9 r1).app (.cons r5' .nil)).app (up kp9 r2)) ?_
        rw [List.length_append, List.length_append, List.length_singleton]
        omega
      refine ⟨_, rfl, rfl, _, rfl, ite2 (fun _ => ?_) (fun _ => ?_)⟩
      · refine ⟨_, rfl, _, rfl, _, rfl, a, xs, rfl, ha2, fun c1 H4 s4 h4 => ?_⟩
        refine ⟨_, rfl, _, rfl, _, _, rfl, rfl, _, rfl, a, xs, rfl, s4 _ _ ha2, fun c8 H8 s8 h8 => ?_⟩
        refine ⟨c1, c8, _, _, rfl, rfl, s8 _ _ h4, h8, ?_, fun c9 H9 s9 h9 => ?_⟩
        · have h1 := (cutV_sub xs none (some sp)).2
          have h2 := (cutV_sub xs (some (sp + 1)) none).2
          exact small1000 (by omega)
        have kp9 := (Keep.of (b := b) s4).trans ((Keep.of s8).trans (.of s9))
        obtain ⟨e1, r1, b1⟩ := repAll_cut ra2 none (some sp)
        obtain ⟨e2, r2, b2⟩ := repAll_cut ra2 (some (sp + 1)) none
        refine mk kp9 (((g2.same s4).same s8).same s9) (by omega) h9 ((up kp9 r1).app (up kp9 r2)) ?_
        rw [List.length_append]
        omega
      refine ⟨_, rfl, rfl, _, rfl, ite2 (fun _ => ?_) (fun _ => ?_)⟩
      · refine ⟨_, rfl, _, rfl, _, rfl, b, a1, _, ns, rfl, h12, l1, ok1, g2, by omega, fun H5 v5 d5 kp5 g5 r5 len5 => ⟨(show 1 ≤ sizeLine by decide), fun p6 np6 => ?_⟩⟩
        have s6 := same_upd (o := HO.tup [v5]) np6
        refine ⟨a, p6, _, _, rfl, rfl, s6 _ _ (kp5 _ _ nab ha2), upd_same, ?_, fun c7 H7 s7 h7 => ?_⟩
        · rw [List.length_singleton]
          exact small1000 (by omega)
        have kp7 := (kp5.trans (.of s6)).trans (.of s7)
        have r5' := Rep.same (hide_keep ((Keep.of s6).trans (.of s7))) _ _ r5
        refine mk kp7 ((g5.same s6).same s7) (by omega) h7 ((up kp7 ra2).app (.cons r5' .nil)) ?_
        rw [List.length_append, List.length_singleton]
        omega
      refine ⟨_, rfl, rfl, _, rfl, ite2 (fun _ => ?_) (fun _ => ?_)⟩
      · refine ⟨(show 12 ≤ sizeLine by decide), fun p5 np5 => ?_⟩
        refine ⟨_, rfl, _, rfl, b, .ref p5, _, _, rfl, its_put g2 np5, by simp, by simp, g2.new np5, by omega, fun H6 x kp6 g6 hx => ⟨(show 1 ≤ sizeLine by decide), fun p7 np7 => ?_⟩⟩
        have s7 := same_upd (o := HO.tup [x]) np7
        have kp7 := ((keep_new np5).trans kp6).trans (.of s7)
        refine ⟨_, rfl, _, rfl, a, xs, rfl, kp7 _ _ nab ha2, fun c8 H8 s8 h8 => ?_⟩
        refine ⟨p7, c8, _, _, rfl, rfl, s8 _ _ upd_same, h8, ?_, fun c9 H9 s9 h9 => ?_⟩
        · have h1 := (cutV_sub xs (some 1) none).2
          rw [List.length_singleton]
          exact small1000 (by omega)
        have kp9 := kp7.trans ((Keep.of s8).trans (.of s9))
        obtain ⟨e1, r1, b1⟩ := repAll_cut ra2 (some 1) none
        have rx : ∃ d, Rep (hide b H9) x d := by
          simp only [List.mem_cons, List.not_mem_nil, or_false] at hx
          rcases hx with rfl | rfl | rfl | rfl | rfl | rfl | rfl | rfl | rfl | rfl | rfl | rfl <;> exact ⟨_, .txt (by decide)⟩
        obtain ⟨d, rx⟩ := rx
        refine mk kp9 (((g6.same s7).same s8).same s9) (by omega) h9 ((RepAll.cons rx .nil).app (up kp9 r1)) ?_
        rw [List.length_append, List.length_singleton]
        omega
      refine ⟨_, rfl, rfl, _, rfl, ite2 (fun _ => ?_) (fun _ => ?_)⟩
      · refine ⟨_, rfl, a, xs, rfl, .inr (.inl (.inl ha2)), _, _, rfl, rfl, _, rfl, ite2 (fun h => ?_) (fun _ => ?_)⟩
        · have h3 : 2 < xs.length := by
            have := of_decide_eq_true h
            omega
          refine ⟨_, rfl, _, rfl, a, xs, rfl, ha2, fun c1 H4 s4 h4 => ?_⟩
          obtain ⟨x1, hx1⟩ : ∃ x1, xs[1]? = some x1 := ⟨_, List.getElem?_eq_getElem (by omega)⟩
          obtain ⟨d1, hd1, r1'⟩ := ra2.at hx1
          refine ⟨_, rfl, a, xs, 1, x1, rfl, rfl, .inl (.inl (s4 _ _ ha2)), atI_nat (j := 1) hx1, (show 1 ≤ sizeLine by decide), fun p6 np6 => ?_⟩
          have s6 := same_upd (o := HO.tup [x1]) np6
          refine ⟨c1, p6, _, _, rfl, rfl, s6 _ _ h4, upd_same, ?_, fun c7 H7 s7 h7 => ?_⟩
          · have := (cutV_sub xs none (some 2)).2
            rw [List.length_singleton]
            exact small1000 (by omega)
          have kp7 := ((Keep.of (b := b) s4).trans (.of s6)).trans (.of s7)
          refine ⟨_, rfl, _, rfl, a, xs, rfl, kp7 _ _ nab ha2, fun c8 H8 s8 h8 => ?_⟩
          refine ⟨c7, c8, _, _, rfl, rfl, s8 _ _ h7, h8, ?_, fun c9 H9 s9 h9 => ?_⟩
          · have h1 := (cutV_sub xs none (some 2)).2
            have h2 := (cutV_sub xs (some 3) none).2
            rw [List.length_append, List.length_singleton]
            exact small1000 (by omega)
          have kp9 := kp7.trans ((Keep.of s8).trans (.of s9))
          obtain ⟨e1, r1, b1⟩ := repAll_cut ra2 none (some 2)
          obtain ⟨e2, r2, b2⟩ := repAll_cut ra2 (some 3) none
          have rx := Rep.same (hide_keep kp9) _ _ r1'
          refine mk kp9 (((((g2.same s4).same s6).same s7).same s8).same s9) (by omega) h9 (((up kp9 r1).app (.cons rx .nil)).app (up kp9 r2)) ?_
          rw [List.length_append, List.length_append, List.length_singleton]
          omega
        · exact ⟨_, rfl, rfl, _, rfl, ite2 (fun _ => ⟨_, rfl, a, xs, rfl, .inr (.inl (.inl ha2)), fun l nl => q _ _ .oth (.of (same_upd nl)) ((g2.same (same_upd nl)).mono (by omega)) (.lst ((hide_at (fun e => by
          rw [e] at nl
          exact absurd rfl (g2.ne nl))).trans upd_same)) (fun ds e => nomatch e)⟩)
        (fun _ => ⟨_, rfl, q _ _ (.tup ds) (.refl _ _) (g2.mono (by omega)) (.tup ((hide_at nab).trans ha2) l ra2) (fun ds e => by
          cases e
          omega)⟩)⟩
      · exact ⟨_, rfl, rfl, _, rfl, ite2 (fun _ => ⟨_, rfl, a, xs, rfl, .inr (.inl (.inl ha2)), fun l nl => q _ _ .oth (.of (same_upd nl)) ((g2.same (same_upd nl)).mono (by omega)) (.lst ((hide_at (fun e => by
          rw [e] at nl
          exact absurd rfl (g2.ne nl))).trans upd_same)) (fun ds e => nomatch e)⟩)
        (fun _ => ⟨_, rfl, q _ _ (.tup ds) (.refl _ _) (g2.mono (by omega)) (.tup ((hide_at nab).trans ha2) l ra2) (fun ds e => by
          cases e
          omega)⟩)⟩
/-! ### _law_right -/
abbrev lrN : List Str := ["value", "good", "text", "bad"]
theorem scLR : FnScope lrN ["value"] (defScope s_L_right) := ⟨rfl, rfl, rfl, by decide +kernel, rfl, by decide +kernel, by decide +kernel⟩
def spLR : Sp := fun vs H Q _ => ∃ (v : V) (d : Dt), vs = [v] ∧ Rep H v d ∧ ∀ H', Same H H' → Q (.bl true) H'
def refP : PyData := pairP (Str.ofString "refused") .none
theorem ref_shaped : SeqAt.shaped refP = true := by decide +kernel
theorem ref_eqv : PyData.eqv refP refP = true := by decide +kernel
theorem refs_shaped : SeqAt.shaped (.list [refP, refP, refP, refP]) = true := by decide +kernel
theorem refs_eqv : PyData.eqv (.list [refP, refP, refP, refP]) (.list [refP, refP, refP, refP]) = true := by decide +kernel
theorem ref_dp {H : Hp} {p : Addr} (h : H p = some (.tup [.str (Str.ofString "refused"), .non])) : Dp K H (.ref p) refP := pair_dp h .non
set_option maxHeartbeats 2000000 in
theorem ok_lr {f : Addr} {fd : FuncData} {m : Nat} (hm : 5 ≤ m) (F : Fun K "_law_right" "_law_right" s_L_right f fd) (cS : Cal P w K mg base 5 "_law_is_step" spLStep) (cI : Cal P w K mg base 1 "_law_is" spIs) (cP : Cal P w K mg base m "is_step" spIsStep)
    (cW : Cal P w K mg base m "_law_written" spWritten) (cT : Cal P w K mg base 3 "_law_text" spWrite) (cR : Cal P w K mg base m "_law_read" spLRead) : FnOk P w K mg base CX0 (m + 1) f fd ["value"] spLR := by
  refine F.ok scLR (fun vs H Q E h => ?_) (fun cdv A outer s H vs Q E hr h => ?_)
  · obtain ⟨v, d, rfl, _⟩ := h
    rfl
  · obtain ⟨v, d, rfl, r, q⟩ := h
    refine ⟨_, (pss_cons (ps_set (i := 1) scLR.nd rfl (.inl rfl) (C8.pe_c cS hr (by omega) (by rfl) (pa_cons (pv 0) pa_nil)))
      (pss_cons (ps_if (pt_not (pt_val (C8.pe_c cI hr (by omega) (by rfl) (pa_cons (C8.pe_c cP hr (by omega) (by rfl) (pa_cons (pv 0) pa_nil)) (pa_cons (pv 1) pa_nil))))) (pss_one (ps_ret pe_bl)) pss_nil)
      (pss_cons (ps_if (pt_not (pt_val (pv 1))) (pss_one (ps_ret (pe_cmpR (op_eqD hr.units) (C8.pe_c cW hr (by omega) (by rfl) (pa_cons (pv 0) pa_nil)) (pe_tup (pa_cons (pe_str) (pa_cons (pe_non) pa_nil))) (nomark _)))) pss_nil)
      (pss_cons (ps_set (i := 2) scLR.nd rfl (.inl rfl) (C8.pe_c cT hr (by omega) (by rfl) (pa_cons (pv 0) pa_nil)))
      (pss_cons (ps_if (PW.pt (pw_or (pt_cmpR (op_neD hr.units) (C8.pe_c cW hr (by omega) (by rfl) (pa_cons (pv 0) pa_nil)) (pe_tup (pa_cons (pe_str) (pa_cons (pv 2) pa_nil))) (nomark _)) (pw_or1 (pt_cmpR (op_neD hr.units) (C8.pe_c cR hr (by omega) (by rfl) (pa_cons (pv 2) pa_nil)) (pe_tup (pa_cons (pe_str) (pa_cons (pv 0) pa_nil))) (nomark _))))) (pss_one (ps_ret pe_bl)) pss_nil)
      (pss_cons (ps_set (i := 3) scLR.nd rfl (.inl rfl) (pe_lst (pa_cons (C8.pe_c cR hr (by omega) (by rfl) (pa_cons (pe_op op_add_str (pv 2) pe_str) pa_nil)) (pa_cons (C8.pe_c cR hr (by omega) (by rfl) (pa_cons (pe_op op_add_str pe_str (pv 2)) pa_nil)) (pa_cons (C8.pe_c cR hr (by omega) (by rfl) (pa_cons (pe_upper (pv 2)) pa_nil)) (pa_cons (C8.pe_c cR hr (by omega) (by rfl) (pa_cons (pv 0) pa_nil)) pa_nil))))))
      (pss_one (ps_ret (pe_cmpR (op_eqD hr.units) (pv 3) (pe_op op_rep (pe_lst (pa_cons (pe_tup (pa_cons (pe_str) (pa_cons (pe_non) pa_nil))) pa_nil)) pe_int) (nomark _)))))))))), ?_⟩
    refine ⟨_, rfl, v, d, rfl, r, fun H1 good s1 hg => ?_⟩
    have r1 := Rep.same s1 _ _ r
    refine ⟨_, rfl, v, d, rfl, r1, fun H2 b s2 hb => ⟨_, rfl, b, good, rfl, _, rfl, ?_⟩⟩
    have e : b = good := by
      rw [Bool.eq_iff_iff]
      exact hb.trans hg.symm
    rw [decide_eq_true e]
    have r2 := Rep.same s2 _ _ r1
    refine iteF ⟨_, rfl, good, rfl, ?_⟩
    cases good with
    | false =>
      have ng : ¬ GoodD d := fun h => absurd (hg.mpr h) Bool.false_ne_true
      refine iteT ⟨_, rfl, v, d, rfl, r2, fun f e g => absurd ⟨f, e, g⟩ ng, fun _ H3 p s3 hp => ⟨(show 2 ≤ sizeLine by decide), fun p4 np4 => ?_⟩⟩
      have s4 := same_upd (o := HO.tup [V.str (Str.ofString "refused"), V.non]) np4
      refine ⟨refP, refP, ref_dp (s4 _ _ hp), ref_dp upd_same, ref_shaped, ref_shaped, ?_⟩
      rw [ref_eqv]
      exact q _ (s1.trans (s2.trans (s3.trans s4)))
    | true =>
      obtain ⟨g, rfl, gg⟩ := hg.mp rfl
      have ok := good_ok gg
      obtain ⟨lt, od, dd⟩ := step_dat ok
      have ltl := text_len ok
      have gD : GoodD g.dt := ⟨g, rfl, gg⟩
      refine iteF ⟨_, rfl, v, g, rfl, r2, gg, fun H3 s3 => ?_⟩
      have r3 := Rep.same s3 _ _ r2
      refine ⟨_, rfl, v, _, rfl, r3, fun f e gf H4 p s4 hp => ?_, fun ng => absurd gD ng⟩
      obtain rfl := dt_inj e
      refine ⟨_, rfl, (show 2 ≤ sizeLine by decide), fun p5 np5 => ?_⟩
      have s5 := same_upd (o := HO.tup [V.str (Str.ofString "text"), V.str g.text]) np5
      have ts : SeqAt.shaped (pairP (Str.ofString "text") (.str g.text)) = true := pair_shaped (by decide +kernel) lt.ok (show 0 ≤ 50 by decide)
      refine ⟨_, _, pair_dp (s5 _ _ hp) (.str g.text), pair_dp upd_same (.str g.text), ts, ts, ?_⟩
      rw [pair_eqv (w := Str.ofString "text") (d := .str g.text) (show (g.text == g.text) = true from beq_self_eq_true _)]
      have sa := s4.trans s5
      have r5 := Rep.same sa _ _ r3
      generalize hG : L2.upd H4 p5 _ = H5 at *
      clear hG np5 s5 hp
      refine ⟨_, rfl, iteF ?_⟩
      refine ⟨_, rfl, .str g.text, .txt g.text, rfl, .txt (Nat.le_trans ltl (by decide)), fun z e => ?_, fun f H6 p6 u e gf s6 ru hp6 => ?_, fun no => absurd rfl (no g.text rfl g gg)⟩
      · cases e
        exact Nat.le_trans ltl (by decide)
      have efg : f = g := by
        have h1 := gStep_eq (good_ok gf)
        have h2 := gStep_eq ok
        have e : g.text = f.text := Dt.txt.inj e
        rw [e] at h2
        exact dt_inj (h1.symm.trans h2)
      subst efg
      refine ⟨_, rfl, (show 2 ≤ sizeLine by decide), fun p7 np7 => ?_⟩
      have s7 := same_upd (o := HO.tup [V.str (Str.ofString "step"), v]) np7
      have ss : SeqAt.shaped (pairP (Str.ofString "step") (pyD f.dt)) = true := pair_shaped (by decide +kernel) (lay_d _ od) (by rw [dep_d]; omega)
      refine ⟨_, _, pair_dp (s7 _ _ hp6) (rep_dp _ _ od (Rep.same s7 _ _ ru)), pair_dp upd_same (rep_dp _ _ od (Rep.same (s6.trans s7) _ _ r5)), ss, ss, ?_⟩
      rw [pair_eqv (w := Str.ofString "step") (eqv_d f.dt)]
      have r7 := Rep.same (s6.trans s7) _ _ r5
      have sb := s6.trans s7
      generalize hG : L2.upd H6 p7 _ = H7 at *
      clear hG np7 s7 hp6 ru s6
      have l1 : (Str.ofString " ").length = 1 := rfl
      refine ⟨_, rfl, iteF ?_⟩
      have no : ∀ {z : Str}, NoText z → ∀ {g : StepF} {X : Prop}, Dt.txt z = Dt.txt g.text → g.good = true → X := fun {z} h {g X} e gg => by
        exact absurd (Dt.txt.inj e).symm (h g gg)
      have big : ∀ {k : Nat}, k ≤ 900 → k ≤ 100000 := fun h => Nat.le_trans h (by decide)
      have lb : (f.text ++ Str.ofString " ").length ≤ 900 := by rw [len_cat, l1]; omega
      have la : (Str.ofString " " ++ f.text).length ≤ 900 := by rw [len_cat, l1]; omega
      have lu : (Txt.upper f.text).length ≤ 900 := Nat.le_trans (len_upper _) (by omega)
      refine ⟨_, rfl, _, _, rfl, rfl, small1000 (by rw [l1]; omega), .str (f.text ++ Str.ofString " "), .txt _, rfl, .txt (big lb), fun z e => by cases e; exact lb, fun g H' p u e gg _ _ _ => no (no_behind _) e gg, fun _ H8 b1 s8 hb1 => ?_⟩
      refine ⟨_, rfl, _, _, rfl, rfl, small1000 (by rw [l1]; omega), .str (Str.ofString " " ++ f.text), .txt _, rfl, .txt (big la), fun z e => by cases e; exact la, fun g H' p u e gg _ _ _ => no (no_ahead _) e gg, fun _ H9 b2 s9 hb2 => ?_⟩
      refine ⟨_, rfl, ⟨_, rfl⟩, f.text, rfl, rfl, Nat.le_trans ltl (by decide), .str (Txt.upper f.text), .txt _, rfl, .txt (big lu), fun z e => by cases e; exact lu, fun g H' p u e gg _ _ _ => no (no_upper f) e gg, fun _ H10 b3 s10 hb3 => ?_⟩
      have r10 := Rep.same (s8.trans (s9.trans s10)) _ _ r7
      have nd : ∀ z, f.dt ≠ .txt z := fun z e => by cases f <;> cases e
      refine ⟨_, rfl, v, f.dt, rfl, r10, fun z e => absurd e (nd z), fun g H' p u e gg _ _ _ => absurd e (nd _), fun _ H11 b4 s11 hb4 => ?_⟩
      refine ⟨(show 4 ≤ sizeLine by decide), fun pb npb => ?_⟩
      have s12 := same_upd (o := HO.lst [V.ref b1, V.ref b2, V.ref b3, V.ref b4]) npb
      refine ⟨_, rfl, (show 2 ≤ sizeLine by decide), fun t nt => ⟨(show 1 ≤ sizeLine by decide), fun l nl => ⟨l, 4, [V.ref t], rfl, rfl, upd_same, by decide, by decide, (show 1 * 4 ≤ sizeLine by decide), fun p np => ?_⟩⟩⟩
      have s13 := same_upd (o := HO.tup [V.str (Str.ofString "refused"), V.non]) nt
      have s14 := same_upd (o := HO.lst [V.ref t]) nl
      have s15 := same_upd (o := HO.lst (List.replicate (Int.toNat 4) [V.ref t]).flatten) np
      have z3 := s14.trans s15
      have z2 := s13.trans z3
      have z1 := s12.trans z2
      have d1 := ref_dp (K := K) (z1 _ _ (s11 _ _ (s10 _ _ (s9 _ _ hb1))))
      have d2 := ref_dp (K := K) (z1 _ _ (s11 _ _ (s10 _ _ hb2)))
      have d3 := ref_dp (K := K) (z1 _ _ (s11 _ _ hb3))
      have d4 := ref_dp (K := K) (z1 _ _ hb4)
      have dt := ref_dp (K := K) (z3 t _ upd_same)
      refine ⟨.list [refP, refP, refP, refP], .list [refP, refP, refP, refP], .lst (.inl (.inl (z2 pb _ upd_same))) (.cons d1 (.cons d2 (.cons d3 (.cons d4 .nil)))), .lst (.inl (.inl upd_same)) (.cons dt (.cons dt (.cons dt (.cons dt .nil)))), refs_shaped, refs_shaped, ?_⟩
      rw [refs_eqv]
      exact q _ (s1.trans (s2.trans (s3.trans (sa.trans (sb.trans (s8.trans (s9.trans (s10.trans (s11.trans z1)))))))))
/-! ### _law_no_steps, the law -/
theorem scNo : FnScope ["some"] [] (defScope s_L_no_steps) := ⟨rfl, rfl, rfl, by decide +kernel, rfl, by decide +kernel, by decide +kernel⟩
def spNo : Sp := fun vs H Q _ => vs = [] ∧ ∀ H' D, Same H H' → H' D = some (.lst (noL.map V.str)) → Q (.ref D) H'
theorem ok_no {f : Addr} {fd : FuncData} (F : Fun K "_law_no_steps" "_law_no_steps" s_L_no_steps f fd) : FnOk P w K mg base CX0 1 f fd [] spNo := by
  refine F.ok scNo (fun vs H Q E h => ?_) (fun cdv A outer s H vs Q E hr h => ?_)
  · obtain ⟨rfl, _⟩ := h
    rfl
  · obtain ⟨rfl, q⟩ := h
    refine ⟨_, (pss_cons (ps_set (i := 0) scNo.nd rfl (.inl rfl) (pe_lst (pa_cons (pe_str) (pa_cons (pe_str) (pa_cons (pe_str) pa_nil)))))
      (pss_cons (ps_set (i := 0) scNo.nd rfl (.inl rfl) (pe_op op_cat (pv 0) (pe_lst (pa_cons (pe_str) (pa_cons (pe_str) (pa_cons (pe_str) (pa_cons (pe_str) (pa_cons (pe_str) (pa_cons (pe_str) pa_nil)))))))))
      (pss_one (ps_ret (pe_op op_cat (pv 0) (pe_lst (pa_cons (pe_str) (pa_cons (pe_str) (pa_cons (pe_str) pa_nil))))))))), ?_⟩
    refine ⟨(show 3 ≤ sizeLine by decide), fun p1 np1 => ⟨_, rfl, (show 6 ≤ sizeLine by decide), fun p2 np2 => ?_⟩⟩
    have s1 := same_upd (o := HO.lst (noL1.map V.str)) np1
    have s2 := same_upd (o := HO.lst (noL2.map V.str)) np2
    refine ⟨p1, p2, noL1.map V.str, noL2.map V.str, rfl, rfl, s2 _ _ upd_same, upd_same, (show 3 + 6 ≤ sizeLine by decide), fun p3 np3 => ⟨_, rfl, (show 3 ≤ sizeLine by decide), fun p4 np4 => ?_⟩⟩
    have s3 := same_upd (o := HO.lst (noL1.map V.str ++ noL2.map V.str)) np3
    have s4 := same_upd (o := HO.lst (noL3.map V.str)) np4
    refine ⟨p3, p4, noL1.map V.str ++ noL2.map V.str, noL3.map V.str, rfl, rfl, s4 _ _ upd_same, upd_same, (show 9 + 3 ≤ sizeLine by decide), fun p5 np5 => ?_⟩
    refine q _ p5 (s1.trans (s2.trans (s3.trans (s4.trans (same_upd np5))))) ?_
    rw [upd_same]
    unfold noL
    rw [List.map_append, List.map_append]
abbrev lawN : List Str := ["script", "at", "bag", "names", "parts", "step", "turn", "value", "text"]
theorem scLaw : FnScope lawN ["script"] (defScope s_law) := ⟨rfl, rfl, rfl, by decide +kernel, rfl, by decide +kernel, by decide +kernel⟩
def spLaw (K : PySem.W.Frag) : Sp := fun vs H Q _ => ∃ (a : Addr) (ns : List Int), vs = [.ref a] ∧ SqL K H a (ns.map V.int) ∧ ns.length ≤ 63 ∧ ∀ H', Q (.bl true) H'
theorem keep_same {b : Addr} {H0 H1 H2 : Hp} (s : Same H0 H1) (n : H0 b = none) (k : Keep b H1 H2) : Same H0 H2 := fun a o e => k a o (ne_of_none e n) (s a o e)
theorem form_tup (f : StepF) : ∃ ds, f.dt = .tup ds ∧ ds ≠ [] ∧ ds.length ≤ 4 := by
  cases f <;> exact ⟨_, rfl, List.cons_ne_nil _ _, by simp⟩
set_option maxHeartbeats 4000000 in
theorem ok_law {f : Addr} {fd : FuncData} {m : Nat} (hm : 5 ≤ m) (F : Fun K "law" "law" s_law f fd) (mr : mg "range" = none) (mx : mg "max" = none) (mn : mg "min" = none) (ml : mg "len" = none) (mI : mg "isinstance" = none) (mT : mg "tuple" = none) (cB : Cal P w K mg base 1 "_law_bag" (spBag K))
    (cNs : Cal P w K mg base 4 "_law_names" spNames) (cF : Cal P w K mg base 3 "_law_form" spLForm) (cD : Cal P w K mg base 3 "_law_odd" spLOdd) (cSp : Cal P w K mg base 4 "_law_spoiled" spLSp) (cS : Cal P w K mg base 5 "_law_is_step" spLStep) (cR : Cal P w K mg base m "_law_read" spLRead)
    (cG : Cal P w K mg base m "_law_right" spLR) (cNo : Cal P w K mg base 1 "_law_no_steps" spNo) : FnOk P w K mg base CX0 (m + 1) f fd ["script"] (spLaw K) := by
  refine F.ok scLaw (fun vs H Q E h => ?_) (fun cdv A outer s H vs Q E hr h => ?_)
  · obtain ⟨a, ns, rfl, _⟩ := h
    rfl
  · obtain ⟨a, ns, rfl, hS, few, q⟩ := h
    refine ⟨_, (pss_cons (ps_if (pt_cmpR (op_neNilL (roomN hr)) (pe_lc (own := [("text", 8)]) (g := gName 8) rfl scLaw.nd (pi_list (pe_c0 cNo hr (by omega) (by rfl))) (blkOk_by (N := lawN) (sc := defScope s_law) (by decide +kernel))
          (fun _ _ _ _ _ => pg_name (i := 8) scLaw.nd rfl (Or.inl rfl)) (fun _ _ _ _ _ => pts_one (pt_cmpR (neD_K (K := K) rfl hr.units) (C8.pe_c cR hr (by omega) (by rfl) (pa_cons (pv 8) pa_nil)) (pe_tup (pa_cons (pe_str) (pa_cons (pe_non) pa_nil))) (nomark _))) (fun _ _ _ _ _ => pv 8)) (pe_lst pa_nil) (nomark _))
        (pss_one (ps_ret pe_bl)) pss_nil)
      (pss_cons (ps_for PassesOwn.never rfl (pi_range1 (by rfl) mr (pa_cons (pe_callB (call_max2 rfl) (by rfl) mx (by decide +kernel) (pa_cons (pe_int) (pa_cons (pe_callB (call_min2 rfl) (by rfl) mn (by decide +kernel) (pa_cons (pe_int) (pa_cons (pe_callB call_len_seq (by rfl) ml PySem.boot_len (pa_cons (pv 0) pa_nil)) pa_nil))) pa_nil))) pa_nil))
          (pg_name (i := 1) scLaw.nd rfl (Or.inl rfl)) (pss_cons (ps_set (i := 2) scLaw.nd rfl (.inl rfl) (C8.pe_c cB hr (by omega) (by rfl) (pa_cons (pv 0) (pa_cons (pv 1) pa_nil))))
      (pss_cons (ps_set (i := 3) scLaw.nd rfl (.inl rfl) (C8.pe_c cNs hr (by omega) (by rfl) (pa_cons (pv 2) (pa_cons (pe_int) pa_nil))))
      (pss_cons (ps_set (i := 4) scLaw.nd rfl (.inl rfl) (pe_op op_cat (pe_lst (pa_cons (pe_str) (pa_cons (pe_str) pa_nil))) (C8.pe_c cNs hr (by omega) (by rfl) (pa_cons (pv 2) (pa_cons (pe_int) pa_nil)))))
      (pss_cons (ps_set (i := 5) scLaw.nd rfl (.inl rfl) (C8.pe_c cF hr (by omega) (by rfl) (pa_cons (pv 2) (pa_cons (pv 3) (pa_cons (pv 4) pa_nil)))))
      (pss_cons (ps_if (PW.pt (pw_or (pt_not (pt_val (C8.pe_c cS hr (by omega) (by rfl) (pa_cons (pv 5) pa_nil)))) (pw_or1 (pt_not (pt_val (C8.pe_c cG hr (by omega) (by rfl) (pa_cons (pv 5) pa_nil))))))) (pss_one (ps_ret pe_bl)) pss_nil)
      (Evl.pss_cut (ps_for PassesOwn.never rfl (pi_range1 (by rfl) mr (pa_cons (pe_int) pa_nil)) (pg_name (i := 6) scLaw.nd rfl (Or.inl rfl)) (pss_cons (ps_set (i := 7) scLaw.nd rfl (.inl rfl) (C8.pe_c cSp hr (by omega) (by rfl) (pa_cons (pv 2) (pa_cons (pv 5) (pa_cons (pv 3) pa_nil)))))
      (Evl.pss_cut (ps_if (PW.pt (pw_and (pt_cmpR op_eq (pv 6) pe_int (nomark _)) (pw_and (pt_val (pe_callB call_isi (by rfl) mI (by decide +kernel) (pa_cons (pv 7) (pa_cons (pe_bltn (by rfl) mT (by decide +kernel) (v := .ty "tuple") rfl) pa_nil)))) (pw_and1 (pt_cmpR (op_neNilT (roomN hr)) (pv 7) (pe_tup pa_nil) (nomark _))))))
            (pss_one (ps_set (i := 7) scLaw.nd rfl (.inl rfl) (C8.pe_c cSp hr (by omega) (by rfl) (pa_cons (pv 2) (pa_cons (pv 7) (pa_cons (pv 3) pa_nil)))))) pss_nil)
      (pss_one (ps_if (pt_not (pt_val (C8.pe_c cG hr (by omega) (by rfl) (pa_cons (pv 7) pa_nil)))) (pss_one (ps_ret pe_bl)) pss_nil)))))
      (pss_one (ps_if (PW.pt (pw_or (pt_not (pt_val (C8.pe_c cG hr (by omega) (by rfl) (pa_cons (C8.pe_c cD hr (by omega) (by rfl) (pa_cons (pv 2) (pa_cons (pv 3) pa_nil))) pa_nil)))) (pw_or1 (pt_not (pt_val (C8.pe_c cG hr (by omega) (by rfl) (pa_cons (pv 5) pa_nil))))))) (pss_one (ps_ret pe_bl)) pss_nil)))))))))
      (pss_one (ps_ret pe_bl)))), ?_⟩
    refine ⟨rfl, fun H0 D0 s0 h0 => ⟨D0, rfl, ⟨_, .inl (.inl h0)⟩, fun D nD => ?_⟩⟩
    refine lc_gen walk_list (fun _ => []) rfl (fun _ _ => Nat.zero_le _) nD (fun H' sm => .inl (.inl (sm _ _ h0))) (fun i x H4 H5 Ky Kn hi sm y k1 k0 => ?_) (fun H4 s4 e4 => ?_)
    · obtain ⟨rfl, hx⟩ := y
      rw [List.getElem?_map] at hx
      obtain ⟨z, hz, rfl⟩ := Option.map_eq_some_iff.mp hx
      have lz := no_len z (List.mem_of_getElem? hz)
      have hn := no_all z (List.mem_of_getElem? hz)
      refine ⟨rfl, _, rfl, .str z, .txt z, rfl, .txt (Nat.le_trans lz (by decide)), fun y e => by cases e; exact lz, fun g H' p u e gg _ _ _ => absurd (Dt.txt.inj e).symm (hn g gg), fun _ H6 p s6 hp => ⟨(show 2 ≤ sizeLine by decide), fun p7 np7 => ?_⟩⟩
      have s7 := same_upd (o := HO.tup [V.str (Str.ofString "refused"), V.non]) np7
      refine ⟨refP, refP, ref_dp (s7 _ _ hp), ref_dp upd_same, ref_shaped, ref_shaped, _, rfl, ?_⟩
      rw [ref_eqv]
      exact iteF (k0 _ (s6.trans s7) rfl)
    refine ⟨Nat.zero_le _, fun p np => ⟨D, p, [], rfl, rfl, .inl (.inl (same_upd np _ _ e4)), .inl (.inl upd_same), _, rfl, iteF ?_⟩⟩
    have sA := s0.trans (s4.trans (same_upd (o := HO.lst []) np))
    have hSA := sA.seq hS
    generalize hG : L2.upd H4 p (HO.lst []) = HA at *
    clear hG np s4 e4 nD h0 s0 sA hS
    refine ⟨.ref a, rfl, a, _, rfl, .inl hSA, _, _, rfl, _, _, rfl, _, rfl, by split <;> split <;> omega, by split <;> split <;> omega, ?_⟩
    generalize (if (if ((ns.map V.int).length : Int) < 12 then ((ns.map V.int).length : Int) else 12) > 1 then (if ((ns.map V.int).length : Int) < 12 then ((ns.map V.int).length : Int) else 12) else 1) = turns
    refine for_range (n := turns.toNat) (fun i σ' H' => (∃ x1 x2 x3 x4 x5 x6 x7 x8 : Option V, σ' = [some (.ref a), x1, x2, x3, x4, x5, x6, x7, x8]) ∧ Same HA H')
      ⟨⟨_, _, _, _, _, _, _, _, rfl⟩, .refl HA⟩ (fun i σ' H' hi hP => ?_) (fun σ' H' hP => q H')
    obtain ⟨⟨x1, x2, x3, x4, x5, x6, x7, x8, rfl⟩, sm0⟩ := hP
    refine ⟨_, rfl, _, rfl, a, ns, i, (by show [V.ref a, V.int ((0 : Int) + (i : Int))] = _; rw [Int.zero_add]), sm0.seq hSA, fun H1 b sm1 nb g1 => ?_⟩
    refine ⟨_, rfl, b, 4, 0, rfl, by decide, g1, by decide, fun H2 pn zs kp2 npn g2 hpn zl zok => ?_⟩
    refine ⟨(show 2 ≤ sizeLine by decide), fun p1 np1 => ?_⟩
    have s3 := same_upd (o := HO.lst ([Str.ofString "", Str.ofString ""].map V.str)) np1
    refine ⟨_, rfl, b, 2, _, rfl, by decide, g2.same s3, by decide, fun H4 pp zs2 kp4 npp g4 hpp zl2 zok2 => ?_⟩
    have np1b : p1 ≠ b := (g2.ne np1).symm
    have hp14 := kp4 _ _ np1b (upd_same (H := H2) (a := p1) (o := HO.lst ([Str.ofString "", Str.ofString ""].map V.str)))
    refine ⟨p1, pp, _, _, rfl, rfl, hp14, hpp, ?_, fun pq npq => ?_⟩
    · rw [List.length_map, List.length_map, zl2]
      exact (show 2 + 2 ≤ sizeLine by decide)
    have s5 := same_upd (o := HO.lst ([Str.ofString "", Str.ofString ""].map V.str ++ zs2.map V.str)) npq
    have pnb := g2.strs hpn
    have hpn5 := s5 _ _ (kp4 _ _ pnb (s3 _ _ hpn))
    have g5 := g4.same s5
    have kp5 := (kp2.trans (.of s3)).trans (kp4.trans (.of s5))
    have hpq : L2.upd H4 pq (HO.lst ([Str.ofString "", Str.ofString ""].map V.str ++ zs2.map V.str)) pq = some (HO.lst (([Str.ofString "", Str.ofString ""] ++ zs2).map V.str)) := by
      rw [upd_same, List.map_append]
    generalize hG : L2.upd H4 pq _ = H5 at *
    clear hG npq s5 hp14 hpp npp kp4 g4 s3 np1 np1b
    refine ⟨_, rfl, _, rfl, _, rfl, b, pn, pq, _, zs, [Str.ofString "", Str.ofString ""] ++ zs2, rfl, hpn5, zl, zok, hpq, by rw [List.length_append, zl2]; rfl, fun u hu => ?_, g5, by decide, fun H6 v fm kp6 g6 rv gd => ?_⟩
    · rcases List.mem_append.mp hu with h | h
      · simp only [List.mem_cons, List.not_mem_nil, or_false, or_self] at h
        rw [h]
        rfl
      · show (_ || _) = true
        rw [zok2.names h, Bool.or_true]
    have hpn6 := kp6 _ _ pnb hpn5
    refine ⟨_, rfl, v, fm.dt, rfl, Rep.same hide_same _ _ rv, fun H7 good s7 hgood => ⟨_, rfl, ?_⟩⟩
    rw [hgood.mpr ⟨fm, rfl, gd⟩]
    have rv7 := Rep.same (hide_keep (.of s7)) _ _ rv
    refine iteF ⟨_, rfl, v, fm.dt, rfl, Rep.same hide_same _ _ rv7, fun H8 s8 => ⟨true, rfl, iteF ?_⟩⟩
    have rv8 := Rep.same (hide_keep (.of s8)) _ _ rv7
    have g8 := (g6.same s7).same s8
    have hpn8 := s8 _ _ (s7 _ _ hpn6)
    have kp8 := (kp5.trans kp6).trans ((Keep.of s7).trans (.of s8))
    have sm8 : Same H' H8 := keep_same sm1 nb kp8
    obtain ⟨ds, ed, nds, lds⟩ := form_tup fm
    refine ⟨fun σ1 H9 => ∃ x6 x7 x8 : Option V, σ1 = [some (.ref a), some (.int ((0 : Int) + (i : Int))), some (.ref b), some (.ref pn), some (.ref pq), some v, x6, x7, x8] ∧ Keep b H8 H9 ∧ Bag H9 b 10000, ?_, ?_⟩
    · refine ⟨4, rfl, by decide, by decide, ?_⟩
      refine for_range (n := (4 : Int).toNat) (fun j σ1 H9 => ∃ x6 x7 x8 : Option V, σ1 = [some (.ref a), some (.int ((0 : Int) + (i : Int))), some (.ref b), some (.ref pn), some (.ref pq), some v, x6, x7, x8] ∧ Keep b H8 H9 ∧ Bag H9 b (1000 + 1000 * j))
        ⟨_, _, _, rfl, .refl _ _, g8.mono (by decide)⟩ (fun j σ1 H9 hj hP => ?_) (fun σ1 H9 hP => ?_)
      · obtain ⟨y6, y7, y8, rfl, kp9, g9⟩ := hP
        have j4 : j < 4 := hj
        have rv9 := Rep.same (hide_keep kp9) _ _ rv8
        rw [ed] at rv9
        refine ⟨_, rfl, _, rfl, _, rfl, b, pn, v, _, zs, ds, rfl, rv9, nds, by omega, kp9 _ _ pnb hpn8, zl, zok, g9, by unfold bagMost; omega, fun H10 v1 d1 kp10 g10 r1 l1 => ?_⟩
        have hpn10 := kp10 _ _ pnb (kp9 _ _ pnb hpn8)
        refine ⟨fun σ1 H11 => ∃ (v2 : V) (d2 : Dt), σ1 = [some (.ref a), some (.int ((0 : Int) + (i : Int))), some (.ref b), some (.ref pn), some (.ref pq), some v, some (.int ((0 : Int) + (j : Int))), some v2, y8] ∧ Keep b H8 H11 ∧ Bag H11 b (1000 + 1000 * j + 400) ∧ Rep (hide b H11) v2 d2, ?_, ?_⟩
        · have out : ∃ (v2 : V) (d2 : Dt), [some (.ref a), some (.int ((0 : Int) + (i : Int))), some (.ref b), some (.ref pn), some (.ref pq), some v, some (.int ((0 : Int) + (j : Int))), some v1, y8] = [some (.ref a), some (.int ((0 : Int) + (i : Int))), some (.ref b), some (.ref pn), some (.ref pq), some v, some (.int ((0 : Int) + (j : Int))), some v2, y8] ∧ Keep b H8 H10 ∧ Bag H10 b (1000 + 1000 * j + 400) ∧ Rep (hide b H10) v2 d2 :=
            ⟨v1, d1, rfl, kp9.trans kp10, g10.mono (by omega), r1⟩
          refine ⟨_, rfl, rfl, _, rfl, ite2 (fun _ => ?_) (fun _ => out)⟩
          have r1' := Rep.same (hide_same (b := b)) _ _ r1
          obtain ⟨t, ty, ks⟩ := rep_tuple (K := K) r1'
          refine ⟨_, rfl, v1, .ty "tuple", _, _, isTupD d1, rfl, .ty _, ty, ks, _, rfl, ?_⟩
          cases d1 with
          | txt z => exact iteF out
          | oth => exact iteF out
          | tup es =>
            refine iteT ?_
            cases r1' with
            | tup e l ra =>
              rename_i c xs
              refine ⟨_, rfl, Nat.zero_le _, fun p2 np2 => ⟨c, p2, xs, rfl, rfl, .inl (.inl (same_upd np2 _ _ e)), .inl (.inl upd_same), _, rfl, ?_⟩⟩
              have s11 := same_upd (o := HO.tup []) np2
              cases ra with
              | nil =>
                obtain ⟨v2, d2, e1, k1, g1, r2⟩ := out
                exact iteF ⟨v2, d2, e1, k1.trans (.of s11), g1.same s11, Rep.same (hide_keep (.of s11)) _ _ r2⟩
              | cons h0 ra =>
                refine iteT ?_
                have le := l1 _ rfl
                exact ⟨_, rfl, _, rfl, _, rfl, b, pn, .ref c, _, zs, _, rfl, Rep.same (hide_keep (.of s11)) _ _ r1, List.cons_ne_nil _ _, by omega, s11 _ _ hpn10, zl, zok, g10.same s11, by unfold bagMost; omega, fun H12 v2 d2 kp12 g12 r2 l2 => ⟨v2, d2, rfl, (kp9.trans kp10).trans ((Keep.of s11).trans kp12), g12.mono (by omega), r2⟩⟩
        · rintro σ1 H11 ⟨v2, d2, rfl, kp11, g11, r2⟩
          exact ⟨_, rfl, v2, d2, rfl, Rep.same hide_same _ _ r2, fun H12 s12 => ⟨true, rfl, iteF ⟨_, _, _, rfl, kp11.trans (.of s12), (g11.same s12).mono (by omega)⟩⟩⟩
      · obtain ⟨y6, y7, y8, rfl, kp9, g9⟩ := hP
        exact ⟨_, _, _, rfl, kp9, g9.mono (by decide)⟩
    · rintro σ1 H9 ⟨y6, y7, y8, rfl, kp9, g9⟩
      have hpn9 := kp9 _ _ pnb hpn8
      refine ⟨_, rfl, _, rfl, b, pn, _, zs, rfl, hpn9, zl, zok, g9, by decide, fun H10 vo do_ kp10 g10 ro lo => ⟨vo, do_, rfl, Rep.same hide_same _ _ ro, fun H11 s11 => ⟨true, rfl, iteF ?_⟩⟩⟩
      have kpZ := (kp9.trans kp10).trans (.of s11)
      exact ⟨_, rfl, v, fm.dt, rfl, Rep.same hide_same _ _ (Rep.same (hide_keep kpZ) _ _ rv8), fun H12 s12 => ⟨true, rfl, iteF ⟨⟨_, _, _, _, _, _, _, _, rfl⟩, sm0.trans ((keep_same sm8 nb kpZ).trans s12)⟩⟩⟩
/-! ### what the top has written -/
set_option maxHeartbeats 0 in
theorem all_mk {l : PySem.W.OpenLaw} {w : World} {K : PySem.W.Frag} {h : Heap} {mg : Str → Option Value} {fa : Addr} (X : K.In h) (G : h.Ns mainGlobals mg) (hfa : mg "law" = some (.ref fa))
    {f0 : Addr} {od0 an0 : Option Addr} {sl0 : Array (Option Value)} {oc0 kV0 dc0 pm0 cd0 ct0 : Value}
    {f1 : Addr} {od1 an1 : Option Addr} {sl1 : Array (Option Value)} {oc1 kV1 dc1 pm1 cd1 ct1 : Value}
    {f2 : Addr} {od2 an2 : Option Addr} {sl2 : Array (Option Value)} {oc2 kV2 dc2 pm2 cd2 ct2 : Value}
    {f3 : Addr} {od3 an3 : Option Addr} {sl3 : Array (Option Value)} {oc3 kV3 dc3 pm3 cd3 ct3 : Value}
    {f4 : Addr} {od4 an4 : Option Addr} {sl4 : Array (Option Value)} {oc4 kV4 dc4 pm4 cd4 ct4 : Value}
    {f5 : Addr} {od5 an5 : Option Addr} {sl5 : Array (Option Value)} {oc5 kV5 dc5 pm5 cd5 ct5 : Value}
    {f6 : Addr} {od6 an6 : Option Addr} {sl6 : Array (Option Value)} {oc6 kV6 dc6 pm6 cd6 ct6 : Value}
    {f7 : Addr} {od7 an7 : Option Addr} {sl7 : Array (Option Value)} {oc7 kV7 dc7 pm7 cd7 ct7 : Value}
    {f8 : Addr} {od8 an8 : Option Addr} {sl8 : Array (Option Value)} {oc8 kV8 dc8 pm8 cd8 ct8 : Value}
    {f9 : Addr} {od9 an9 : Option Addr} {sl9 : Array (Option Value)} {oc9 kV9 dc9 pm9 cd9 ct9 : Value}
    {f10 : Addr} {od10 an10 : Option Addr} {sl10 : Array (Option Value)} {oc10 kV10 dc10 pm10 cd10 ct10 : Value}
    {f11 : Addr} {od11 an11 : Option Addr} {sl11 : Array (Option Value)} {oc11 kV11 dc11 pm11 cd11 ct11 : Value}
    {f12 : Addr} {od12 an12 : Option Addr} {sl12 : Array (Option Value)} {oc12 kV12 dc12 pm12 cd12 ct12 : Value}
    {f13 : Addr} {od13 an13 : Option Addr} {sl13 : Array (Option Value)} {oc13 kV13 dc13 pm13 cd13 ct13 : Value}
    {f14 : Addr} {od14 an14 : Option Addr} {sl14 : Array (Option Value)} {oc14 kV14 dc14 pm14 cd14 ct14 : Value}
    {f15 : Addr} {od15 an15 : Option Addr} {sl15 : Array (Option Value)} {oc15 kV15 dc15 pm15 cd15 ct15 : Value}
    {f16 : Addr} {od16 an16 : Option Addr} {sl16 : Array (Option Value)} {oc16 kV16 dc16 pm16 cd16 ct16 : Value}
    {f17 : Addr} {od17 an17 : Option Addr} {sl17 : Array (Option Value)} {oc17 kV17 dc17 pm17 cd17 ct17 : Value}
    {f18 : Addr} {od18 an18 : Option Addr} {sl18 : Array (Option Value)} {oc18 kV18 dc18 pm18 cd18 ct18 : Value}
    {f19 : Addr} {od19 an19 : Option Addr} {sl19 : Array (Option Value)} {oc19 kV19 dc19 pm19 cd19 ct19 : Value}
    {f20 : Addr} {od20 an20 : Option Addr} {sl20 : Array (Option Value)} {oc20 kV20 dc20 pm20 cd20 ct20 : Value}
    {f21 : Addr} {od21 an21 : Option Addr} {sl21 : Array (Option Value)} {oc21 kV21 dc21 pm21 cd21 ct21 : Value}
    {f22 : Addr} {od22 an22 : Option Addr} {sl22 : Array (Option Value)} {oc22 kV22 dc22 pm22 cd22 ct22 : Value}
    {f23 : Addr} {od23 an23 : Option Addr} {sl23 : Array (Option Value)} {oc23 kV23 dc23 pm23 cd23 ct23 : Value}
    {f24 : Addr} {od24 an24 : Option Addr} {sl24 : Array (Option Value)} {oc24 kV24 dc24 pm24 cd24 ct24 : Value}
    {f25 : Addr} {od25 an25 : Option Addr} {sl25 : Array (Option Value)} {oc25 kV25 dc25 pm25 cd25 ct25 : Value}
    {f26 : Addr} {od26 an26 : Option Addr} {sl26 : Array (Option Value)} {oc26 kV26 dc26 pm26 cd26 ct26 : Value}
    {f27 : Addr} {od27 an27 : Option Addr} {sl27 : Array (Option Value)} {oc27 kV27 dc27 pm27 cd27 ct27 : Value}
    {f28 : Addr} {od28 an28 : Option Addr} {sl28 : Array (Option Value)} {oc28 kV28 dc28 pm28 cd28 ct28 : Value}
    {f29 : Addr} {od29 an29 : Option Addr} {sl29 : Array (Option Value)} {oc29 kV29 dc29 pm29 cd29 ct29 : Value}
    {f30 : Addr} {od30 an30 : Option Addr} {sl30 : Array (Option Value)} {oc30 kV30 dc30 pm30 cd30 ct30 : Value}
    {f31 : Addr} {od31 an31 : Option Addr} {sl31 : Array (Option Value)} {oc31 kV31 dc31 pm31 cd31 ct31 : Value}
    {f32 : Addr} {od32 an32 : Option Addr} {sl32 : Array (Option Value)} {oc32 kV32 dc32 pm32 cd32 ct32 : Value}
    {f33 : Addr} {od33 an33 : Option Addr} {sl33 : Array (Option Value)} {oc33 kV33 dc33 pm33 cd33 ct33 : Value}
    {f34 : Addr} {od34 an34 : Option Addr} {sl34 : Array (Option Value)} {oc34 kV34 dc34 pm34 cd34 ct34 : Value}
    {f35 : Addr} {od35 an35 : Option Addr} {sl35 : Array (Option Value)} {oc35 kV35 dc35 pm35 cd35 ct35 : Value}
    {f36 : Addr} {od36 an36 : Option Addr} {sl36 : Array (Option Value)} {oc36 kV36 dc36 pm36 cd36 ct36 : Value}
    {f37 : Addr} {od37 an37 : Option Addr} {sl37 : Array (Option Value)} {oc37 kV37 dc37 pm37 cd37 ct37 : Value}
    {f38 : Addr} {od38 an38 : Option Addr} {sl38 : Array (Option Value)} {oc38 kV38 dc38 pm38 cd38 ct38 : Value}
    {f39 : Addr} {od39 an39 : Option Addr} {sl39 : Array (Option Value)} {oc39 kV39 dc39 pm39 cd39 ct39 : Value}
    {f40 : Addr} {od40 an40 : Option Addr} {sl40 : Array (Option Value)} {oc40 kV40 dc40 pm40 cd40 ct40 : Value}
    {f41 : Addr} {od41 an41 : Option Addr} {sl41 : Array (Option Value)} {oc41 kV41 dc41 pm41 cd41 ct41 : Value}
    {pKEYWORDS : Addr} {odKEYWORDS : Option Addr} {itsKEYWORDS : Array Value} {nKEYWORDS : Nat} {slKEYWORDS : Array (Option Value)}
    {pREPEATING : Addr} {odREPEATING : Option Addr} {itsREPEATING : Array Value} {nREPEATING : Nat} {slREPEATING : Array (Option Value)}
    {tLETTERS : Tok}
    {tMAX_LETTERS : Tok}
    {tMAX_ARGUMENTS : Tok}
    (a0 : PySem.W.nsIn K mainGlobals "is_name" = some (some (.ref f0)))
    (l0 : K.lookup f0 = some ⟨oc0, od0, .func (PySem.W.fnOf "is_name" "is_name" (defArgs s_is_name) (defBody s_is_name) (defScope s_is_name) .none kV0 dc0 pm0 an0 cd0 ct0), sl0⟩)
    (c0 : PySem.W.codeIn K cd0 "is_name" = true) (k0 : PySem.W.keepIn K (.ref f0) = true)
    (a1 : PySem.W.nsIn K mainGlobals "is_any_part" = some (some (.ref f1)))
    (l1 : K.lookup f1 = some ⟨oc1, od1, .func (PySem.W.fnOf "is_any_part" "is_any_part" (defArgs s_is_any_part) (defBody s_is_any_part) (defScope s_is_any_part) .none kV1 dc1 pm1 an1 cd1 ct1), sl1⟩)
    (c1 : PySem.W.codeIn K cd1 "is_any_part" = true) (k1 : PySem.W.keepIn K (.ref f1) = true)
    (a2 : PySem.W.nsIn K mainGlobals "has_step_roles" = some (some (.ref f2)))
    (l2 : K.lookup f2 = some ⟨oc2, od2, .func (PySem.W.fnOf "has_step_roles" "has_step_roles" (defArgs s_has_step_roles) (defBody s_has_step_roles) (defScope s_has_step_roles) .none kV2 dc2 pm2 an2 cd2 ct2), sl2⟩)
    (c2 : PySem.W.codeIn K cd2 "has_step_roles" = true) (k2 : PySem.W.keepIn K (.ref f2) = true)
    (a3 : PySem.W.nsIn K mainGlobals "_is_argument" = some (some (.ref f3)))
    (l3 : K.lookup f3 = some ⟨oc3, od3, .func (PySem.W.fnOf "_is_argument" "_is_argument" (defArgs s__is_argument) (defBody s__is_argument) (defScope s__is_argument) .none kV3 dc3 pm3 an3 cd3 ct3), sl3⟩)
    (c3 : PySem.W.codeIn K cd3 "_is_argument" = true) (k3 : PySem.W.keepIn K (.ref f3) = true)
    (a4 : PySem.W.nsIn K mainGlobals "_begins_with_word" = some (some (.ref f4)))
    (l4 : K.lookup f4 = some ⟨oc4, od4, .func (PySem.W.fnOf "_begins_with_word" "_begins_with_word" (defArgs s__begins_with_word) (defBody s__begins_with_word) (defScope s__begins_with_word) .none kV4 dc4 pm4 an4 cd4 ct4), sl4⟩)
    (c4 : PySem.W.codeIn K cd4 "_begins_with_word" = true) (k4 : PySem.W.keepIn K (.ref f4) = true)
    (a5 : PySem.W.nsIn K mainGlobals "_has_roles" = some (some (.ref f5)))
    (l5 : K.lookup f5 = some ⟨oc5, od5, .func (PySem.W.fnOf "_has_roles" "_has_roles" (defArgs s__has_roles) (defBody s__has_roles) (defScope s__has_roles) .none kV5 dc5 pm5 an5 cd5 ct5), sl5⟩)
    (c5 : PySem.W.codeIn K cd5 "_has_roles" = true) (k5 : PySem.W.keepIn K (.ref f5) = true)
    (a6 : PySem.W.nsIn K mainGlobals "_has_role" = some (some (.ref f6)))
    (l6 : K.lookup f6 = some ⟨oc6, od6, .func (PySem.W.fnOf "_has_role" "_has_role" (defArgs s__has_role) (defBody s__has_role) (defScope s__has_role) .none kV6 dc6 pm6 an6 cd6 ct6), sl6⟩)
    (c6 : PySem.W.codeIn K cd6 "_has_role" = true) (k6 : PySem.W.keepIn K (.ref f6) = true)
    (a7 : PySem.W.nsIn K mainGlobals "_is_variable_role" = some (some (.ref f7)))
    (l7 : K.lookup f7 = some ⟨oc7, od7, .func (PySem.W.fnOf "_is_variable_role" "_is_variable_role" (defArgs s__is_variable_role) (defBody s__is_variable_role) (defScope s__is_variable_role) .none kV7 dc7 pm7 an7 cd7 ct7), sl7⟩)
    (c7 : PySem.W.codeIn K cd7 "_is_variable_role" = true) (k7 : PySem.W.keepIn K (.ref f7) = true)
    (a8 : PySem.W.nsIn K mainGlobals "variables_of" = some (some (.ref f8)))
    (l8 : K.lookup f8 = some ⟨oc8, od8, .func (PySem.W.fnOf "variables_of" "variables_of" (defArgs s_variables_of) (defBody s_variables_of) (defScope s_variables_of) .none kV8 dc8 pm8 an8 cd8 ct8), sl8⟩)
    (c8 : PySem.W.codeIn K cd8 "variables_of" = true) (k8 : PySem.W.keepIn K (.ref f8) = true)
    (a9 : PySem.W.nsIn K mainGlobals "is_step" = some (some (.ref f9)))
    (l9 : K.lookup f9 = some ⟨oc9, od9, .func (PySem.W.fnOf "is_step" "is_step" (defArgs s_is_step) (defBody s_is_step) (defScope s_is_step) .none kV9 dc9 pm9 an9 cd9 ct9), sl9⟩)
    (c9 : PySem.W.codeIn K cd9 "is_step" = true) (k9 : PySem.W.keepIn K (.ref f9) = true)
    (a10 : PySem.W.nsIn K mainGlobals "write_step" = some (some (.ref f10)))
    (l10 : K.lookup f10 = some ⟨oc10, od10, .func (PySem.W.fnOf "write_step" "write_step" (defArgs s_write_step) (defBody s_write_step) (defScope s_write_step) .none kV10 dc10 pm10 an10 cd10 ct10), sl10⟩)
    (c10 : PySem.W.codeIn K cd10 "write_step" = true) (k10 : PySem.W.keepIn K (.ref f10) = true)
    (a11 : PySem.W.nsIn K mainGlobals "_write_place" = some (some (.ref f11)))
    (l11 : K.lookup f11 = some ⟨oc11, od11, .func (PySem.W.fnOf "_write_place" "_write_place" (defArgs s__write_place) (defBody s__write_place) (defScope s__write_place) .none kV11 dc11 pm11 an11 cd11 ct11), sl11⟩)
    (c11 : PySem.W.codeIn K cd11 "_write_place" = true) (k11 : PySem.W.keepIn K (.ref f11) = true)
    (a12 : PySem.W.nsIn K mainGlobals "_write_argument" = some (some (.ref f12)))
    (l12 : K.lookup f12 = some ⟨oc12, od12, .func (PySem.W.fnOf "_write_argument" "_write_argument" (defArgs s__write_argument) (defBody s__write_argument) (defScope s__write_argument) .none kV12 dc12 pm12 an12 cd12 ct12), sl12⟩)
    (c12 : PySem.W.codeIn K cd12 "_write_argument" = true) (k12 : PySem.W.keepIn K (.ref f12) = true)
    (a13 : PySem.W.nsIn K mainGlobals "read_step" = some (some (.ref f13)))
    (l13 : K.lookup f13 = some ⟨oc13, od13, .func (PySem.W.fnOf "read_step" "read_step" (defArgs s_read_step) (defBody s_read_step) (defScope s_read_step) .none kV13 dc13 pm13 an13 cd13 ct13), sl13⟩)
    (c13 : PySem.W.codeIn K cd13 "read_step" = true) (k13 : PySem.W.keepIn K (.ref f13) = true)
    (a14 : PySem.W.nsIn K mainGlobals "_read_step" = some (some (.ref f14)))
    (l14 : K.lookup f14 = some ⟨oc14, od14, .func (PySem.W.fnOf "_read_step" "_read_step" (defArgs s__read_step) (defBody s__read_step) (defScope s__read_step) .none kV14 dc14 pm14 an14 cd14 ct14), sl14⟩)
    (c14 : PySem.W.codeIn K cd14 "_read_step" = true) (k14 : PySem.W.keepIn K (.ref f14) = true)
    (a15 : PySem.W.nsIn K mainGlobals "_guess_step" = some (some (.ref f15)))
    (l15 : K.lookup f15 = some ⟨oc15, od15, .func (PySem.W.fnOf "_guess_step" "_guess_step" (defArgs s__guess_step) (defBody s__guess_step) (defScope s__guess_step) .none kV15 dc15 pm15 an15 cd15 ct15), sl15⟩)
    (c15 : PySem.W.codeIn K cd15 "_guess_step" = true) (k15 : PySem.W.keepIn K (.ref f15) = true)
    (a16 : PySem.W.nsIn K mainGlobals "_guess_place" = some (some (.ref f16)))
    (l16 : K.lookup f16 = some ⟨oc16, od16, .func (PySem.W.fnOf "_guess_place" "_guess_place" (defArgs s__guess_place) (defBody s__guess_place) (defScope s__guess_place) .none kV16 dc16 pm16 an16 cd16 ct16), sl16⟩)
    (c16 : PySem.W.codeIn K cd16 "_guess_place" = true) (k16 : PySem.W.keepIn K (.ref f16) = true)
    (a17 : PySem.W.nsIn K mainGlobals "_guess_call" = some (some (.ref f17)))
    (l17 : K.lookup f17 = some ⟨oc17, od17, .func (PySem.W.fnOf "_guess_call" "_guess_call" (defArgs s__guess_call) (defBody s__guess_call) (defScope s__guess_call) .none kV17 dc17 pm17 an17 cd17 ct17), sl17⟩)
    (c17 : PySem.W.codeIn K cd17 "_guess_call" = true) (k17 : PySem.W.keepIn K (.ref f17) = true)
    (a18 : PySem.W.nsIn K mainGlobals "_guess_argument" = some (some (.ref f18)))
    (l18 : K.lookup f18 = some ⟨oc18, od18, .func (PySem.W.fnOf "_guess_argument" "_guess_argument" (defArgs s__guess_argument) (defBody s__guess_argument) (defScope s__guess_argument) .none kV18 dc18 pm18 an18 cd18 ct18), sl18⟩)
    (c18 : PySem.W.codeIn K cd18 "_guess_argument" = true) (k18 : PySem.W.keepIn K (.ref f18) = true)
    (a19 : PySem.W.nsIn K mainGlobals "_law_bag" = some (some (.ref f19)))
    (l19 : K.lookup f19 = some ⟨oc19, od19, .func (PySem.W.fnOf "_law_bag" "_law_bag" (defArgs s_L_bag) (defBody s_L_bag) (defScope s_L_bag) .none kV19 dc19 pm19 an19 cd19 ct19), sl19⟩)
    (c19 : PySem.W.codeIn K cd19 "_law_bag" = true) (k19 : PySem.W.keepIn K (.ref f19) = true)
    (a20 : PySem.W.nsIn K mainGlobals "_law_roll" = some (some (.ref f20)))
    (l20 : K.lookup f20 = some ⟨oc20, od20, .func (PySem.W.fnOf "_law_roll" "_law_roll" (defArgs s_L_roll) (defBody s_L_roll) (defScope s_L_roll) .none kV20 dc20 pm20 an20 cd20 ct20), sl20⟩)
    (c20 : PySem.W.codeIn K cd20 "_law_roll" = true) (k20 : PySem.W.keepIn K (.ref f20) = true)
    (a21 : PySem.W.nsIn K mainGlobals "_law_is" = some (some (.ref f21)))
    (l21 : K.lookup f21 = some ⟨oc21, od21, .func (PySem.W.fnOf "_law_is" "_law_is" (defArgs s_L_is) (defBody s_L_is) (defScope s_L_is) .none kV21 dc21 pm21 an21 cd21 ct21), sl21⟩)
    (c21 : PySem.W.codeIn K cd21 "_law_is" = true) (k21 : PySem.W.keepIn K (.ref f21) = true)
    (a22 : PySem.W.nsIn K mainGlobals "_law_one" = some (some (.ref f22)))
    (l22 : K.lookup f22 = some ⟨oc22, od22, .func (PySem.W.fnOf "_law_one" "_law_one" (defArgs s_L_one) (defBody s_L_one) (defScope s_L_one) .none kV22 dc22 pm22 an22 cd22 ct22), sl22⟩)
    (c22 : PySem.W.codeIn K cd22 "_law_one" = true) (k22 : PySem.W.keepIn K (.ref f22) = true)
    (a23 : PySem.W.nsIn K mainGlobals "_law_word" = some (some (.ref f23)))
    (l23 : K.lookup f23 = some ⟨oc23, od23, .func (PySem.W.fnOf "_law_word" "_law_word" (defArgs s_L_word) (defBody s_L_word) (defScope s_L_word) .none kV23 dc23 pm23 an23 cd23 ct23), sl23⟩)
    (c23 : PySem.W.codeIn K cd23 "_law_word" = true) (k23 : PySem.W.keepIn K (.ref f23) = true)
    (a24 : PySem.W.nsIn K mainGlobals "_law_names" = some (some (.ref f24)))
    (l24 : K.lookup f24 = some ⟨oc24, od24, .func (PySem.W.fnOf "_law_names" "_law_names" (defArgs s_L_names) (defBody s_L_names) (defScope s_L_names) .none kV24 dc24 pm24 an24 cd24 ct24), sl24⟩)
    (c24 : PySem.W.codeIn K cd24 "_law_names" = true) (k24 : PySem.W.keepIn K (.ref f24) = true)
    (a25 : PySem.W.nsIn K mainGlobals "_law_is_name" = some (some (.ref f25)))
    (l25 : K.lookup f25 = some ⟨oc25, od25, .func (PySem.W.fnOf "_law_is_name" "_law_is_name" (defArgs s_L_is_name) (defBody s_L_is_name) (defScope s_L_is_name) .none kV25 dc25 pm25 an25 cd25 ct25), sl25⟩)
    (c25 : PySem.W.codeIn K cd25 "_law_is_name" = true) (k25 : PySem.W.keepIn K (.ref f25) = true)
    (a26 : PySem.W.nsIn K mainGlobals "_law_is_open" = some (some (.ref f26)))
    (l26 : K.lookup f26 = some ⟨oc26, od26, .func (PySem.W.fnOf "_law_is_open" "_law_is_open" (defArgs s_L_is_open) (defBody s_L_is_open) (defScope s_L_is_open) .none kV26 dc26 pm26 an26 cd26 ct26), sl26⟩)
    (c26 : PySem.W.codeIn K cd26 "_law_is_open" = true) (k26 : PySem.W.keepIn K (.ref f26) = true)
    (a27 : PySem.W.nsIn K mainGlobals "_law_is_arg" = some (some (.ref f27)))
    (l27 : K.lookup f27 = some ⟨oc27, od27, .func (PySem.W.fnOf "_law_is_arg" "_law_is_arg" (defArgs s_L_is_arg) (defBody s_L_is_arg) (defScope s_L_is_arg) .none kV27 dc27 pm27 an27 cd27 ct27), sl27⟩)
    (c27 : PySem.W.codeIn K cd27 "_law_is_arg" = true) (k27 : PySem.W.keepIn K (.ref f27) = true)
    (a28 : PySem.W.nsIn K mainGlobals "_law_are_args" = some (some (.ref f28)))
    (l28 : K.lookup f28 = some ⟨oc28, od28, .func (PySem.W.fnOf "_law_are_args" "_law_are_args" (defArgs s_L_are_args) (defBody s_L_are_args) (defScope s_L_are_args) .none kV28 dc28 pm28 an28 cd28 ct28), sl28⟩)
    (c28 : PySem.W.codeIn K cd28 "_law_are_args" = true) (k28 : PySem.W.keepIn K (.ref f28) = true)
    (a29 : PySem.W.nsIn K mainGlobals "_law_is_way" = some (some (.ref f29)))
    (l29 : K.lookup f29 = some ⟨oc29, od29, .func (PySem.W.fnOf "_law_is_way" "_law_is_way" (defArgs s_L_is_way) (defBody s_L_is_way) (defScope s_L_is_way) .none kV29 dc29 pm29 an29 cd29 ct29), sl29⟩)
    (c29 : PySem.W.codeIn K cd29 "_law_is_way" = true) (k29 : PySem.W.keepIn K (.ref f29) = true)
    (a30 : PySem.W.nsIn K mainGlobals "_law_is_step" = some (some (.ref f30)))
    (l30 : K.lookup f30 = some ⟨oc30, od30, .func (PySem.W.fnOf "_law_is_step" "_law_is_step" (defArgs s_L_is_step) (defBody s_L_is_step) (defScope s_L_is_step) .none kV30 dc30 pm30 an30 cd30 ct30), sl30⟩)
    (c30 : PySem.W.codeIn K cd30 "_law_is_step" = true) (k30 : PySem.W.keepIn K (.ref f30) = true)
    (a31 : PySem.W.nsIn K mainGlobals "_law_place" = some (some (.ref f31)))
    (l31 : K.lookup f31 = some ⟨oc31, od31, .func (PySem.W.fnOf "_law_place" "_law_place" (defArgs s_L_place) (defBody s_L_place) (defScope s_L_place) .none kV31 dc31 pm31 an31 cd31 ct31), sl31⟩)
    (c31 : PySem.W.codeIn K cd31 "_law_place" = true) (k31 : PySem.W.keepIn K (.ref f31) = true)
    (a32 : PySem.W.nsIn K mainGlobals "_law_arg_text" = some (some (.ref f32)))
    (l32 : K.lookup f32 = some ⟨oc32, od32, .func (PySem.W.fnOf "_law_arg_text" "_law_arg_text" (defArgs s_L_arg_text) (defBody s_L_arg_text) (defScope s_L_arg_text) .none kV32 dc32 pm32 an32 cd32 ct32), sl32⟩)
    (c32 : PySem.W.codeIn K cd32 "_law_arg_text" = true) (k32 : PySem.W.keepIn K (.ref f32) = true)
    (a33 : PySem.W.nsIn K mainGlobals "_law_text" = some (some (.ref f33)))
    (l33 : K.lookup f33 = some ⟨oc33, od33, .func (PySem.W.fnOf "_law_text" "_law_text" (defArgs s_L_text) (defBody s_L_text) (defScope s_L_text) .none kV33 dc33 pm33 an33 cd33 ct33), sl33⟩)
    (c33 : PySem.W.codeIn K cd33 "_law_text" = true) (k33 : PySem.W.keepIn K (.ref f33) = true)
    (a34 : PySem.W.nsIn K mainGlobals "_law_form" = some (some (.ref f34)))
    (l34 : K.lookup f34 = some ⟨oc34, od34, .func (PySem.W.fnOf "_law_form" "_law_form" (defArgs s_L_form) (defBody s_L_form) (defScope s_L_form) .none kV34 dc34 pm34 an34 cd34 ct34), sl34⟩)
    (c34 : PySem.W.codeIn K cd34 "_law_form" = true) (k34 : PySem.W.keepIn K (.ref f34) = true)
    (a35 : PySem.W.nsIn K mainGlobals "_law_odd" = some (some (.ref f35)))
    (l35 : K.lookup f35 = some ⟨oc35, od35, .func (PySem.W.fnOf "_law_odd" "_law_odd" (defArgs s_L_odd) (defBody s_L_odd) (defScope s_L_odd) .none kV35 dc35 pm35 an35 cd35 ct35), sl35⟩)
    (c35 : PySem.W.codeIn K cd35 "_law_odd" = true) (k35 : PySem.W.keepIn K (.ref f35) = true)
    (a36 : PySem.W.nsIn K mainGlobals "_law_spoiled" = some (some (.ref f36)))
    (l36 : K.lookup f36 = some ⟨oc36, od36, .func (PySem.W.fnOf "_law_spoiled" "_law_spoiled" (defArgs s_L_spoiled) (defBody s_L_spoiled) (defScope s_L_spoiled) .none kV36 dc36 pm36 an36 cd36 ct36), sl36⟩)
    (c36 : PySem.W.codeIn K cd36 "_law_spoiled" = true) (k36 : PySem.W.keepIn K (.ref f36) = true)
    (a37 : PySem.W.nsIn K mainGlobals "_law_written" = some (some (.ref f37)))
    (l37 : K.lookup f37 = some ⟨oc37, od37, .func (PySem.W.fnOf "_law_written" "_law_written" (defArgs s_L_written) (defBody s_L_written) (defScope s_L_written) .none kV37 dc37 pm37 an37 cd37 ct37), sl37⟩)
    (c37 : PySem.W.codeIn K cd37 "_law_written" = true) (k37 : PySem.W.keepIn K (.ref f37) = true)
    (a38 : PySem.W.nsIn K mainGlobals "_law_read" = some (some (.ref f38)))
    (l38 : K.lookup f38 = some ⟨oc38, od38, .func (PySem.W.fnOf "_law_read" "_law_read" (defArgs s_L_read) (defBody s_L_read) (defScope s_L_read) .none kV38 dc38 pm38 an38 cd38 ct38), sl38⟩)
    (c38 : PySem.W.codeIn K cd38 "_law_read" = true) (k38 : PySem.W.keepIn K (.ref f38) = true)
    (a39 : PySem.W.nsIn K mainGlobals "_law_right" = some (some (.ref f39)))
    (l39 : K.lookup f39 = some ⟨oc39, od39, .func (PySem.W.fnOf "_law_right" "_law_right" (defArgs s_L_right) (defBody s_L_right) (defScope s_L_right) .none kV39 dc39 pm39 an39 cd39 ct39), sl39⟩)
    (c39 : PySem.W.codeIn K cd39 "_law_right" = true) (k39 : PySem.W.keepIn K (.ref f39) = true)
    (a40 : PySem.W.nsIn K mainGlobals "_law_no_steps" = some (some (.ref f40)))
    (l40 : K.lookup f40 = some ⟨oc40, od40, .func (PySem.W.fnOf "_law_no_steps" "_law_no_steps" (defArgs s_L_no_steps) (defBody s_L_no_steps) (defScope s_L_no_steps) .none kV40 dc40 pm40 an40 cd40 ct40), sl40⟩)
    (c40 : PySem.W.codeIn K cd40 "_law_no_steps" = true) (k40 : PySem.W.keepIn K (.ref f40) = true)
    (a41 : PySem.W.nsIn K mainGlobals "law" = some (some (.ref f41)))
    (l41 : K.lookup f41 = some ⟨oc41, od41, .func (PySem.W.fnOf "law" "law" (defArgs s_law) (defBody s_law) (defScope s_law) .none kV41 dc41 pm41 an41 cd41 ct41), sl41⟩)
    (c41 : PySem.W.codeIn K cd41 "law" = true) (k41 : PySem.W.keepIn K (.ref f41) = true)
    (gKEYWORDS : PySem.W.nsIn K mainGlobals "KEYWORDS" = some (some (.ref pKEYWORDS)))
    (wKEYWORDS : K.lookup pKEYWORDS = some ⟨.type "tuple", odKEYWORDS, .seq itsKEYWORDS nKEYWORDS, slKEYWORDS⟩)
    (vKEYWORDS : itsKEYWORDS.size ≤ sizeLine ∧ Vals (keywordsL.map V.str) itsKEYWORDS.toList)
    (gREPEATING : PySem.W.nsIn K mainGlobals "REPEATING" = some (some (.ref pREPEATING)))
    (wREPEATING : K.lookup pREPEATING = some ⟨.type "tuple", odREPEATING, .seq itsREPEATING nREPEATING, slREPEATING⟩)
    (vREPEATING : itsREPEATING.size ≤ sizeLine ∧ Vals ([Str.ofString "call", Str.ofString "lend"].map V.str) itsREPEATING.toList)
    (gLETTERS : PySem.W.nsIn K mainGlobals "LETTERS" = some (some (.str "abcdefghijklmnopqrstuvwxyz" tLETTERS)))
    (gMAX_LETTERS : PySem.W.nsIn K mainGlobals "MAX_LETTERS" = some (some (.int 8 tMAX_LETTERS)))
    (gMAX_ARGUMENTS : PySem.W.nsIn K mainGlobals "MAX_ARGUMENTS" = some (some (.int 3 tMAX_ARGUMENTS)))
    (zisinstance : PySem.W.nsIn K mainGlobals "isinstance" = some none)
    (zstr : PySem.W.nsIn K mainGlobals "str" = some none)
    (zbool : PySem.W.nsIn K mainGlobals "bool" = some none)
    (zlen : PySem.W.nsIn K mainGlobals "len" = some none)
    (zall : PySem.W.nsIn K mainGlobals "all" = some none)
    (zset : PySem.W.nsIn K mainGlobals "set" = some none)
    (ztuple : PySem.W.nsIn K mainGlobals "tuple" = some none)
    (zlist : PySem.W.nsIn K mainGlobals "list" = some none)
    (zrange : PySem.W.nsIn K mainGlobals "range" = some none)
    (zmax : PySem.W.nsIn K mainGlobals "max" = some none)
    (zmin : PySem.W.nsIn K mainGlobals "min" = some none)
    (zint : PySem.W.nsIn K mainGlobals "int" = some none)
    (zabs : PySem.W.nsIn K mainGlobals "abs" = some none)
    (zenumerate : PySem.W.nsIn K mainGlobals "enumerate" = some none)
    (zzip : PySem.W.nsIn K mainGlobals "zip" = some none)
    {pSR pAR CI CP CL fP : Addr} {esSR esAR : Array DictEntry} {nSR nAR : Nat}
    {nmP qP : Str} {NP : Addr} {bsP : List Value} {snP : List Str} {subP : List Value} {abP : Bool} {colP : Option Bool} {ddP : Option Addr} {m0 m1P m2P m3P m5P : Option Value} {odP anP : Option Addr} {slP : Array (Option Value)} {ocP kVP dcP pmP cdP ctP : Value}
    (gSR : PySem.W.nsIn K mainGlobals "STEP_ROLES" = some (some (.ref pSR))) (wSR : K.lookup pSR = some ⟨.type "dict", none, .dict esSR nSR, #[]⟩) (kSR : PySem.W.KeysLit w.params esSR.toList) (oSR : (pSR == sysModules) = false) (eSR : Entries K stepRoles esSR.toList)
    (gAR : PySem.W.nsIn K mainGlobals "ARGUMENT_ROLES" = some (some (.ref pAR))) (wAR : K.lookup pAR = some ⟨.type "dict", none, .dict esAR nAR, #[]⟩) (kAR : PySem.W.KeysLit w.params esAR.toList) (oAR : (pAR == sysModules) = false) (eAR : Entries K argRoles esAR.toList)
    (gI : PySem.W.nsIn K mainGlobals "InvalidFunction" = some (some (.ref CI))) (xI : PySem.W.excIn K CI [.type "ValueError", .type "Exception", .type "BaseException", .type "object"] "ValueError.__new__" = true) (kI : PySem.W.keepIn K (.ref CI) = true) (bI : PySem.W.subIn K (.ref CI) (.type "BaseException") = some true) (tI : PySem.W.typeIn K (.ref CI) = some (.type "type")) (iI : PySem.W.isClsIn K CI = true) (sI : PySem.W.subIn K (.ref CI) (.ref CI) = some true)
    (gP : PySem.W.nsIn K mainGlobals "ParseError" = some (some (.ref CP))) (xP : K.lookup CP = some (excClassObj nmP qP CP NP bsP (.ref CL :: [.type "ValueError", .type "Exception", .type "BaseException", .type "object"]) true snP subP abP colP ddP m0 m1P m2P m3P m5P "ValueError.__new__")) (saP : PySem.W.findIn K (.ref CP) "__setattr__" = some (some (.builtin "object.__setattr__")))
    (gaP : PySem.W.findIn K (.ref CP) "__getattribute__" = some (some (.builtin "BaseException.__getattribute__"))) (ggP : PySem.W.findIn K (.ref CP) "__getattr__" = some none) (noP : PySem.W.findIn K (.ref CP) "line" = some none) (inP : PySem.W.findIn K (.ref CP) "__init__" = some (some (.ref fP))) (tfP : PySem.W.typeIn K (.ref fP) = some (.type "function"))
    (lP : K.lookup fP = some ⟨ocP, odP, .func (PySem.W.fnOf "__init__" "ParseError.__init__" (defArgs s_Parse_init) (defBody s_Parse_init) (defScope s_Parse_init) .none kVP dcP pmP anP cdP ctP), slP⟩) (cP : PySem.W.codeIn K cdP "ParseError.__init__" = true) (keP : PySem.W.keepIn K (.ref fP) = true)
    (kP : PySem.W.keepIn K (.ref CP) = true) (bP : PySem.W.subIn K (.ref CP) (.type "BaseException") = some true) (tP : PySem.W.typeIn K (.ref CP) = some (.type "type")) (hdP : PySem.W.hasDictIn K CP = true) (iP : PySem.W.isClsIn K CP = true) (sP : PySem.W.subIn K (.ref CP) (.ref CP) = some true)
    : ∃ fd : FuncData, (∀ (s : Shared) (v : Value), BindsTo s fd ⟨[v], []⟩ [("script", v)]) ∧ ∀ base : Heap, K.In base → base.Ns mainGlobals mg → FnOk l.prog w K mg base CX0 16 fa fd ["script"] (spLaw K) := by
  have e := hfa.symm.trans (PySem.W.mg_of X G a41)
  cases e
  have F0 := fun_mk (st := s_is_name) l0 c0 k0
  have b0 := F0.binds (ps := ["value"]) fun _ _ _ _ _ _ us hl => match us, hl with | [_], _ => rfl
  have m0 := PySem.W.mg_of X G a0
  have F1 := fun_mk (st := s_is_any_part) l1 c1 k1
  have b1 := F1.binds (ps := ["value"]) fun _ _ _ _ _ _ us hl => match us, hl with | [_], _ => rfl
  have m1 := PySem.W.mg_of X G a1
  have F2 := fun_mk (st := s_has_step_roles) l2 c2 k2
  have b2 := F2.binds (ps := ["value"]) fun _ _ _ _ _ _ us hl => match us, hl with | [_], _ => rfl
  have m2 := PySem.W.mg_of X G a2
  have F3 := fun_mk (st := s__is_argument) l3 c3 k3
  have b3 := F3.binds (ps := ["value"]) fun _ _ _ _ _ _ us hl => match us, hl with | [_], _ => rfl
  have m3 := PySem.W.mg_of X G a3
  have F4 := fun_mk (st := s__begins_with_word) l4 c4 k4
  have b4 := F4.binds (ps := ["value"]) fun _ _ _ _ _ _ us hl => match us, hl with | [_], _ => rfl
  have m4 := PySem.W.mg_of X G a4
  have F5 := fun_mk (st := s__has_roles) l5 c5 k5
  have b5 := F5.binds (ps := ["value", "roles"]) fun _ _ _ _ _ _ us hl => match us, hl with | [_, _], _ => rfl
  have m5 := PySem.W.mg_of X G a5
  have F6 := fun_mk (st := s__has_role) l6 c6 k6
  have b6 := F6.binds (ps := ["item", "role"]) fun _ _ _ _ _ _ us hl => match us, hl with | [_, _], _ => rfl
  have m6 := PySem.W.mg_of X G a6
  have F7 := fun_mk (st := s__is_variable_role) l7 c7 k7
  have b7 := F7.binds (ps := ["role"]) fun _ _ _ _ _ _ us hl => match us, hl with | [_], _ => rfl
  have m7 := PySem.W.mg_of X G a7
  have F8 := fun_mk (st := s_variables_of) l8 c8 k8
  have b8 := F8.binds (ps := ["step"]) fun _ _ _ _ _ _ us hl => match us, hl with | [_], _ => rfl
  have m8 := PySem.W.mg_of X G a8
  have F9 := fun_mk (st := s_is_step) l9 c9 k9
  have b9 := F9.binds (ps := ["value"]) fun _ _ _ _ _ _ us hl => match us, hl with | [_], _ => rfl
  have m9 := PySem.W.mg_of X G a9
  have F10 := fun_mk (st := s_write_step) l10 c10 k10
  have b10 := F10.binds (ps := ["step"]) fun _ _ _ _ _ _ us hl => match us, hl with | [_], _ => rfl
  have m10 := PySem.W.mg_of X G a10
  have F11 := fun_mk (st := s__write_place) l11 c11 k11
  have b11 := F11.binds (ps := ["name", "part"]) fun _ _ _ _ _ _ us hl => match us, hl with | [_, _], _ => rfl
  have m11 := PySem.W.mg_of X G a11
  have F12 := fun_mk (st := s__write_argument) l12 c12 k12
  have b12 := F12.binds (ps := ["argument"]) fun _ _ _ _ _ _ us hl => match us, hl with | [_], _ => rfl
  have m12 := PySem.W.mg_of X G a12
  have F13 := fun_mk (st := s_read_step) l13 c13 k13
  have b13 := F13.binds (ps := ["text"]) fun _ _ _ _ _ _ us hl => match us, hl with | [_], _ => rfl
  have m13 := PySem.W.mg_of X G a13
  have F14 := fun_mk (st := s__read_step) l14 c14 k14
  have b14 := F14.binds (ps := ["text"]) fun _ _ _ _ _ _ us hl => match us, hl with | [_], _ => rfl
  have m14 := PySem.W.mg_of X G a14
  have F15 := fun_mk (st := s__guess_step) l15 c15 k15
  have b15 := F15.binds (ps := ["text"]) fun _ _ _ _ _ _ us hl => match us, hl with | [_], _ => rfl
  have m15 := PySem.W.mg_of X G a15
  have F16 := fun_mk (st := s__guess_place) l16 c16 k16
  have b16 := F16.binds (ps := ["text"]) fun _ _ _ _ _ _ us hl => match us, hl with | [_], _ => rfl
  have m16 := PySem.W.mg_of X G a16
  have F17 := fun_mk (st := s__guess_call) l17 c17 k17
  have b17 := F17.binds (ps := ["text"]) fun _ _ _ _ _ _ us hl => match us, hl with | [_], _ => rfl
  have m17 := PySem.W.mg_of X G a17
  have F18 := fun_mk (st := s__guess_argument) l18 c18 k18
  have b18 := F18.binds (ps := ["text"]) fun _ _ _ _ _ _ us hl => match us, hl with | [_], _ => rfl
  have m18 := PySem.W.mg_of X G a18
  have F19 := fun_mk (st := s_L_bag) l19 c19 k19
  have b19 := F19.binds (ps := ["script", "at"]) fun _ _ _ _ _ _ us hl => match us, hl with | [_, _], _ => rfl
  have m19 := PySem.W.mg_of X G a19
  have F20 := fun_mk (st := s_L_roll) l20 c20 k20
  have b20 := F20.binds (ps := ["bag", "total"]) fun _ _ _ _ _ _ us hl => match us, hl with | [_, _], _ => rfl
  have m20 := PySem.W.mg_of X G a20
  have F21 := fun_mk (st := s_L_is) l21 c21 k21
  have b21 := F21.binds (ps := ["thing", "due"]) fun _ _ _ _ _ _ us hl => match us, hl with | [_, _], _ => rfl
  have m21 := PySem.W.mg_of X G a21
  have F22 := fun_mk (st := s_L_one) l22 c22 k22
  have b22 := F22.binds (ps := ["bag", "items"]) fun _ _ _ _ _ _ us hl => match us, hl with | [_, _], _ => rfl
  have m22 := PySem.W.mg_of X G a22
  have F23 := fun_mk (st := s_L_word) l23 c23 k23
  have b23 := F23.binds (ps := ["bag"]) fun _ _ _ _ _ _ us hl => match us, hl with | [_], _ => rfl
  have m23 := PySem.W.mg_of X G a23
  have F24 := fun_mk (st := s_L_names) l24 c24 k24
  have b24 := F24.binds (ps := ["bag", "many"]) fun _ _ _ _ _ _ us hl => match us, hl with | [_, _], _ => rfl
  have m24 := PySem.W.mg_of X G a24
  have F25 := fun_mk (st := s_L_is_name) l25 c25 k25
  have b25 := F25.binds (ps := ["value"]) fun _ _ _ _ _ _ us hl => match us, hl with | [_], _ => rfl
  have m25 := PySem.W.mg_of X G a25
  have F26 := fun_mk (st := s_L_is_open) l26 c26 k26
  have b26 := F26.binds (ps := ["value"]) fun _ _ _ _ _ _ us hl => match us, hl with | [_], _ => rfl
  have m26 := PySem.W.mg_of X G a26
  have F27 := fun_mk (st := s_L_is_arg) l27 c27 k27
  have b27 := F27.binds (ps := ["value"]) fun _ _ _ _ _ _ us hl => match us, hl with | [_], _ => rfl
  have m27 := PySem.W.mg_of X G a27
  have F28 := fun_mk (st := s_L_are_args) l28 c28 k28
  have b28 := F28.binds (ps := ["value"]) fun _ _ _ _ _ _ us hl => match us, hl with | [_], _ => rfl
  have m28 := PySem.W.mg_of X G a28
  have F29 := fun_mk (st := s_L_is_way) l29 c29 k29
  have b29 := F29.binds (ps := ["value"]) fun _ _ _ _ _ _ us hl => match us, hl with | [_], _ => rfl
  have m29 := PySem.W.mg_of X G a29
  have F30 := fun_mk (st := s_L_is_step) l30 c30 k30
  have b30 := F30.binds (ps := ["value"]) fun _ _ _ _ _ _ us hl => match us, hl with | [_], _ => rfl
  have m30 := PySem.W.mg_of X G a30
  have F31 := fun_mk (st := s_L_place) l31 c31 k31
  have b31 := F31.binds (ps := ["name", "part"]) fun _ _ _ _ _ _ us hl => match us, hl with | [_, _], _ => rfl
  have m31 := PySem.W.mg_of X G a31
  have F32 := fun_mk (st := s_L_arg_text) l32 c32 k32
  have b32 := F32.binds (ps := ["arg"]) fun _ _ _ _ _ _ us hl => match us, hl with | [_], _ => rfl
  have m32 := PySem.W.mg_of X G a32
  have F33 := fun_mk (st := s_L_text) l33 c33 k33
  have b33 := F33.binds (ps := ["step"]) fun _ _ _ _ _ _ us hl => match us, hl with | [_], _ => rfl
  have m33 := PySem.W.mg_of X G a33
  have F34 := fun_mk (st := s_L_form) l34 c34 k34
  have b34 := F34.binds (ps := ["bag", "names", "parts"]) fun _ _ _ _ _ _ us hl => match us, hl with | [_, _, _], _ => rfl
  have m34 := PySem.W.mg_of X G a34
  have F35 := fun_mk (st := s_L_odd) l35 c35 k35
  have b35 := F35.binds (ps := ["bag", "names"]) fun _ _ _ _ _ _ us hl => match us, hl with | [_, _], _ => rfl
  have m35 := PySem.W.mg_of X G a35
  have F36 := fun_mk (st := s_L_spoiled) l36 c36 k36
  have b36 := F36.binds (ps := ["bag", "step", "names"]) fun _ _ _ _ _ _ us hl => match us, hl with | [_, _, _], _ => rfl
  have m36 := PySem.W.mg_of X G a36
  have F37 := fun_mk (st := s_L_written) l37 c37 k37
  have b37 := F37.binds (ps := ["value"]) fun _ _ _ _ _ _ us hl => match us, hl with | [_], _ => rfl
  have m37 := PySem.W.mg_of X G a37
  have F38 := fun_mk (st := s_L_read) l38 c38 k38
  have b38 := F38.binds (ps := ["text"]) fun _ _ _ _ _ _ us hl => match us, hl with | [_], _ => rfl
  have m38 := PySem.W.mg_of X G a38
  have F39 := fun_mk (st := s_L_right) l39 c39 k39
  have b39 := F39.binds (ps := ["value"]) fun _ _ _ _ _ _ us hl => match us, hl with | [_], _ => rfl
  have m39 := PySem.W.mg_of X G a39
  have F40 := fun_mk (st := s_L_no_steps) l40 c40 k40
  have b40 := F40.binds (ps := []) fun _ _ _ _ _ _ us hl => match us, hl with | [], _ => rfl
  have m40 := PySem.W.mg_of X G a40
  have F41 := fun_mk (st := s_law) l41 c41 k41
  have mKEYWORDS := PySem.W.mg_of X G gKEYWORDS
  have mREPEATING := PySem.W.mg_of X G gREPEATING
  have mLETTERS := PySem.W.mg_of X G gLETTERS
  have mMAX_LETTERS := PySem.W.mg_of X G gMAX_LETTERS
  have mMAX_ARGUMENTS := PySem.W.mg_of X G gMAX_ARGUMENTS
  have nisinstance := PySem.W.mg_none_of X G zisinstance
  have nstr := PySem.W.mg_none_of X G zstr
  have nbool := PySem.W.mg_none_of X G zbool
  have nlen := PySem.W.mg_none_of X G zlen
  have nall := PySem.W.mg_none_of X G zall
  have nset := PySem.W.mg_none_of X G zset
  have ntuple := PySem.W.mg_none_of X G ztuple
  have nlist := PySem.W.mg_none_of X G zlist
  have nrange := PySem.W.mg_none_of X G zrange
  have nmax := PySem.W.mg_none_of X G zmax
  have nmin := PySem.W.mg_none_of X G zmin
  have nint := PySem.W.mg_none_of X G zint
  have nabs := PySem.W.mg_none_of X G zabs
  have nenumerate := PySem.W.mg_none_of X G zenumerate
  have nzip := PySem.W.mg_none_of X G zzip
  refine ⟨PySem.W.fnOf "law" "law" (defArgs s_law) (defBody s_law) (defScope s_law) .none kV41 dc41 pm41 an41 cd41 ct41, fun s v => .of_eq rfl, fun base _ _ => ?_⟩
  have KW : ∃ a, mg "KEYWORDS" = some (.ref a) ∧ WrT K a (keywordsL.map V.str) := ⟨_, mKEYWORDS, _, _, _, wKEYWORDS, rfl, rfl, vKEYWORDS.1, vKEYWORDS.2⟩
  have WR : WrTup K pREPEATING ([Str.ofString "call", Str.ofString "lend"].map V.str) := ⟨_, _, _, wREPEATING, rfl, rfl, vREPEATING.1, vREPEATING.2⟩
  have NT : NameTxt K mg := ⟨KW, ⟨_, mLETTERS⟩, ⟨_, mMAX_LETTERS⟩, nisinstance, nstr, nlen, nall⟩
  have TS : RolesAt K w pSR stepRoles := ⟨_, _, ⟨wSR, kSR, oSR⟩, eSR⟩
  have TA : RolesAt K w pAR argRoles := ⟨_, _, ⟨wAR, kAR, oAR⟩, eAR⟩
  have mSR := PySem.W.mg_of X G gSR
  have mAR := PySem.W.mg_of X G gAR
  have XI : XcP K mg "InvalidFunction" CI := ⟨PySem.W.mg_of X G gI, xI, kI, bI, tI, iI, sI⟩
  have XP : XcI K mg "ParseError" "line" CP fP := ⟨PySem.W.mg_of X G gP, ⟨⟨_, _, _, _, _, _, _, _, _, _, _, _, _, _, _, xP, rfl⟩, saP, bP, tP, kP⟩, inP, tfP, noP, ⟨gaP, ggP, bP, hdP⟩, iP, sP⟩
  have FP := fun_mk (st := s_Parse_init) lP cP keP
  have bPi := FP.binds (ps := ["self", "line"]) fun _ _ _ _ _ _ us hl => match us, hl with | [_, _], _ => rfl
  have cN : Cal l.prog w K mg base 1 "is_name" spIsName := mkCal (ok_isName F0 NT) F0 b0 m0
  have cAny : Cal l.prog w K mg base 2 "is_any_part" spOpen := mkCal (ok_open F1 cN) F1 b1 m1
  have cWd : Cal l.prog w K mg base 1 "_begins_with_word" spWrd := mkCal (ok_wrd F4 nisinstance ntuple nlen nstr) F4 b4 m4
  have cVr : Cal l.prog w K mg base 1 "_is_variable_role" spVr := mkCal (ok_vr F7) F7 b7 m7
  have cA0 : Cal l.prog w K mg base 2 "_is_argument" (spArg false) := mkCal (ok_arg0 F3) F3 b3 m3
  have cRo0 : Cal l.prog w K mg base 3 "_has_role" (spRole false) := mkCal (ok_role (by decide) F6 nisinstance ntuple nlen nall ⟨_, mMAX_ARGUMENTS⟩ cA0 cAny cN) F6 b6 m6
  have cHa0 : Cal l.prog w K mg base 4 "_has_roles" (spHas K false) := mkCal (ok_has F5 nlen nall nzip cRo0) F5 b5 m5
  have cA1 : Cal l.prog w K mg base 5 "_is_argument" (spArg true) := mkCal (ok_arg (by decide) F3 mAR TA cWd cHa0) F3 b3 m3
  have cRo1 : Cal l.prog w K mg base 6 "_has_role" (spRole true) := mkCal (ok_role (by decide) F6 nisinstance ntuple nlen nall ⟨_, mMAX_ARGUMENTS⟩ cA1 cAny cN) F6 b6 m6
  have cHa1 : Cal l.prog w K mg base 7 "_has_roles" (spHas K true) := mkCal (ok_has F5 nlen nall nzip cRo1) F5 b5 m5
  have cHS : Cal l.prog w K mg base 8 "has_step_roles" spStep := mkCal (ok_step (by decide) F2 mSR TS cWd cHa1) F2 b2 m2
  have cVa : Cal l.prog w K mg base 2 "variables_of" spVars := mkCal (ok_vars F8 nzip mSR TS cVr) F8 b8 m8
  have cIS : Cal l.prog w K mg base 9 "is_step" spIsStep := mkCal (ok_isStep (by decide) F9 nlen nset mREPEATING WR cHS cVa) F9 b9 m9
  have cPl : Cal l.prog w K mg base 1 "_write_place" spPlace := mkCal (ok_place F11) F11 b11 m11
  have cWA : Cal l.prog w K mg base 2 "_write_argument" spWArg := mkCal (ok_warg F12 cPl) F12 b12 m12
  have fW := ok_write (by decide) F10 cIS cPl cWA
  have fWb := ok_writeBad XI F10 cIS
  have cW : Cal l.prog w K mg base 10 "write_step" spWrite := mkCal (fW) F10 b10 m10
  have cWx : CalX l.prog w K mg base 10 "write_step" (spWriteX CI) := mkCalX (FnOk.two (FnOk.lift fW) fWb fun _ _ _ _ h => h) F10 b10 m10
  have cGP : Cal l.prog w K mg base 1 "_guess_place" spGP := mkCal (ok_gp F16) F16 b16 m16
  have cGA : Cal l.prog w K mg base 2 "_guess_argument" spGA := mkCal (ok_ga F18 cGP) F18 b18 m18
  have cGC : Cal l.prog w K mg base 3 "_guess_call" spGC := mkCal (ok_gc F17 ntuple cGA) F17 b17 m17
  have cGS : Cal l.prog w K mg base 4 "_guess_step" spGS := mkCal (ok_gs F15 cGP cGC) F15 b15 m15
  have cRS : Cal l.prog w K mg base 11 "_read_step" spRS := mkCal (ok_rs (by decide) F14 nisinstance nstr cGS cIS cW) F14 b14 m14
  have cRd : CalX l.prog w K mg base 13 "read_step" (spRead CP) := mkCalX (ok_read (by decide) XP F13 (ok_init XP FP) bPi cRS) F13 b13 m13
  have cB : Cal l.prog w K mg base 1 "_law_bag" (spBag K) := mkCal (ok_bag F19 nlen nint nabs nmax) F19 b19 m19
  have cR : Cal l.prog w K mg base 1 "_law_roll" spRoll := mkCal (ok_roll F20 nint) F20 b20 m20
  have cI : Cal l.prog w K mg base 1 "_law_is" spIs := mkCal (ok_is F21 nbool nisinstance) F21 b21 m21
  have cO : Cal l.prog w K mg base 2 "_law_one" (spOne K) := mkCal (ok_one F22 nlen cR) F22 b22 m22
  have cWo : Cal l.prog w K mg base 3 "_law_word" spWord := mkCal (ok_word F23 nrange cR cO) F23 b23 m23
  have cNs : Cal l.prog w K mg base 4 "_law_names" spNames := mkCal (ok_names F24 nrange cWo) F24 b24 m24
  have cLN : Cal l.prog w K mg base 1 "_law_is_name" spLName := mkCal (ok_lname F25 nisinstance nstr nlen) F25 b25 m25
  have cLO : Cal l.prog w K mg base 2 "_law_is_open" spOpen := mkCal (ok_lopen F26 nisinstance nstr cLN) F26 b26 m26
  have cLA : Cal l.prog w K mg base 3 "_law_is_arg" spLArg := mkCal (ok_larg F27 nisinstance ntuple nlen cLN cLO) F27 b27 m27
  have cLAs : Cal l.prog w K mg base 4 "_law_are_args" spLArgs := mkCal (ok_largs F28 nisinstance ntuple nlen cLA) F28 b28 m28
  have cLW : Cal l.prog w K mg base 1 "_law_is_way" spLWay := mkCal (ok_lway F29 nisinstance nstr) F29 b29 m29
  have cLS : Cal l.prog w K mg base 5 "_law_is_step" spLStep := mkCal (ok_lstep F30 nisinstance ntuple nstr nlen nenumerate cLN cLO cLW cLAs) F30 b30 m30
  have cLP : Cal l.prog w K mg base 1 "_law_place" spPlace := mkCal (ok_lplace F31) F31 b31 m31
  have cLAT : Cal l.prog w K mg base 2 "_law_arg_text" spWArg := mkCal (ok_largt F32 cLP) F32 b32 m32
  have cLT : Cal l.prog w K mg base 3 "_law_text" spWrite := mkCal (ok_ltext F33 cLP cLAT) F33 b33 m33
  have cLF : Cal l.prog w K mg base 3 "_law_form" spLForm := mkCal (ok_lform F34 nlen ntuple nrange cR cO) F34 b34 m34
  have cLD : Cal l.prog w K mg base 3 "_law_odd" spLOdd := mkCal (ok_lodd F35 cO) F35 b35 m35
  have cLSp : Cal l.prog w K mg base 4 "_law_spoiled" spLSp := mkCal (ok_lsp F36 nlen nlist cR cO cLD) F36 b36 m36
  have cLWr : Cal l.prog w K mg base 14 "_law_written" spWritten := mkCal ((ok_written XI F37 cWx).mono (by decide)) F37 b37 m37
  have cLR : Cal l.prog w K mg base 14 "_law_read" spLRead := mkCal (ok_lread XP F38 cRd) F38 b38 m38
  have cIS14 : Cal l.prog w K mg base 14 "is_step" spIsStep := mkCal ((ok_isStep (by decide) F9 nlen nset mREPEATING WR cHS cVa).mono (by decide)) F9 b9 m9
  have cLRi : Cal l.prog w K mg base 15 "_law_right" spLR := mkCal (ok_lr (by decide) F39 cLS cI (cIS14) cLWr cLT cLR) F39 b39 m39
  have cNo : Cal l.prog w K mg base 1 "_law_no_steps" spNo := mkCal (ok_no F40) F40 b40 m40
  have cLR15 : Cal l.prog w K mg base 15 "_law_read" spLRead := mkCal ((ok_lread XP F38 cRd).mono (by decide)) F38 b38 m38
  exact ok_law (by decide) F41 nrange nmax nmin nlen nisinstance ntuple cB cNs cLF cLD cLSp cLS cLR15 cLRi cNo
end
end Lp
open PySem PySem.W PyProof.Rows
set_option maxHeartbeats 0 in
theorem PySem.Challenge.cw_loanpairs_k05_steps_and_texts_holds : PySem.Challenge.rw_loanpairs_k05_steps_and_texts.Holds := by
  w_on; o_law; k_head; (case hw => w_witness2)
  k_fill
  refine L2.walk_of (l := PySem.Challenge.rw_loanpairs_k05_steps_and_texts) (n := 63) (k := 16) (x := "script") (CX := fun _ => L2.CX0) (sp := fun w => Lp.spLaw _) rfl (by decide) rfl ⟨rfl, by decide, by decide⟩ (fun w h Y => PySem.W.kIn_of Y) ?F (fun _ _ a ns hl _ hS => ⟨a, ns, rfl, hS, hl, fun _ => rfl⟩) (fun _ _ _ _ _ h => h)
  case F =>
    intro w mg fa h KX G hmg
    refine' Lp.all_mk KX G hmg ?a0 ?l0 ?c0 ?k0 ?a1 ?l1 ?c1 ?k1 ?a2 ?l2 ?c2 ?k2 ?a3 ?l3 ?c3 ?k3 ?a4 ?l4 ?c4 ?k4 ?a5 ?l5 ?c5 ?k5 ?a6 ?l6 ?c6 ?k6 ?a7 ?l7 ?c7 ?k7 ?a8 ?l8 ?c8 ?k8 ?a9 ?l9 ?c9 ?k9 ?a10 ?l10 ?c10 ?k10 ?a11 ?l11 ?c11 ?k11 ?a12 ?l12 ?c12 ?k12 ?a13 ?l13 ?c13 ?k13 ?a14 ?l14 ?c14 ?k14 ?a15 ?l15 ?c15 ?k15 ?a16 ?l16 ?c16 ?k16 ?a17 ?l17 ?c17 ?k17 ?a18 ?l18 ?c18 ?k18 ?a19 ?l19 ?c19 ?k19 ?a20 ?l20 ?c20 ?k20 ?a21 ?l21 ?c21 ?k21 ?a22 ?l22 ?c22 ?k22 ?a23 ?l23 ?c23 ?k23 ?a24 ?l24 ?c24 ?k24 ?a25 ?l25 ?c25 ?k25 ?a26 ?l26 ?c26 ?k26 ?a27 ?l27 ?c27 ?k27 ?a28 ?l28 ?c28 ?k28 ?a29 ?l29 ?c29 ?k29 ?a30 ?l30 ?c30 ?k30 ?a31 ?l31 ?c31 ?k31 ?a32 ?l32 ?c32 ?k32 ?a33 ?l33 ?c33 ?k33 ?a34 ?l34 ?c34 ?k34 ?a35 ?l35 ?c35 ?k35 ?a36 ?l36 ?c36 ?k36 ?a37 ?l37 ?c37 ?k37 ?a38 ?l38 ?c38 ?k38 ?a39 ?l39 ?c39 ?k39 ?a40 ?l40 ?c40 ?k40 ?a41 ?l41 ?c41 ?k41 ?gKEYWORDS ?wKEYWORDS ?vKEYWORDS ?gREPEATING ?wREPEATING ?vREPEATING ?gLETTERS ?gMAX_LETTERS ?gMAX_ARGUMENTS ?zisinstance ?zstr ?zbool ?zlen ?zall ?zset ?ztuple ?zlist ?zrange ?zmax ?zmin ?zint ?zabs ?zenumerate ?zzip ?gSR ?wSR ?kSR ?oSR ?eSR ?gAR ?wAR ?kAR ?oAR ?eAR ?gI ?xI ?kI ?bI ?tI ?iI ?sI ?gP ?xP ?saP ?gaP ?ggP ?noP ?inP ?tfP ?lP ?cP ?keP ?kP ?bP ?tP ?hdP ?iP ?sP
    (case a0 => k_is)
    (case l0 => k_is)
    (case c0 => k_is)
    (case k0 => k_is)
    (case a1 => k_is)
    (case l1 => k_is)
    (case c1 => k_is)
    (case k1 => k_is)
    (case a2 => k_is)
    (case l2 => k_is)
    (case c2 => k_is)
    (case k2 => k_is)
    (case a3 => k_is)
    (case l3 => k_is)
    (case c3 => k_is)
    (case k3 => k_is)
    (case a4 => k_is)
    (case l4 => k_is)
    (case c4 => k_is)
    (case k4 => k_is)
    (case a5 => k_is)
    (case l5 => k_is)
    (case c5 => k_is)
    (case k5 => k_is)
    (case a6 => k_is)
    (case l6 => k_is)
    (case c6 => k_is)
    (case k6 => k_is)
    (case a7 => k_is)
    (case l7 => k_is)
    (case c7 => k_is)
    (case k7 => k_is)
    (case a8 => k_is)
    (case l8 => k_is)
    (case c8 => k_is)
    (case k8 => k_is)
    (case a9 => k_is)
    (case l9 => k_is)
    (case c9 => k_is)
    (case k9 => k_is)
    (case a10 => k_is)
    (case l10 => k_is)
    (case c10 => k_is)
    (case k10 => k_is)
    (case a11 => k_is)
    (case l11 => k_is)
    (case c11 => k_is)
    (case k11 => k_is)
    (case a12 => k_is)
    (case l12 => k_is)
    (case c12 => k_is)
    (case k12 => k_is)
    (case a13 => k_is)
    (case l13 => k_is)
    (case c13 => k_is)
    (case k13 => k_is)
    (case a14 => k_is)
    (case l14 => k_is)
    (case c14 => k_is)
    (case k14 => k_is)
    (case a15 => k_is)
    (case l15 => k_is)
    (case c15 => k_is)
    (case k15 => k_is)
    (case a16 => k_is)
    (case l16 => k_is)
    (case c16 => k_is)
    (case k16 => k_is)
    (case a17 => k_is)
    (case l17 => k_is)
    (case c17 => k_is)
    (case k17 => k_is)
    (case a18 => k_is)
    (case l18 => k_is)
    (case c18 => k_is)
    (case k18 => k_is)
    (case a19 => k_is)
    (case l19 => k_is)
    (case c19 => k_is)
    (case k19 => k_is)
    (case a20 => k_is)
    (case l20 => k_is)
    (case c20 => k_is)
    (case k20 => k_is)
    (case a21 => k_is)
    (case l21 => k_is)
    (case c21 => k_is)
    (case k21 => k_is)
    (case a22 => k_is)
    (case l22 => k_is)
    (case c22 => k_is)
    (case k22 => k_is)
    (case a23 => k_is)
    (case l23 => k_is)
    (case c23 => k_is)
    (case k23 => k_is)
    (case a24 => k_is)
    (case l24 => k_is)
    (case c24 => k_is)
    (case k24 => k_is)
    (case a25 => k_is)
    (case l25 => k_is)
    (case c25 => k_is)
    (case k25 => k_is)
    (case a26 => k_is)
    (case l26 => k_is)
    (case c26 => k_is)
    (case k26 => k_is)
    (case a27 => k_is)
    (case l27 => k_is)
    (case c27 => k_is)
    (case k27 => k_is)
    (case a28 => k_is)
    (case l28 => k_is)
    (case c28 => k_is)
    (case k28 => k_is)
    (case a29 => k_is)
    (case l29 => k_is)
    (case c29 => k_is)
    (case k29 => k_is)
    (case a30 => k_is)
    (case l30 => k_is)
    (case c30 => k_is)
    (case k30 => k_is)
    (case a31 => k_is)
    (case l31 => k_is)
    (case c31 => k_is)
    (case k31 => k_is)
    (case a32 => k_is)
    (case l32 => k_is)
    (case c32 => k_is)
    (case k32 => k_is)
    (case a33 => k_is)
    (case l33 => k_is)
    (case c33 => k_is)
    (case k33 => k_is)
    (case a34 => k_is)
    (case l34 => k_is)
    (case c34 => k_is)
    (case k34 => k_is)
    (case a35 => k_is)
    (case l35 => k_is)
    (case c35 => k_is)
    (case k35 => k_is)
    (case a36 => k_is)
    (case l36 => k_is)
    (case c36 => k_is)
    (case k36 => k_is)
    (case a37 => k_is)
    (case l37 => k_is)
    (case c37 => k_is)
    (case k37 => k_is)
    (case a38 => k_is)
    (case l38 => k_is)
    (case c38 => k_is)
    (case k38 => k_is)
    (case a39 => k_is)
    (case l39 => k_is)
    (case c39 => k_is)
    (case k39 => k_is)
    (case a40 => k_is)
    (case l40 => k_is)
    (case c40 => k_is)
    (case k40 => k_is)
    (case a41 => k_is)
    (case l41 => k_is)
    (case c41 => k_is)
    (case k41 => k_is)
    (case gKEYWORDS => k_is)
    (case wKEYWORDS => k_is)
    (case gREPEATING => k_is)
    (case wREPEATING => k_is)
    (case gLETTERS => k_is)
    (case gMAX_LETTERS => k_is)
    (case gMAX_ARGUMENTS => k_is)
    (case zisinstance => k_is)
    (case zstr => k_is)
    (case zbool => k_is)
    (case zlen => k_is)
    (case zall => k_is)
    (case zset => k_is)
    (case ztuple => k_is)
    (case zlist => k_is)
    (case zrange => k_is)
    (case zmax => k_is)
    (case zmin => k_is)
    (case zint => k_is)
    (case zabs => k_is)
    (case zenumerate => k_is)
    (case zzip => k_is)
    (case vKEYWORDS => exact ⟨by decide, by repeat (first | exact .nil | refine .cons ⟨_, rfl⟩ ?_)⟩)
    (case vREPEATING => exact ⟨by decide, by repeat (first | exact .nil | refine .cons ⟨_, rfl⟩ ?_)⟩)
    (case gSR => k_is)
    (case wSR => k_is)
    (case kSR => repeat (first | exact True.intro | refine ⟨⟨_, _, rfl, rfl⟩, ?_⟩))
    (case oSR => rfl)
    (case eSR =>
      refine .cons ⟨_, rfl⟩ ⟨_, rfl, _, _, _, (by k_is), rfl, rfl, ?_, ?_⟩ ?_
      · decide
      · repeat (first | exact .nil | refine .cons ⟨_, rfl⟩ ?_)
      refine .cons ⟨_, rfl⟩ ⟨_, rfl, _, _, _, (by k_is), rfl, rfl, ?_, ?_⟩ ?_
      · decide
      · repeat (first | exact .nil | refine .cons ⟨_, rfl⟩ ?_)
      refine .cons ⟨_, rfl⟩ ⟨_, rfl, _, _, _, (by k_is), rfl, rfl, ?_, ?_⟩ ?_
      · decide
      · repeat (first | exact .nil | refine .cons ⟨_, rfl⟩ ?_)
      refine .cons ⟨_, rfl⟩ ⟨_, rfl, _, _, _, (by k_is), rfl, rfl, ?_, ?_⟩ ?_
      · decide
      · repeat (first | exact .nil | refine .cons ⟨_, rfl⟩ ?_)
      refine .cons ⟨_, rfl⟩ ⟨_, rfl, _, _, _, (by k_is), rfl, rfl, ?_, ?_⟩ ?_
      · decide
      · repeat (first | exact .nil | refine .cons ⟨_, rfl⟩ ?_)
      refine .cons ⟨_, rfl⟩ ⟨_, rfl, _, _, _, (by k_is), rfl, rfl, ?_, ?_⟩ ?_
      · decide
      · repeat (first | exact .nil | refine .cons ⟨_, rfl⟩ ?_)
      refine .cons ⟨_, rfl⟩ ⟨_, rfl, _, _, _, (by k_is), rfl, rfl, ?_, ?_⟩ ?_
      · decide
      · repeat (first | exact .nil | refine .cons ⟨_, rfl⟩ ?_)
      refine .cons ⟨_, rfl⟩ ⟨_, rfl, _, _, _, (by k_is), rfl, rfl, ?_, ?_⟩ ?_
      · decide
      · repeat (first | exact .nil | refine .cons ⟨_, rfl⟩ ?_)
      refine .cons ⟨_, rfl⟩ ⟨_, rfl, _, _, _, (by k_is), rfl, rfl, ?_, ?_⟩ ?_
      · decide
      · repeat (first | exact .nil | refine .cons ⟨_, rfl⟩ ?_)
      refine .cons ⟨_, rfl⟩ ⟨_, rfl, _, _, _, (by k_is), rfl, rfl, ?_, ?_⟩ ?_
      · decide
      · repeat (first | exact .nil | refine .cons ⟨_, rfl⟩ ?_)
      refine .cons ⟨_, rfl⟩ ⟨_, rfl, _, _, _, (by k_is), rfl, rfl, ?_, ?_⟩ ?_
      · decide
      · repeat (first | exact .nil | refine .cons ⟨_, rfl⟩ ?_)
      exact .nil)
    (case gAR => k_is)
    (case wAR => k_is)
    (case kAR => repeat (first | exact True.intro | refine ⟨⟨_, _, rfl, rfl⟩, ?_⟩))
    (case oAR => rfl)
    (case eAR =>
      refine .cons ⟨_, rfl⟩ ⟨_, rfl, _, _, _, (by k_is), rfl, rfl, ?_, ?_⟩ ?_
      · decide
      · repeat (first | exact .nil | refine .cons ⟨_, rfl⟩ ?_)
      refine .cons ⟨_, rfl⟩ ⟨_, rfl, _, _, _, (by k_is), rfl, rfl, ?_, ?_⟩ ?_
      · decide
      · repeat (first | exact .nil | refine .cons ⟨_, rfl⟩ ?_)
      exact .nil)
    (case gI => k_is)
    (case xI => k_exc)
    (case kI => k_is)
    (case bI => k_is)
    (case tI => k_is)
    (case iI => k_is)
    (case sI => first | rfl | k_is)
    (case gP => k_is)
    (case xP => k_is)
    (case saP => k_is)
    (case gaP => k_is)
    (case ggP => k_is)
    (case noP => k_is)
    (case inP => k_is)
    (case tfP => k_is)
    (case lP => k_is)
    (case cP => k_is)
    (case keP => k_is)
    (case kP => k_is)
    (case bP => k_is)
    (case tP => k_is)
    (case hdP => k_is)
    (case iP => k_is)
    (case sP => first | rfl | k_is)
